import PyProof.Rows.All
import Wide.All
import OpenK.AllK
import Wide.FinOn
import KE.KExcIs
import HandS.ForMost
import HandS.ForExc
import HandS.EndBits
import HandS.Wide
import HandS.IsInst
import HandS.ExcInit
import HandS.ExcIs
import HandS.ExcField
import HandS.Evl
import PyProof.ReprLen
import HandS.Head0
import HandS.Head1
import HandS.Head2
import HandS.HeadEnd
import HandS.HeadHook1
import HandS.HeadHook2
import HandS.Defaults
import HandS.Deep
import HandS.Property
import HandS.Strs
import HandS.TryMany
import HandS.TupAny
import HandS.TupMul
import HandS.Style
import HandS.More
import HandS.Walk
import HandS.OwnEq
import KE.GoesMore
import PyProof.EnumMake
import HandS.DictComp
import HandS.ExcOwn
import HandS.MakeKwOnly
import PySem.Challenge.RW_stillmine_k21_shapes_of_patterns
set_option Elab.async false
set_option linter.all false
set_option maxRecDepth 100000
set_option maxHeartbeats 2000000
/-! Calls while no repr is under way: the same layer with one more fact of the surroundings. -/
namespace SM
open PySem PySem.Spec PyProof.Rows L2

structure FnG (P : Program) (w : World) (K : PySem.W.Frag) (mg : Str → Option Value) (base : Heap) (CX : CXT) (k : Nat) (f : Addr) (fd : FuncData) (ps : List Str) (sp : Sp) : Prop where
  len : ∀ vs H Q E, sp vs H Q E → vs.length = ps.length
  go : ∀ (B : Around) (up : List Env) (s : Shared) (H : Hp) (ar : Args) (us : List Value) (vs : List V) (Q : VK) (E : XK),
    B.guards = some [] → Room k B → Env0 P w K mg base B up s H → BindsTo s fd ar (ps.zip us) → Vals vs us → sp vs H Q E →
      codeAny (model P w) B (.call (.ref f) ar) (CR CX up P w H s Q E) s

section
variable {P : Program} {w : World} {K : PySem.W.Frag} {mg : Str → Option Value} {base : Heap} {CX : CXT} {k : Nat} {f : Addr} {fd : FuncData} {ps : List Str} {sp : Sp}
theorem FnG.of (F : FnOk P w K mg base CX k f fd ps sp) : FnG P w K mg base CX k f fd ps sp :=
  ⟨F.len, fun B up s H ar us vs Q E _ hr e b r h => F.run B up s H ar us vs Q E hr e b r h⟩

/-- a def by its body, no repr under way around it -/
theorem okG {x qual : Str} {st : Stmt} {N : List Str} (F : Fun K x qual st f fd) (S : FnScope N ps (defScope st)) (len : ∀ vs H Q E, sp vs H Q E → vs.length = ps.length)
    (body : ∀ (cdv : Value) (B : Around) (up : List Env) (s : Shared) (H : Hp) (vs : List V) (Q : VK) (E : XK), B.guards = some [] →
      Room k (B.deeper (envOfC qual (defScope st) s.heap.objs.size f cdv)) → sp vs H Q E →
      ∃ t, PSs (cxOf CX P w K mg base N qual (defScope st) f cdv B up s H E) (defBody st) t ∧ t { nx := fun _ H' => Q .non H', rt := Q } (start N vs) H) :
    FnG P w K mg base CX (k + 1) f fd ps sp := by
  obtain ⟨oc, od, kV, doc, pm, an, cdv, ct, osl, e, lk, hcd⟩ := F.ex
  subst e
  refine ⟨len, fun B up s H ar us vs Q E hg hr e0 bt rv want => ?_⟩
  have many := len _ _ _ _ want
  have kin : K.In s.heap := e0.mod.kin.keeps (fun b o z => (e0.bs b o z).1)
  have room : s.heap.NoLimit := e0.mod.nolimit.keeps (fun b o z => (e0.bs b o z).1)
  have kinds : ∀ y ∈ ps.zip us, (defScope st).names.lookup y.1 = some .local ∨
      ((defScope st).names.lookup y.1 = some .cell ∧ ((cellsFrom (s.heap.objs.size + 1) (defScope st).names []).lookup y.1).isSome = true) := by
    rintro ⟨n, v⟩ hy
    cases S.par n (List.of_mem_zip hy).1 with
    | inl q => exact Or.inl q
    | inr q => exact Or.inr ⟨q, PySem.W.cellsFrom_some _ _ _ (Or.inl q)⟩
  apply codeAny_call_function hr.depth (kin _ _ lk) rfl S.co S.gen rfl (PySem.W.codeRec_of kin hcd)
  apply bt
  apply wpAny_newFunctionEnv_cells S.kind kinds
  intro env he s1 x
  subst he
  refine ⟨room.keeps x.toInCall.keep, codeAny_func ?_⟩
  obtain ⟨t, ht, q⟩ := body cdv B up s H vs Q E hg (hr.deeper _) want
  have I := inv_start (CX := CX) (E := E) S hr.hd e0 many rv x
  apply wpAny_mono (ht.run [] s1 (start N vs) H _ I q)
  · intro fl s' z
    have fin : ∀ {σ' : L2.St} {H' : Hp} {v : V} {u : Value}, Inv (cxOf CX P w K mg base N qual (defScope st) f cdv B up s H E) [] σ' H' s' → RelV v u → Q v H' → CE up P w H s Q u s' := by
      intro σ' H' v u J rv' q'
      exact ⟨v, H', J.os, J.bare, J.base, J.hok, rv', q'⟩
    cases fl with
    | next =>
      obtain ⟨σ', H', J, q'⟩ := z
      exact fin (v := V.non) (u := Value.none) J rfl q'
    | ret u =>
      obtain ⟨v, σ', H', J, rv', q'⟩ := z
      exact fin J rv' q'
    | brk =>
      obtain ⟨_, _, _, q'⟩ := z
      exact q'.elim
    | cont =>
      obtain ⟨_, _, _, q'⟩ := z
      exact q'.elim
  · exact fun e s' z => z
end

section
variable {X : Cx} {CX : CXT} {k : Nat} {f : Addr} {fd : FuncData} {ps : List Str} {sp : Sp} {dvs : List V} {ds : List Value} {E : XK} {x : Str} {p pos : Pos} {e : Expr} {es : List Expr} {t : TA}
theorem go_fn {pins : List (Addr × Obj)} {σ : L2.St} {H : Hp} {s : Shared} {Q : VK} {us : List Value} {vs : List V} (F : FnG X.prog X.w X.K X.mg X.base CX k f fd ps sp) (hg : X.A.guards = some []) (hr : Room k X.A) (hb : Binds X.K fd ps ds) (hd : Vals dvs ds) (hx : Passes CX X E)
    (I : Inv X pins σ H s) (r : Vals vs us) (want : sp (vs ++ dvs) H Q E) : wpAny (model X.prog X.w) X.A (call (.ref f) us) (EP X pins σ Q) X.xe s := by
  have rr : Vals (vs ++ dvs) (us ++ ds) := Vals.append r hd
  have many : (us ++ ds).length = ps.length := (Vals.length rr).symm.trans (F.len _ _ _ _ want)
  apply wpAny_call
  apply codeAny_mono (F.go X.A X.stack s H ⟨us, []⟩ (us ++ ds) (vs ++ dvs) Q E hg hr I.env0 (hb s us I.kIn many) rr want)
  intro r' s' z
  cases r' with
  | error er => exact hx pins σ H s er s' I z
  | ok fl =>
    cases fl with
    | ret u => exact I.after z
    | next => exact z.elim
    | brk => exact z.elim
    | cont => exact z.elim
theorem pe_callG (F : FnG X.prog X.w X.K X.mg X.base CX k f fd ps sp) (gd : X.A.guards = some []) (hr : Room k X.A) (hg : Gl X x) (hm : X.mg x = some (.ref f)) (hk : PySem.W.keepIn X.K (.ref f) = true) (hb : Binds X.K fd ps ds) (hd : Vals dvs ds) (hx : Passes CX X E)
    (ha : PA X (e :: es) t) (hdb : (x == ("__debug__" : Str)) = false := by decide) (he : starEach (e :: es) X.env = (false, eval e X.env) :: starEach es X.env := by rfl) (hpl : (backTo pos (starEach es X.env)).any (·.1) = false := by rfl) :
    PE X (.Call (.Name x p) (e :: es) [] pos) (tCall sp dvs E t) := by
  constructor
  intro pins s σ H Q I h
  apply wpAny_Call_Name_kw
  apply ld_glob I hg hm _ hdb
  apply PySem.W.callWith_K (h₀ := X.base) I.ok.mod.kin hk _ he hpl
  apply thn (ha.run pos pins s σ H _ I h)
  rintro us s1 ⟨vs, H1, I1, r, q⟩
  exact ⟨I1.kIn, go_fn F gd hr hb hd hx I1 r q⟩
end
end SM
set_option Elab.async false
set_option linter.all false
set_option maxRecDepth 100000
set_option maxHeartbeats 2000000
/-! Data with dicts in it, and repr of it. -/
namespace SM
open PySem PySem.Spec PyProof.Rows L2

def keyD : Key → PyData
  | .inl i => .int i
  | .inr x => .str x
mutual
/-- v stands for the data d in H -/
inductive Dq (K : PySem.W.Frag) (H : Hp) : V → PyData → Prop
  | non : Dq K H .non .none
  | bl (b : Bool) : Dq K H (.bl b) (.bool b)
  | int (i : Int) : Dq K H (.int i) (.int i)
  | str (x : Str) : Dq K H (.str x) (.str x)
  | lst {a : Addr} {xs : List V} {ds : List PyData} : SqL K H a xs → DqAll K H xs ds → Dq K H (.ref a) (.list ds)
  | tup {a : Addr} {xs : List V} {ds : List PyData} : SqT K H a xs → DqAll K H xs ds → Dq K H (.ref a) (.tuple ds)
  | dic {a : Addr} {kvs : List (Key × V)} {ds : List PyData} : H a = some (.dK kvs) → DqAll K H (kvs.map (·.2)) ds → Dq K H (.ref a) (.dict ((kvs.map fun q => keyD q.1).zip ds))
inductive DqAll (K : PySem.W.Frag) (H : Hp) : List V → List PyData → Prop
  | nil : DqAll K H [] []
  | cons {v : V} {vs : List V} {d : PyData} {ds : List PyData} : Dq K H v d → DqAll K H vs ds → DqAll K H (v :: vs) (d :: ds)
end
theorem DqAll.length {K : PySem.W.Frag} {H : Hp} : ∀ {vs : List V} {ds : List PyData}, DqAll K H vs ds → vs.length = ds.length
  | _, _, .nil => rfl
  | _, _, .cons _ t => congrArg (· + 1) t.length
mutual
theorem Dq.mono {K : PySem.W.Frag} {H H' : Hp} (e : Same H H') : ∀ {v : V} {d : PyData}, Dq K H v d → Dq K H' v d
  | _, _, .non => .non
  | _, _, .bl b => .bl b
  | _, _, .int i => .int i
  | _, _, .str x => .str x
  | _, _, .lst s t => .lst (e.seq s) (DqAll.mono e t)
  | _, _, .tup s t => .tup (by
      rcases s with (s | ⟨o, s⟩) | s
      · exact .inl (.inl (e _ _ s))
      · exact .inl (.inr ⟨o, e _ _ s⟩)
      · exact .inr s) (DqAll.mono e t)
  | _, _, .dic s t => .dic (e _ _ s) (DqAll.mono e t)
theorem DqAll.mono {K : PySem.W.Frag} {H H' : Hp} (e : Same H H') : ∀ {vs : List V} {ds : List PyData}, DqAll K H vs ds → DqAll K H' vs ds
  | _, _, .nil => .nil
  | _, _, .cons s t => .cons (Dq.mono e s) (DqAll.mono e t)
end
/-- the table of modules stands as a dict -/
def Sm (base : Heap) : Prop := ∃ mm, base.Ns sysModules mm
section
variable {X : Cx} {pins : List (Addr × Obj)} {σ : L2.St} {H : Hp} {s : Shared}
theorem sm_at (I : Inv X pins σ H s) (sm : Sm X.base) : ∃ o es ep, s.heap.get? sysModules = some o ∧ o.data = .dict es ep := by
  obtain ⟨mm, o, es, ep, e, d, _⟩ := sm
  obtain ⟨e1, n⟩ := I.ok.bs _ _ e
  have nx := I.ok.noex _ _ e
  by_cases hf : sysModules ∈ X.fs
  · obtain ⟨sl, z⟩ := I.base.slot _ _ e1 n hf nx
    exact ⟨_, es, ep, z, d⟩
  · exact ⟨o, es, ep, I.base.keep _ _ e1 n hf nx, d⟩
theorem not_sm (I : Inv X pins σ H s) (sm : Sm X.base) {a : Addr} {o : Obj} {its : Array Value} {n : Nat} (e : s.heap.get? a = some o) (d : o.data = .seq its n) : sysModules ≠ a := by
  intro z
  obtain ⟨o', es, ep, e', d'⟩ := sm_at I sm
  rw [z, e] at e'
  cases e'
  rw [d] at d'
  cases d'
theorem keys_read {h : Heap} {P : Program} {w : World} : ∀ {es : List DictEntry} {kvs : List (Key × Value)}, PySem.Pairs (mixKind P w) es kvs → ReadsAll h (es.map (·.key)) (kvs.map fun q => keyD q.1) []
  | _, _, .nil => ReadsAll.nil
  | _, _, .cons (e := e) (kv := kv) hk hv t => by
    have z := keys_read (h := h) t
    have hk2 : keyIs kv.1 e.key = true := hk
    obtain ⟨k, v⟩ := kv
    rcases keyIs_shape hk2 with ⟨i, t, e1, e2⟩ | ⟨x, t, e1, e2⟩
    · simp only at e1
      subst e1
      simp only [List.map_cons, keyD, e2]
      exact ReadsAll.cons (as := []) (bs := []) (Reads.int i t) z
    · simp only at e1
      subst e1
      simp only [List.map_cons, keyD, e2]
      exact ReadsAll.cons (as := []) (bs := []) (Reads.str x t) z
theorem vals_of {P : Program} {w : World} : ∀ {es : List DictEntry} {kvs : List (Key × Value)}, PySem.Pairs (mixKind P w) es kvs → es.map (·.val) = kvs.map (·.2)
  | _, _, .nil => rfl
  | _, _, .cons (e := e) (kv := kv) hk hv t => by simp only [List.map_cons, hv, vals_of t]
theorem kv_keys {κ : Type} : ∀ {xs : List (κ × V)} {us : List (κ × Value)}, KV xs us → xs.map (·.1) = us.map (·.1) ∧ Vals (xs.map (·.2)) (us.map (·.2))
  | _, _, .nil => ⟨rfl, .nil⟩
  | _, _, .cons r t => by
    obtain ⟨h1, h2⟩ := kv_keys t
    exact ⟨by simp only [List.map_cons, r.1, h1], .cons r.2 h2⟩
theorem unzip_keys : ∀ {ks ds : List PyData}, ks.length = ds.length → (ks.zip ds).map (·.1) = ks ∧ (ks.zip ds).map (·.2) = ds
  | [], [], _ => ⟨rfl, rfl⟩
  | k :: ks, d :: ds, h => by
    obtain ⟨h1, h2⟩ := unzip_keys (ks := ks) (ds := ds) (by simpa using h)
    exact ⟨by simp [h1], by simp [h2]⟩
  | [], _ :: _, h => by cases h
  | _ :: _, [], h => by cases h
mutual
theorem Dq.reads (I : Inv X pins σ H s) (sm : Sm X.base) : ∀ {v : V} {d : PyData} {u : Value}, Dq X.K H v d → RelV v u → ∃ as, Reads s.heap u d as ∧ sysModules ∉ as
  | _, _, _, .non, r => by
    cases r
    exact ⟨_, Reads.none, by simp⟩
  | _, _, _, .bl b, r => by
    cases r
    exact ⟨_, Reads.bool b, by simp⟩
  | _, _, _, .int i, r => by
    obtain ⟨t, rfl⟩ := r
    exact ⟨_, Reads.int i t, by simp⟩
  | _, _, _, .str x, r => by
    obtain ⟨t, rfl⟩ := r
    exact ⟨_, Reads.str x t, by simp⟩
  | _, _, _, .lst hs ha, r => by
    cases r
    obtain ⟨its, rv, ⟨o, n, ho, hc, _, hd⟩, _⟩ := I.list hs
    obtain ⟨as, hr, hn⟩ := DqAll.reads I sm ha rv
    refine ⟨_, Reads.list ho hc hd hr, fun z => ?_⟩
    rcases List.mem_cons.mp z with z | z
    · exact not_sm I sm ho hd z
    · exact hn z
  | _, _, _, .tup hs ha, r => by
    cases r
    obtain ⟨its, rv, ⟨o, ho, hc, n, hd⟩, _⟩ := I.tuple hs
    obtain ⟨as, hr, hn⟩ := DqAll.reads I sm ha rv
    exact ⟨_, Reads.tuple ho hc hd hr, hn⟩
  | _, _, _, .dic (a := a) (kvs := kvs) (ds := ds) hs ha, r => by
    cases r
    obtain ⟨_, ne, vs, kv, o, es, ep, ho, ex, hd, hk, hp, _⟩ := I.hok _ _ hs
    obtain ⟨k1, k2⟩ := kv_keys kv
    obtain ⟨as, hr, hn⟩ := DqAll.reads I sm ha k2
    have lk := DqAll.length ha
    obtain ⟨z1, z2⟩ := unzip_keys (ks := kvs.map fun q => keyD q.1) (ds := ds) (by rw [List.length_map]; rw [List.length_map] at lk; exact lk)
    have rk := keys_read (h := s.heap) hp
    have ek : (vs.map fun q => keyD q.1) = kvs.map fun q => keyD q.1 := by
      have := congrArg (List.map keyD) k1
      simp only [List.map_map] at this
      exact this.symm
    refine ⟨_, Reads.dict ho ex.1 hd (as := []) (bs := as) ?_ ?_, fun z => ?_⟩
    · rw [z1, ← ek]; exact rk
    · rw [z2, vals_of hp]; exact hr
    · have z : sysModules ∈ a :: as := z
      rcases List.mem_cons.mp z with z | z
      · rw [z] at ne
        simp at ne
      · exact hn z
theorem DqAll.reads (I : Inv X pins σ H s) (sm : Sm X.base) : ∀ {vs : List V} {ds : List PyData} {us : List Value}, DqAll X.K H vs ds → Vals vs us → ∃ as, ReadsAll s.heap us ds as ∧ sysModules ∉ as
  | _, _, _, .nil, r => by
    cases r
    exact ⟨_, ReadsAll.nil, by simp⟩
  | _, _, _, .cons h1 h2, .cons r1 r2 => by
    obtain ⟨as, q1, n1⟩ := Dq.reads I sm h1 r1
    obtain ⟨bs, q2, n2⟩ := DqAll.reads I sm h2 r2
    refine ⟨_, ReadsAll.cons q1 q2, fun z => ?_⟩
    rcases List.mem_append.mp z with z | z
    · exact n1 z
    · exact n2 z
end
/-- repr(x), x a list, a tuple or a dict of data -/
def rRepr (K : PySem.W.Frag) : List V → Hp → VK → Prop := fun xs H Q => ∃ (a : Addr) (d : PyData), xs = [.ref a] ∧ Dq K H (.ref a) d ∧ d.showable = true ∧ d.depth ≤ 60 ∧ d.shown.length ≤ sizeLine ∧ Q (.str d.shown) H
theorem call_repr (sm : Sm X.base) (gd : X.A.guards = some []) (hu : X.A.units + 64 < cLine) : CallR X (.builtin "repr") (rRepr X.K) := by
  intro pins s σ H xs us Q I r h
  obtain ⟨a, d, rfl, hd, hs, hp, hz, q⟩ := h
  obtain ⟨u, rfl, ru⟩ := vals1 r
  obtain ⟨as, rd, ns⟩ := Dq.reads I sm hd ru
  obtain rfl : u = Value.ref a := ru
  refine repr_of_reads' rd hs (fun _ => ns) gd (by omega) (fun _ _ e => e) (fun h' t tk k => ?_) hz
  exact ⟨.str _, H, I.kept k, ⟨_, rfl⟩, q⟩
end
end SM
set_option Elab.async false
set_option linter.all false
set_option maxRecDepth 100000
set_option maxHeartbeats 2000000
/-! A law's end where its def asks that no repr is under way. -/
namespace SM
open PySem PySem.Spec PyProof.Rows L2



/-- the script as the one tracked thing, locked -/
def onlyScript (a : Addr) (o : Obj) (xs : List V) : Hp := fun b => if b = a then some (.frz o (.lst xs)) else none
theorem onlyScript_at {a : Addr} {o : Obj} {xs : List V} : onlyScript a o xs a = some (.frz o (.lst xs)) := if_pos rfl
theorem onlyScript_off {a b : Addr} {o : Obj} {xs : List V} (h : b ≠ a) : onlyScript a o xs b = none := if_neg h

section
variable {P : Program} {w : World} {K : PySem.W.Frag} {mg mb : Str → Option Value} {CX : CXT} {k : Nat} {fa a : Addr} {fd : FuncData} {x : Str} {sp : Sp} {s1 : Shared} {vs : List Value} {ns : List Int}
/-- from one abstract heap in which at most the script is tracked -/
theorem endFrom {H : Hp} (KX : K.In s1.heap) (gl : s1.heap.Ns mainGlobals mg) (hb : s1.heap.Ns builtinsNs mb) (hbb : ∀ x : Str, x ≠ "__name__" → mb x = bootBuiltins x) (hlim : s1.heap.NoLimit) (hg : s1.gens = #[])
    (ha : s1.heap.get? a = some { cls := .type "list", data := .seq vs.toArray }) (hr : Room k callerA)
    (sm : ∃ mm, s1.heap.Ns sysModules mm) (F : ∀ base : Heap, K.In base → base.Ns mainGlobals mg → Sm base → FnG P w K mg base CX k fa fd [x] sp) (hbind : ∀ (s : Shared) (u : Value), BindsTo s fd ⟨[u], []⟩ [(x, u)])
    (hCX : ∀ H e s', CX [] H s1 (fun _ _ _ => False) e s' → False)
    (off : ∀ b, b ≠ a → H b = none) (on : ∀ u, H a = some u → K.lookup a = none ∧ ∃ o xs, u = .frz o (.lst xs)) (hok : HOk P w H s1.heap)
    (want : sp [.ref a] H (fun v _ => v = .bl true) fun _ _ _ => False) :
    codeAny (model P w) callerA (.call (.ref fa) ⟨[.ref a], []⟩) (fun r s' => r = .ok (.ret (.bool true)) ∧ OldK s1.heap s'.heap ∧ s'.os = s1.os ∧ AllBare s'.gens) s1 := by
  -- what is no list stands outside of H
  have dictOff : ∀ {b : Addr} {o : Obj} {es : Array DictEntry} {ep : Nat}, s1.heap.get? b = some o → o.data = .dict es ep → H b = none := by
    intro b o es ep e d
    by_cases hba : b = a
    · rw [hba, ha] at e
      cases e
      cases (show Data.seq vs.toArray _ = Data.dict es ep from d)
    · exact off b hba
  have back : ∀ {b : Addr} {m : Str → Option Value}, s1.heap.Ns b m → (hidT s1.heap H).Ns b m := by
    rintro b m ⟨o, es, ep, e, d, r⟩
    exact ⟨o, es, ep, hidT_get e (dictOff e d), d, r⟩
  have kin : K.In (hidT s1.heap H) := by
    intro b o e
    refine hidT_get (KX b o e) ?_
    by_cases hba : b = a
    · cases q : H b with
      | none => rfl
      | some u =>
        rw [hba] at q e
        rw [(on u q).1] at e
        cases e
    · exact off b hba
  have M : Mod K mg (hidT s1.heap H) := by
    refine ⟨kin, back gl, ⟨mb, back hb, hbb⟩, ?_⟩
    obtain ⟨mc, h1, h2⟩ := hlim
    exact ⟨mc, back h1, h2⟩
  have e0 : Env0 P w K mg (hidT s1.heap H) callerA [] s1 H :=
    { frames := rfl, mod := M, bs := fun b o e => of_hidT e, bsz := Nat.le_of_eq (hidT_size _ _), funs := trivial,
      frf := fun b z => absurd (show b ∈ ([] : List Addr) from z) (by simp), hok := hok, bare := .of_eq hg }
  apply codeAny_mono ((F _ kin (back gl) (by obtain ⟨mm, z⟩ := sm; exact ⟨mm, back z⟩)).go callerA [] s1 H ⟨[.ref a], []⟩ [.ref a] [.ref a] _ _ rfl hr e0 (hbind s1 (.ref a)) (.cons rfl .nil) want)
  intro r s' z
  cases r with
  | error e => exact (hCX H e s' z).elim
  | ok fl =>
    cases fl with
    | next => exact z.elim
    | brk => exact z.elim
    | cont => exact z.elim
    | ret u =>
      obtain ⟨v, H', os, bare, un, hok', rv, q⟩ := z
      have q2 : v = .bl true := q
      subst q2
      obtain rfl : u = Value.bool true := rv
      refine ⟨rfl, OldK.of_keep (fun b o e => ?_), os, bare⟩
      have emptyN : ∀ c : Addr, c ∉ ([] : List Addr) := fun c => by simp
      by_cases hba : b = a
      · cases q3 : H b with
        | none => exact un.keep b o e q3 (emptyN b) (emptyN b)
        | some u =>
          have q4 := q3
          rw [hba] at q4
          obtain ⟨_, ob, xs, eu⟩ := on u q4
          subst eu
          obtain ⟨e1, _⟩ := hok b _ q3
          obtain ⟨e2, _⟩ := hok' b _ (un.frzs b ob _ q3)
          exact (e1.symm.trans e ▸ e2)
      · exact un.keep b o e (off b hba) (emptyN b) (emptyN b)
theorem endCall (KX : K.In s1.heap) (gl : s1.heap.Ns mainGlobals mg) (hb : s1.heap.Ns builtinsNs mb) (hbb : ∀ x : Str, x ≠ "__name__" → mb x = bootBuiltins x) (hlim : s1.heap.NoLimit) (hg : s1.gens = #[])
    (ha : s1.heap.get? a = some { cls := .type "list", data := .seq vs.toArray }) (hi : IntsAre vs ns) (hl : ns.length ≤ sizeLine) (hr : Room k callerA)
    (sm : ∃ mm, s1.heap.Ns sysModules mm) (F : ∀ base : Heap, K.In base → base.Ns mainGlobals mg → Sm base → FnG P w K mg base CX k fa fd [x] sp) (hbind : ∀ (s : Shared) (u : Value), BindsTo s fd ⟨[u], []⟩ [(x, u)])
    (hsp : ∀ H : Hp, Only H → SqL K H a (ns.map V.int) → sp [.ref a] H (fun v _ => v = .bl true) fun _ _ _ => False)
    (hCX : ∀ H e s', CX [] H s1 (fun _ _ _ => False) e s' → False) :
    codeAny (model P w) callerA (.call (.ref fa) ⟨[.ref a], []⟩) (fun r s' => r = .ok (.ret (.bool true)) ∧ OldK s1.heap s'.heap ∧ s'.os = s1.os ∧ AllBare s'.gens) s1 := by
  have rv := vals_ints hi
  have lv := hi.length
  cases hk : K.lookup a with
  | some o =>
    have e := KX a o hk
    rw [ha] at e
    cases e
    refine endFrom (H := fun _ => none) KX gl hb hbb hlim hg ha hr sm F hbind hCX (fun _ _ => rfl) (fun u z => by cases z) (fun b u z => by cases z) (hsp _ (fun _ => Or.inl rfl) (Or.inr ?_))
    exact ⟨_, vs.toArray, _, hk, rfl, rfl, rfl, by rw [List.size_toArray, lv]; exact hl, by simpa using rv⟩
  | none =>
    refine endFrom (H := onlyScript a { cls := .type "list", data := .seq vs.toArray } (ns.map V.int)) KX gl hb hbb hlim hg ha hr sm F hbind hCX (fun b h => onlyScript_off h) (fun u z => ?_) (fun b u z => ?_) (hsp _ (fun b => ?_) ?_)
    · rw [onlyScript_at] at z
      cases z
      exact ⟨hk, _, _, rfl⟩
    · by_cases hba : b = a
      · subst hba
        rw [onlyScript_at] at z
        cases z
        exact ⟨ha, by rw [List.length_map]; exact hl, vs, _, rv, ha⟩
      · rw [onlyScript_off hba] at z
        cases z
    · by_cases hba : b = a
      · subst hba
        exact Or.inr ⟨_, _, onlyScript_at⟩
      · exact Or.inl (onlyScript_off hba)
    · exact Or.inl (Or.inr ⟨_, onlyScript_at⟩)
end
/-- the law's walk, the script's bits told, the written part told by a Hook's word Y -/
theorem walkG {l : PySem.W.OpenLaw} {n k : Nat} {q : Program} {loose : List Str} {XP : (Str → Option Value) → Heap → Prop} {YP : World → Heap → Prop} {d : DefRec} {CX : CXT} {x : Str}
    (hn : l.most = some n) (hn2 : n ≤ sizeLine) (hdf : d.params.defaults = []) (hr : Room k callerA) (him : importsNone q = true)
    (F : ∀ (w : World) (mg : Str → Option Value) (fa : Addr) (h : Heap), YP w h → h.Ns mainGlobals mg → mg d.name = some (.ref fa) →
      ∃ (K : PySem.W.Frag) (fd : FuncData) (sp : Sp), K.In h ∧ (∀ (s : Shared) (u : Value), BindsTo s fd ⟨[u], []⟩ [(x, u)]) ∧
        (∀ (H : Hp) (a : Addr) (ns : List Int), ns.length ≤ n → (∀ z ∈ ns, Builtin.Int.intBits z ≤ 1048576) → Only H → SqL K H a (ns.map V.int) → sp [.ref a] H (fun v _ => v = .bl true) fun _ _ _ => False) ∧
        ∀ base : Heap, K.In base → base.Ns mainGlobals mg → Sm base → FnG l.prog w K mg base CX k fa fd [x] sp)
    (hCX : ∀ (H : Hp) (s : Shared) (e : Value) (s' : Shared), CX [] H s (fun _ _ _ => False) e s' → False) :
    PySem.W.WalkO q loose XP YP l.row.toRowW d [] (fun f vs => PySem.call f vs) := by
  apply Att.attach_callB hn hdf
  intro w s0 s1 mg mb fa o pm cd doc a vs ns G Y ho hd hcd hmg hobj hints many bits hg
  obtain ⟨K, fd, sp, kin, hb, hsp, hF⟩ := F w mg fa _ Y G.T.g hmg
  exact endCall kin G.T.g G.T.b G.T.builtins G.T.nolimit hg hobj hints (Nat.le_trans many hn2) hr (by obtain ⟨mm, z, _⟩ := (G.T.seer him).mods; exact ⟨mm, z⟩) hF hb (fun H ho hs => hsp H a ns many bits ho hs) (fun H e s' => hCX H s1 e s')
end SM
set_option Elab.async false
set_option linter.all false
set_option maxRecDepth 100000
set_option maxHeartbeats 2000000
/-! The head's facts, one more Bool of one's own beside. -/
namespace SM
open PySem PySem.Spec PyProof.Rows L2
abbrev AlS : Type := He.AlD × Bool
def obsS (n : Nat) (fa : List He.Fa) (fn : List He.DefD) (ex : PySem.W.Frag → Bool) (g : Addr → Option Obj) : AlS := (He.obsDG n fa fn g, ex (He.frG g (He.asD g n)))
def hookS (n : Nat) (fa : List He.Fa) (fn : List He.DefD) (ex : PySem.W.Frag → Bool) : PySem.W.Hook where
  α := AlS
  obs := fun s => obsS n fa fn ex s.heap.get?
  val := fun _ => (He.valD fn, true)
  says := fun _ h => ∃ K : PySem.W.Frag, K.In h ∧ He.SaysD fa fn K ∧ ex K = true
  of := fun _ _ e => ⟨_, He.frG_in, congrArg (fun z : AlS => z.1) e, congrArg (fun z : AlS => z.2) e⟩
  keeps := fun _ _ _ ⟨K, hK, c⟩ k => ⟨K, PySem.W.Frag.In.keeps hK k, c⟩
theorem obsS_eq {n : Nat} {fa : List He.Fa} {fn : List He.DefD} {ex : PySem.W.Frag → Bool} {g : Addr → Option Obj} {s : Shared} (h : ∀ a, g a = s.heap.get? a) : obsS n fa fn ex g = (hookS n fa fn ex).obs s := by
  have e : g = s.heap.get? := funext h
  rw [e] <;> rfl
end SM
set_option Elab.async false
set_option linter.all false
set_option maxRecDepth 100000
set_option maxHeartbeats 4000000
/-! An own exception class over ValueError, called with one keyword. -/
namespace SM
open PySem PySem.Spec PyProof.Rows L2 PySem.HandSPX
section
variable {M : Model} {A : Around} {E : Value → Shared → Prop} {h : Heap} {g : Array GenState} {d : Drawn} {t : Nat} {os : OsState}
variable {nm q : Str} {C N : Addr} {bs bm : List Value} {hdct : Bool} {sn : List Str} {sub : List Value} {ab : Bool} {col : Option Bool} {dd : Option Addr} {k0 k1 k2 k3 k5 : Option Value}
theorem kw_check (hT : refsVE bm = true) {f : Str} {v : Value} {Q : Unit → Shared → Prop}
    (hC : h.get? C = some (excClassObj nm q C N bs bm hdct sn sub ab col dd k0 k1 k2 k3 k5 "ValueError.__new__")) (want : Q () ⟨h, g, d, t, os⟩) :
    wpAny M A (checkBuiltinCall "ValueError.__new__" ⟨[.ref C], [(f, v)]⟩) Q E ⟨h, g, d, t, os⟩ := by
  have F := PySem.F.excBase_ValueError
  have holds : (Value.ref C :: bm).contains (.type "ValueError") = true := by
    rw [List.contains_cons, refsVE_contains "ValueError" bm hT, F.hasB, Bool.or_true]
  simp only [checkBuiltinCall, F.newKind, F.newSplit, F.newRow]
  repeat (first
    | refine wpAny_loadPart_at hC ?_
    | (refine wpAny_isSubtype_exc hC ?_; rw [holds])
    | refine wpAny_staticBase_exc hC ?_
    | refine wpAny_madeBy_exc hC ?_
    | wp_step
    | simp only [bne_self_eq_false, Bool.false_eq_true, if_false])
  exact want
end
section
variable {prog : Program} {w : World} {A : Around} {E : Value → Shared → Prop} {R : Result → Shared → Prop} {h : Heap} {g : Array GenState} {d : Drawn} {t : Nat} {os : OsState}
variable {nm q : Str} {C N : Addr} {bs bm : List Value} {hdct : Bool} {sn : List Str} {sub : List Value} {ab : Bool} {col : Option Bool} {dd : Option Addr} {k0 k1 k2 k3 k5 : Option Value} {f : Str} {v : Value}
/-- the heap with the fresh exception and its empty args -/
abbrev kwHeap (h : Heap) (C : Addr) : Heap := (h.push (PySem.W.kdv_tup [])).push (excO C h.objs.size)
theorem kw_new (hT : refsVE bm = true) (hC : h.get? C = some (excClassObj nm q C N bs bm hdct sn sub ab col dd k0 k1 k2 k3 k5 "ValueError.__new__"))
    (want : R (.ok (.ret (.ref (h.objs.size + 1)))) ⟨kwHeap h C, g, d, t, os⟩) :
    codeAny (model prog w) A (.builtin "ValueError.__new__" ⟨[.ref C], [(f, v)]⟩) R ⟨h, g, d, t, os⟩ := by
  have F := PySem.F.excBase_ValueError
  have e1 := F.ends
  have has : ∀ X : String, (Value.ref C :: bm).contains (.type X) = ([Value.type "ValueError", .type "Exception", .type "BaseException", .type "object"] : List Value).contains (.type X) := by
    intro X
    rw [List.contains_cons, refsVE_contains X bm hT]
    simp
  have c1 : (Value.ref C :: bm).contains (.type "ValueError") = true := (has _).trans F.hasB
  have c2 : (Value.ref C :: bm).contains (.type "AttributeError") = false := (has _).trans F.noAttr
  have c3 : (Value.ref C :: bm).contains (.type "NameError") = false := (has _).trans F.noName
  apply codeAny_builtinAt F.entry
  unfold Builtin.«BaseException.__new__»
  apply PySem.wpAt_bind
  show PySem.wpAt _ _ _ (stack >>= _) _ _ _
  refine PySem.wpAt_bind (PySem.wpAt_stack fun p below => ?_)
  refine PySem.wpAt_of_wpAny ?_
  wp_walk
  apply PySem.wpAt_of_wpAny
  rw [F.owner]
  repeat (first
    | with_reducible refine wpAny_loadPart_at hC ?_
    | with_reducible refine wpAny_madeHere_exc F.canon hC ?_
    | (with_reducible refine wpAny_isSubtype_exc hC ?_; first | rw [c1] | rw [c2] | rw [c3])
    | wp_step)
  show R _ _
  rw [Heap.size_push]
  exact want
theorem kw_type (hT : refsVE bm = true) {fI : Addr} {Q : Fin → Shared → Prop} (hC : h.get? C = some (excClassObj nm q C N bs bm hdct sn sub ab col dd k0 k1 k2 k3 k5 "ValueError.__new__"))
    (hi : PySem.W.Looks (model prog w) h (typeLookup (.ref C) "__init__") (some (.ref fI))) (hb : ∀ self, PySem.W.Looks (model prog w) h (bindSpecial (.ref fI) self) (.ref fI, [self]))
    (run : codeAny (model prog w) A (.call (.ref fI) ⟨[.ref (h.objs.size + 1)], [(f, v)]⟩)
      (fun r s' => match r with | .ok (.ret v) => v = .none ∧ Q (.done (.ret (.ref (h.objs.size + 1)))) s' | .ok _ => False | .error e => E e s') ⟨kwHeap h C, g, d, t, os⟩) :
    wpAny (model prog w) A (Builtin.«type.__call__» ⟨[.ref C], [(f, v)]⟩) Q E ⟨h, g, d, t, os⟩ := by
  have F := PySem.F.excBase_ValueError
  repeat (first
    | with_reducible refine wpAny_madeBy_exc hC ?_
    | with_reducible refine wpAny_loadPart_at hC ?_
    | wp_step)
  apply codeAny_call_builtin_code (Code.quiet_builtin _ F.quiet)
  apply kw_check hT hC
  apply kw_new hT hC
  show wpAny _ _ _ _ _ _
  have old : ∀ b o, h.get? b = some o → (kwHeap h C).get? b = some o := fun b o z => Heap.get?_push_of_some _ (Heap.get?_push_of_some _ z)
  have hC1 := old _ _ hC
  have made : (kwHeap h C).get? (h.objs.size + 1) = some (excO C h.objs.size) := by heap_get
  have own : (Value.ref C :: bm).contains (.ref C) = true := by simp
  have i1 := hi.keeps old
  have b1 := (hb (.ref (h.objs.size + 1))).keeps old
  unfold isInstance
  repeat (first
    | with_reducible refine wpAny_loadPart_at made ?_
    | (with_reducible refine wpAny_isSubtype_exc hC1 ?_; rw [own])
    | wp_step)
  show wpAny _ _ (typeLookup (.ref C) _) _ _ _
  apply i1.at
  apply wpAny_holding
  apply wpAny_bind
  apply b1.at
  apply wpAny_bind
  apply wpAny_call
  apply codeAny_mono run
  intro r s' z
  rcases r with e | (u | _ | _ | _)
  all_goals first
    | exact z.elim
    | exact z
    | (obtain ⟨rfl, z⟩ := z
       first
         | exact wpAny_pure (wpAny_pure z)
         | (wp_walk; exact z))
theorem kw_call (hT : refsVE bm = true) {fI : Addr} (hC : h.get? C = some (excClassObj nm q C N bs bm hdct sn sub ab col dd k0 k1 k2 k3 k5 "ValueError.__new__"))
    (hi : PySem.W.Looks (model prog w) h (typeLookup (.ref C) "__init__") (some (.ref fI))) (hb : ∀ self, PySem.W.Looks (model prog w) h (bindSpecial (.ref fI) self) (.ref fI, [self]))
    (run : codeAny (model prog w) (A.under (.builtin "type.__call__" ⟨[.ref C], [(f, v)]⟩)) (.call (.ref fI) ⟨[.ref (h.objs.size + 1)], [(f, v)]⟩) (PySem.W.InitBack (h.objs.size + 1) R) ⟨kwHeap h C, g, d, t, os⟩) :
    codeAny (model prog w) A (.call (.ref C) ⟨[], [(f, v)]⟩) R ⟨h, g, d, t, os⟩ := by
  have a1 := tc_lookup
  have a2 := tc_bind (.ref C)
  have ty : (⟨h, g, d, t, os⟩ : Shared).TypeIs (.ref C) "type" := ⟨_, hC, rfl⟩
  apply codeAny_of_tree
  show wpAny _ _ (callAny (.ref C) _) _ _ _
  repeat (any_goals (first
    | with_reducible refine wpAny_loadPart_at hC ?_
    | wp_step
    | assumption))
  refine ⟨rfl, ?_⟩
  apply codeAny_call_builtin_at (Code.quiet_builtin _ (by decide +kernel)) entry_typeCall
  apply wpAny_check_type_call_sub hC
  apply kw_type hT hC hi hb
  apply codeAny_mono run
  intro r s' z
  rcases r with e | (u | _ | _ | _) <;> exact z
end
end SM
set_option Elab.async false
set_option linter.all false
set_option maxRecDepth 100000
set_option maxHeartbeats 4000000
/-! Own errors held as values: made by place and by name, their field read, isinstance of them; a power of a great int. -/
namespace SM
open PySem PySem.Spec PyProof.Rows L2 PySem.HandSPX

/-- what the written part says of an own error class at C, its __init__ at fI -/
structure ErrC (K : PySem.W.Frag) (C fI : Addr) : Prop where
  ox : OexC K C
  iC : PySem.W.findIn K (.ref C) "__init__" = some (some (.ref fI))
  tI : PySem.W.typeIn K (.ref fI) = some (.type "function")
  is : ExcC K C
/-- the def __init__ of an error class that stores its one argument as f -/
def spErr (K : PySem.W.Frag) (f : Str) : Sp := fun vs H Q _ => ∃ (a C : Addr) (v : V), vs = [.ref a, v] ∧ OexC K C ∧ PySem.W.findIn K (.ref C) f = some none ∧ H a = some (exo a C none) ∧
  ∀ dx, H dx = none → dx ≠ a → Q .non (upd (upd H dx (exd dx [(f, v)])) a (exo a C (some dx)))
/-- C(e): a new error, its field told -/
def tErr (C : Addr) (f : Str) (te : TE) : TE := fun σ H Q => te σ H fun v H1 => ∀ a dx, H1 a = none → H1 dx = none → dx ≠ a → Q (.ref a) (upd (upd H1 dx (exd dx [(f, v)])) a (exo a C (some dx)))
theorem upd_over {H : Hp} {a b : Addr} {o o' u : HO} (h : b ≠ a) : upd (upd (upd H a o) b u) a o' = upd (upd H b u) a o' := by
  funext c
  by_cases hc : c = a
  · rw [hc, upd_same, upd_same]
  · rw [upd_ne hc, upd_ne hc]
    by_cases hb : c = b
    · rw [hb, upd_same, upd_same]
    · rw [upd_ne hb, upd_ne hb, upd_ne hc]
section
variable {X : Cx} {CX : CXT} {x f : Str} {C fI : Addr} {k : Nat} {fd : FuncData} {ps : List Str} {e : Expr} {te : TE} {p pos kpos : Pos}
theorem run_err {pins : List (Addr × Obj)} {σ : L2.St} {H : Hp} {s : Shared} {Q : VK} {v : V} {u : Value} {ar : Args} {kw : List (Str × Value)} {us : List Value} (T : ErrC X.K C fI) (hf : PySem.W.findIn X.K (.ref C) f = some none) (F : FnOk X.prog X.w X.K X.mg X.base CX k fI fd ps (spErr X.K f))
    (hr : Room (k + 1) X.A) (hx : Passes CX X (fun _ _ _ => False)) (I : Inv X pins σ H s) (rv : RelV v u) (ha : ar = ⟨us, kw⟩)
    (bt : ∀ (s' : Shared), X.K.In s'.heap → BindsTo s' fd ⟨.ref (s.heap.objs.size + 1) :: us, kw⟩ (ps.zip [.ref (s.heap.objs.size + 1), u])) (old : List Value) (hold : old.length ≤ sizeLine)
    (make : ∀ {R : Result → Shared → Prop}, codeAny (model X.prog X.w) (X.A.under (.builtin "type.__call__" ⟨.ref C :: us, kw⟩)) (.call (.ref fI) ⟨.ref (s.heap.objs.size + 1) :: us, kw⟩) (PySem.W.InitBack (s.heap.objs.size + 1) R)
      { s with heap := (s.heap.push (PySem.W.kdv_tup old)).push (excO C s.heap.objs.size) } → codeAny (model X.prog X.w) X.A (.call (.ref C) ar) R s)
    (want : ∀ a dx, H a = none → H dx = none → dx ≠ a → Q (.ref a) (upd (upd H dx (exd dx [(f, v)])) a (exo a C (some dx)))) :
    wpAny (model X.prog X.w) X.A (call (.ref C) us kw) (EP X pins σ Q) X.xe s := by
  subst ha
  have fresh : H (s.heap.objs.size + 1) = none := I.hok.fresh (Nat.le_succ _)
  have keep : ∀ b o, s.heap.get? b = some o → ((s.heap.push (PySem.W.kdv_tup old)).push (excO C s.heap.objs.size)).get? b = some o := fun b o z => Heap.get?_push_of_some _ (Heap.get?_push_of_some _ z)
  have there : ((s.heap.push (PySem.W.kdv_tup old)).push (excO C s.heap.objs.size)).get? (s.heap.objs.size + 1) = some (excO C s.heap.objs.size) := by heap_get
  have I2 : Inv X pins σ (upd H (s.heap.objs.size + 1) (exo (s.heap.objs.size + 1) C none)) { s with heap := (s.heap.push (PySem.W.kdv_tup old)).push (excO C s.heap.objs.size), toks := s.toks } :=
    I.laid (t' := s.toks) (a := s.heap.objs.size + 1) (o := exo (s.heap.objs.size + 1) C none) keep (Nat.le_succ _) (exo_ok there)
  apply wpAny_call
  apply make
  have rr : Vals [V.ref (s.heap.objs.size + 1), v] [Value.ref (s.heap.objs.size + 1), u] := .cons rfl (.cons rv .nil)
  have q : spErr X.K f [V.ref (s.heap.objs.size + 1), v] (upd H (s.heap.objs.size + 1) (exo (s.heap.objs.size + 1) C none)) (fun z H2 => z = .non ∧ Q (.ref (s.heap.objs.size + 1)) H2) (fun _ _ _ => False) := by
    refine ⟨_, C, v, rfl, T.ox, hf, upd_same, fun dx n ne => ⟨rfl, ?_⟩⟩
    rw [upd_over ne]
    rw [upd_ne ne] at n
    exact want _ _ fresh n ne
  apply codeAny_mono (F.run _ X.stack _ _ ⟨.ref (s.heap.objs.size + 1) :: us, kw⟩ [.ref (s.heap.objs.size + 1), u] _ _ (fun _ _ _ => False) (hr.make C us kw) (I2.env0.make C us kw) (bt _ I2.kIn) rr q)
  intro r s' z
  cases r with
  | error er => exact hx pins σ _ _ er s' I2 z
  | ok fl =>
    cases fl with
    | next => exact z.elim
    | brk => exact z.elim
    | cont => exact z.elim
    | ret w =>
      obtain ⟨y, H', I3, ry, ey, q3⟩ := I2.after z
      subst ey
      exact ⟨ry, ⟨V.ref (s.heap.objs.size + 1), H', I3, rfl, q3⟩⟩
theorem pe_err (T : ErrC X.K C fI) (hf : PySem.W.findIn X.K (.ref C) f = some none) (F : FnOk X.prog X.w X.K X.mg X.base CX k fI fd ["self", f] (spErr X.K f)) (hr : Room (k + 1) X.A) (hb : Binds X.K fd ["self", f] []) (hx : Passes CX X (fun _ _ _ => False))
    (hm : X.mg x = some (.ref C)) (hg : Gl X x) (he : PE X e te) (hdb : (x == ("__debug__" : Str)) = false := by decide) (hs : starEach [e] X.env = (false, eval e X.env) :: starEach [] X.env := by rfl) (hpl : (backTo pos (starEach [] X.env)).any (·.1) = false := by rfl) :
    PE X (.Call (.Name x p) [e] [] pos) (tErr C f te) := by
  constructor
  intro pins s σ H Q I h
  obtain ⟨nm, q, N, bs, bm, sn, sub, ab, col, dd, k0, k1, k2, k3, k5, hC, hbm⟩ := T.ox.cls
  apply wpAny_Call_Name_kw
  apply ld_glob I hg hm _ hdb
  let W : List V → Hp → Prop := fun vs H1 => match vs with
    | [v] => ∀ a dx, H1 a = none → H1 dx = none → dx ≠ a → Q (.ref a) (upd (upd H1 dx (exd dx [(f, v)])) a (exo a C (some dx)))
    | _ => False
  refine PySem.W.callWith_K (h₀ := X.base) I.ok.mod.kin T.ox.kC (thn ((pa_cons he pa_nil hs).run pos pins s σ H W I h) fun us s1 z => ?_) hs hpl
  obtain ⟨vs, H1, I1, r, want⟩ := z
  match vs, r, want with
  | [v], .cons (b := u) ru .nil, want =>
    refine ⟨I1.kIn, run_err (us := [u]) (kw := []) (ps := ["self", f]) (old := [u]) T hf F hr hx I1 ru rfl (fun s' kin => hb s' [.ref (s1.heap.objs.size + 1), u] kin rfl) (by show 1 ≤ sizeLine; rw [sizeLine_eq]; omega) (fun run => ?_) want⟩
    obtain ⟨hp, g, d, t, os⟩ := s1
    exact call_own PySem.F.excBase_ValueError (fun Y => refsVE_contains Y bm hbm) (I1.kIn _ _ hC) (PySem.W.looks_findIn I1.kIn T.iC) (fun self => PySem.W.bind_fn I1.kIn self T.tI) (by show 1 ≤ sizeLine; rw [sizeLine_eq]; omega) run
/-- C(f=e) -/
theorem pe_errK (T : ErrC X.K C fI) (hf : PySem.W.findIn X.K (.ref C) f = some none) (F : FnOk X.prog X.w X.K X.mg X.base CX k fI fd ["self", f] (spErr X.K f)) (hr : Room (k + 1) X.A)
    (hb : ∀ (s : Shared) (self u : Value), BindsTo s fd ⟨[self], [(f, u)]⟩ [("self", self), (f, u)]) (hx : Passes CX X (fun _ _ _ => False))
    (hm : X.mg x = some (.ref C)) (hg : Gl X x) (he : PE X e te) (hdb : (x == ("__debug__" : Str)) = false := by decide) (hall : (backToKw pos (keywordEach [⟨some f, e, kpos⟩] X.env)).all (·.1.isSome) = true := by rfl)
    (hks : (backToKw pos (keywordEach [⟨some f, e, kpos⟩] X.env)).filterMap (·.1) = [f] := by rfl) (hpl : ((backTo pos (starEach [] X.env)).any (·.1) || (backToKw pos (keywordEach [⟨some f, e, kpos⟩] X.env)).any (·.1.isNone)) = false := by rfl) :
    PE X (.Call (.Name x p) [] [⟨some f, e, kpos⟩] pos) (tErr C f te) := by
  constructor
  intro pins s σ H Q I h
  obtain ⟨nm, q, N, bs, bm, sn, sub, ab, col, dd, k0, k1, k2, k3, k5, hC, hbm⟩ := T.ox.cls
  apply wpAny_Call_Name_kw
  apply ld_glob I hg hm _ hdb
  let W : List V → Hp → Prop := fun vs H1 => match vs with
    | [v] => ∀ a dx, H1 a = none → H1 dx = none → dx ≠ a → Q (.ref a) (upd (upd H1 dx (exd dx [(f, v)])) a (exo a C (some dx)))
    | _ => False
  refine PySem.W.callWith_KW0 (h₀ := X.base) I.ok.mod.kin T.ox.kC hall (thn ((pk_cons he pk_nil).run pos pins s σ H W I h) fun us s1 z => ?_) hpl
  obtain ⟨vs, H1, I1, r, want⟩ := z
  rw [hks]
  match vs, r, want with
  | [v], .cons (b := u) ru .nil, want =>
    refine ⟨I1.kIn, run_err (us := []) (kw := [(f, u)]) (ps := ["self", f]) (old := []) T hf F hr hx I1 ru rfl (fun s' kin => hb s' _ u) (Nat.zero_le _) (fun run => ?_) want⟩
    obtain ⟨hp, g, d, t, os⟩ := s1
    exact kw_call hbm (I1.kIn _ _ hC) (PySem.W.looks_findIn I1.kIn T.iC) (fun self => PySem.W.bind_fn I1.kIn self T.tI) run

/-- e.f, e an error that is held -/
def tErrF (K : PySem.W.Frag) (f : Str) (te : TE) : TE := fun σ H Q => te σ H fun z H1 => ∃ (a C dx : Addr) (fs : List (Str × V)) (v : V), z = .ref a ∧ H1 a = some (exo a C (some dx)) ∧ H1 dx = some (exd dx fs) ∧ ExcC K C ∧ PySem.W.findIn K (.ref C) f = some none ∧ fs.lookup f = some v ∧ Q v H1
theorem inst_err {pins : List (Addr × Obj)} {σ : L2.St} {H : Hp} {s : Shared} {a dx : Addr} {fs : List (Str × V)} (I : Inv X pins σ H s) (ea : H a = some (exo a C (some dx))) (ed : H dx = some (exd dx fs)) :
    ∃ (ox : Obj) (od : Obj) (mA : Str → Option Value), PySem.W.InstAt s.heap a ox C (some od) ∧ (∀ g, PySem.W.lookIn g od = some (mA g)) ∧ ∀ g, RelO (fs.lookup g) (mA g) := by
  obtain ⟨t1, ho⟩ := exo_at I.hok ea
  obtain ⟨mA, hns, rel⟩ := exd_at I.hok ed
  obtain ⟨od, hod, hl⟩ := lookIn_ns hns
  exact ⟨_, od, mA, ⟨ho, rfl, rfl, hod⟩, hl, rel⟩
theorem pe_errF (he : PE X e te) (hb : attributeBase e f X.env (eval e X.env) = eval e X.env := by rfl) : PE X (.Attribute e f pos) (tErrF X.K f te) := by
  constructor
  intro pins s σ H Q I h
  refine attr_of hb (thn (he.run pins s σ H _ I h) fun u s1 z => ?_)
  obtain ⟨y, H1, I1, ry, a, C, dx, fs, v, ey, ea, ed, T, hno, l, q⟩ := z
  subst ey
  obtain rfl : u = Value.ref a := ry
  obtain ⟨ox, od, mA, J, hl, rel⟩ := inst_err I1 ea ed
  obtain ⟨w, hw, rw'⟩ := RelO.some_of (v := v) (o := mA f) (by rw [← l]; exact rel f)
  exact exc_get I1.kIn J T.hg T.hk T.hs (PySem.W.findObj_own T.hd hno rfl (by rw [hl, hw])) (handed_of rw') ⟨v, H1, I1.tok _, rw', q⟩
/-- isinstance(e, c), e an error that is held -/
def rErrI (K : PySem.W.Frag) : List V → Hp → VK → Prop := fun xs H Q => ∃ (a C dx : Addr) (fs : List (Str × V)) (c : V) (cv : Value) (b : Bool), xs = [.ref a, c] ∧ H a = some (exo a C (some dx)) ∧ H dx = some (exd dx fs) ∧ ExcC K C ∧ (∀ u, RelV c u → u = cv) ∧ PySem.W.kitOne K (.ref C) cv = some b ∧ Q (.bl b) H
theorem call_errI : CallR X (.builtin "isinstance") (rErrI X.K) := by
  intro pins s σ H xs us Q I r h
  obtain ⟨a, C, dx, fs, c, cv, b, rfl, ea, ed, T, hcv, hk, q⟩ := h
  match us, r with
  | [_, uc], .cons ra (.cons rc .nil) =>
    obtain rfl := ra
    have ec := hcv _ rc
    subst ec
    obtain ⟨ox, od, mA, J, hl, rel⟩ := inst_err I ea ed
    have cl : (PySem.W.clsIn X.K C).isSome = true := by
      obtain ⟨cd, hc, _⟩ := PySem.W.any_some T.hd
      rw [hc]
      rfl
    exact PySem.W.kia_one (PySem.W.kitx_exc cl T.hg T.hk T.hs T.ha T.hn T.ht T.hm) I.kIn J hk (fun z => nomatch z) fun tk => ⟨.bl b, H, I.tok tk, rfl, q⟩
end
/-- a power of a great int -/
theorem op_powW {X : Cx} : OpR X (binaryOp .Pow) (rI (fun i j => 0 ≤ j ∧ j ≤ 60 ∧ Builtin.Int.intBits i ≤ 2000000) fun i j => .int (i ^ j.toNat)) :=
  opI fun i j _ _ _ _ _ hc q => pow_int hc.1 (by
    obtain ⟨h0, h1, h2⟩ := hc
    have h3 : ((Builtin.Int.intBits i : Nat) : Int) * j ≤ 2000000 * 60 := Int.mul_le_mul (by omega) h1 h0 (by decide)
    exact Int.le_trans h3 (by decide)) q
end SM
set_option Elab.async false
set_option linter.all false
set_option maxRecDepth 100000
set_option maxHeartbeats 2000000
/-! What a head must look at of an own error class. -/
namespace SM
open PySem PySem.Spec PyProof.Rows L2 PySem.HandSPX He
def ve? (K : PySem.W.Frag) (C : Addr) : Bool := match K.lookup C with
  | some ⟨.type t, _, .cls cd, sl⟩ => (match cd.mro, sl.toList with
    | .ref C' :: bm, [_, _, _, _, some (.builtin n), _] => decide (t = "type") && (decide (C' = C) && (decide (n = "ValueError.__new__") && (!cd.hasDel && (cd.hasDict && refsVE bm))))
    | _, _ => false)
  | _ => false
theorem ve_ok {K : PySem.W.Frag} {C : Addr} (h : ve? K C = true) :
    ∃ nm q N bs bm sn sub ab col dd k0 k1 k2 k3 k5, K.lookup C = some (excClassObj nm q C N bs bm true sn sub ab col dd k0 k1 k2 k3 k5 "ValueError.__new__") ∧ refsVE bm = true := by
  unfold ve? at h
  split at h
  · rename_i t dd cd sl ho
    split at h
    · rename_i C' bm k0 k1 k2 k3 n k5 hm hs
      obtain ⟨h1, h⟩ := ba h
      obtain ⟨h2, h⟩ := ba h
      obtain ⟨h3, h⟩ := ba h
      obtain ⟨h4, h⟩ := ba h
      obtain ⟨h5, h6⟩ := ba h
      have e1 := of_decide_eq_true h1
      have e2 := of_decide_eq_true h2
      have e3 := of_decide_eq_true h3
      have e4 : cd.hasDel = false := by simpa using h4
      subst e1 e2 e3
      obtain ⟨nm, bs, mro, ns, qn, hd, sn, sub, ab, col, del⟩ := cd
      dsimp only at hm e4 h5
      subst hm e4 h5
      have z : sl = #[k0, k1, k2, k3, some (.builtin "ValueError.__new__"), k5] := by
        obtain ⟨l⟩ := sl
        dsimp only at hs
        rw [hs]
      subst z
      exact ⟨nm, qn, ns, bs, bm, sn, sub, ab, col, dd, k0, k1, k2, k3, k5, ho, h6⟩
    · cases h
  · cases h
/-- the error class C, its __init__ at f -/
def err? (K : PySem.W.Frag) (C f : Addr) : Bool :=
  ve? K C && (eqO (PySem.W.findIn K (.ref C) "__setattr__") (some (some (.builtin "object.__setattr__"))) && (decide (PySem.W.subIn K (.ref C) (.type "BaseException") = some true) &&
  (decide (PySem.W.typeIn K (.ref C) = some (.type "type")) && (PySem.W.keepIn K (.ref C) && (eqO (PySem.W.findIn K (.ref C) "__init__") (some (some (.ref f))) && (decide (PySem.W.typeIn K (.ref f) = some (.type "function")) &&
  (eqO (PySem.W.findIn K (.ref C) "__getattribute__") (some (some (.builtin "BaseException.__getattribute__"))) && (eqO (PySem.W.findIn K (.ref C) "__getattr__") (some none) && (PySem.W.hasDictIn K C &&
  (eqO (PySem.W.findIn K (.ref C) "__class__") (some (some (.builtin "object.__class__"))) && (eqO (PySem.W.specialIn K (.builtin "object.__class__") "__get__") (some (some (.builtin "getset_descriptor.__get__"))) &&
  (decide (PySem.W.takesIn K (.builtin "object.__class__") = some true) && decide (PySem.W.mroIn K C (.type "object") = some true)))))))))))))
theorem err_ok {K : PySem.W.Frag} {C f : Addr} (h : err? K C f = true) : ErrC K C f := by
  obtain ⟨h1, h⟩ := ba h
  obtain ⟨h2, h⟩ := ba h
  obtain ⟨h3, h⟩ := ba h
  obtain ⟨h4, h⟩ := ba h
  obtain ⟨h5, h⟩ := ba h
  obtain ⟨h6, h⟩ := ba h
  obtain ⟨h7, h⟩ := ba h
  obtain ⟨h8, h⟩ := ba h
  obtain ⟨h9, h⟩ := ba h
  obtain ⟨h10, h⟩ := ba h
  obtain ⟨h11, h⟩ := ba h
  obtain ⟨h12, h⟩ := ba h
  obtain ⟨h13, h14⟩ := ba h
  exact ⟨⟨ve_ok h1, eqO_ok h2, of_decide_eq_true h3, of_decide_eq_true h4, h5⟩, eqO_ok h6, of_decide_eq_true h7, ⟨eqO_ok h8, eqO_ok h9, of_decide_eq_true h3, h10, eqO_ok h11, eqO_ok h12, of_decide_eq_true h13, of_decide_eq_true h14⟩⟩
end SM
set_option Elab.async false
set_option linter.all false
set_option maxRecDepth 100000
set_option maxHeartbeats 2000000
/-! A tuple of texts at the top, as the head looks at it. -/
namespace SM
open PySem PySem.Spec PyProof.Rows L2
def strV : Value → Option Str
  | .str x _ => some x
  | _ => none
def kTup? (K : PySem.W.Frag) (a : Addr) (ws : List Str) : Bool := match K.lookup a with
  | some o => decide (o.cls = .type "tuple") && (match o.data with
    | .seq its _ => decide (its.toList.map strV = ws.map some)
    | _ => false)
  | none => false
theorem strV_vals : ∀ {us : List Value} {ws : List Str}, us.map strV = ws.map some → Vals (ws.map V.str) us
  | [], [], _ => .nil
  | [], _ :: _, h => by simp at h
  | _ :: _, [], h => by simp at h
  | u :: us, w :: ws, h => by
    simp only [List.map_cons, List.cons.injEq] at h
    refine .cons ?_ (strV_vals h.2)
    cases u with
    | str x t =>
      have e : x = w := Option.some.inj h.1
      subst e
      exact ⟨t, rfl⟩
    | _ => cases h.1
theorem kTup_ok {K : PySem.W.Frag} {a : Addr} {ws : List Str} (h : kTup? K a ws = true) (n : Nat.ble ws.length 100 = true) (H : Hp) : SqT K H a (ws.map V.str) := by
  unfold kTup? at h
  split at h
  · rename_i o ho
    rw [Bool.and_eq_true, decide_eq_true_eq] at h
    obtain ⟨hc, h⟩ := h
    split at h
    · rename_i its k hd
      have e := of_decide_eq_true h
      have v := strV_vals e
      refine .inr ⟨o, its, k, ho, hc, hd, ?_, v⟩
      have l := congrArg List.length e
      rw [List.length_map, List.length_map, Array.length_toList] at l
      rw [l]
      exact Nat.le_trans (Nat.le_of_ble_eq_true n) (by decide)
    · cases h
  · cases h
end SM
set_option Elab.async false
set_option linter.all false
set_option maxRecDepth 100000
set_option maxHeartbeats 2000000
/-! The head's facts with own classes' properties beside: the getter of each stands behind it. -/
namespace SM
open PySem PySem.Spec PyProof.Rows L2
/-- the getter of the property m of the class that the module's name c stands for -/
def pga (K : PySem.W.Frag) (c m : Str) : Addr := match PySem.W.recIn K (He.ma K (He.ga K c) m) "property" with
  | some (.ref g :: _) => g
  | _ => 0
def fnWA (K : PySem.W.Frag) (a : Addr) : He.FnW := match K.lookup a with
  | some ⟨_, _, .func fd, _⟩ => some (fd.name, fd.qualname, fd.params, fd.body, fd.scope, fd.globals, fd.closure, fd.builtins)
  | _ => none
structure PropD where
  cls : Str
  name : Str
  qual : Str
  params : Arguments
  body : List Stmt
  scope : Scope
def PropD.val (d : PropD) : He.FnW := some (d.name, d.qual, d.params, .stmts d.body, d.scope, mainGlobals, [], builtinsNs)
def PropD.ok (K : PySem.W.Frag) (d : PropD) : Bool := (He.eqO (PySem.W.findIn K (.ref (He.ga K d.cls)) d.name) (some (some (.ref (He.ma K (He.ga K d.cls) d.name)))) && (He.eqO (PySem.W.specialIn K (.ref (He.ma K (He.ga K d.cls) d.name)) "__get__") (some (some (.builtin "property.__get__"))) && (decide (PySem.W.takesIn K (.ref (He.ma K (He.ga K d.cls) d.name)) = some true) &&
  match PySem.W.recIn K (He.ma K (He.ga K d.cls) d.name) "property" with
  | some (.ref _ :: _) => true
  | _ => false))) && (PySem.W.keepIn K (.ref (pga K d.cls d.name)) && (match K.lookup (pga K d.cls d.name) with
  | some ⟨_, _, .func fd, _⟩ => PySem.W.codeIn K fd.code d.qual && (He.dflB K fd.defaults [] && He.kwdB K fd.kwdefaults [])
  | _ => false))
/-- a property's getter: where it stands, its def -/
structure PropAt (K : PySem.W.Frag) (d : PropD) : Prop where
  of : PropOf K (He.ga K d.cls) d.name (He.ma K (He.ga K d.cls) d.name) (pga K d.cls d.name)
  fn : ∃ fd, FunD K d.name d.qual d.params d.body d.scope [] [] (pga K d.cls d.name) fd
theorem PropD.at_ {K : PySem.W.Frag} {d : PropD} (e : fnWA K (pga K d.cls d.name) = d.val) (c : d.ok K = true) : PropAt K d := by
  obtain ⟨c, k⟩ := He.ba c
  obtain ⟨c1, c⟩ := He.ba c
  obtain ⟨c2, c⟩ := He.ba c
  obtain ⟨c3, c4⟩ := He.ba c
  obtain ⟨kp, c5⟩ := He.ba k
  refine ⟨⟨He.eqO_ok c1, He.eqO_ok c2, of_decide_eq_true c3, ?_⟩, ?_⟩
  · unfold pga
    cases q : PySem.W.recIn K (He.ma K (He.ga K d.cls) d.name) "property" with
    | none =>
      rw [q] at c4
      cases c4
    | some l =>
      rw [q] at c4
      cases l with
      | nil => cases c4
      | cons a r =>
        cases a with
        | ref g => exact ⟨r, rfl⟩
        | _ => cases c4
  · unfold fnWA at e
    cases q : K.lookup (pga K d.cls d.name) with
    | none =>
      rw [q] at c5
      cases c5
    | some o =>
      obtain ⟨oc, od, dt, osl⟩ := o
      rw [q] at c5 e
      cases dt with
      | func fd =>
        obtain ⟨n1, n2, n3, n4, n5, n6, n7, n8, n9, n10, n11, n12, n13, n14, n15⟩ := fd
        have e2 : (some (n1, n2, n3, n4, n5, n6, n7, n15) : He.FnW) = some (d.name, d.qual, d.params, .stmts d.body, d.scope, mainGlobals, [], builtinsNs) := e
        simp only [Option.some.injEq, Prod.mk.injEq] at e2
        obtain ⟨h1, h2, h3, h4, h5, h6, h7, h8⟩ := e2
        subst h3 h4 h5 h6 h7 h8
        have c6 : (PySem.W.codeIn K n13 d.qual && (He.dflB K n8 [] && He.kwdB K n9 [])) = true := c5
        obtain ⟨k1, k2⟩ := He.ba c6
        obtain ⟨k3, k4⟩ := He.ba k2
        rw [h1, h2] at q
        exact ⟨_, ⟨oc, od, n8, n9, n10, n11, n12, n13, n14, osl, rfl, q, k1, He.dflB_ok k3, He.kwdB_ok k4⟩, kp⟩
      | _ => cases c5
abbrev AlP : Type := He.AlD × List He.FnW × Bool
def obsPK (fa : List He.Fa) (fn : List He.DefD) (pr : List PropD) (ex : PySem.W.Frag → Bool) (K : PySem.W.Frag) : AlP := (He.obsD fa fn K, pr.map (fun d => fnWA K (pga K d.cls d.name)), (pr.all fun d => d.ok K) && ex K)
def obsP (n : Nat) (fa : List He.Fa) (fn : List He.DefD) (pr : List PropD) (ex : PySem.W.Frag → Bool) (g : Addr → Option Obj) : AlP := obsPK fa fn pr ex (He.frG g (He.asD g n))
def valP (fn : List He.DefD) (pr : List PropD) : AlP := (He.valD fn, pr.map PropD.val, true)
def SaysP (fa : List He.Fa) (fn : List He.DefD) (pr : List PropD) (ex : PySem.W.Frag → Bool) (K : PySem.W.Frag) : Prop := obsPK fa fn pr ex K = valP fn pr
def hookP (n : Nat) (fa : List He.Fa) (fn : List He.DefD) (pr : List PropD) (ex : PySem.W.Frag → Bool) : PySem.W.Hook where
  α := AlP
  obs := fun s => obsP n fa fn pr ex s.heap.get?
  val := fun _ => valP fn pr
  says := fun _ h => ∃ K : PySem.W.Frag, K.In h ∧ SaysP fa fn pr ex K
  of := fun _ _ e => ⟨_, He.frG_in, e⟩
  keeps := fun _ _ _ ⟨K, hK, c⟩ k => ⟨K, PySem.W.Frag.In.keeps hK k, c⟩
theorem obsP_eq {n : Nat} {fa : List He.Fa} {fn : List He.DefD} {pr : List PropD} {ex : PySem.W.Frag → Bool} {g : Addr → Option Obj} {s : Shared} (h : ∀ a, g a = s.heap.get? a) : obsP n fa fn pr ex g = (hookP n fa fn pr ex).obs s := by
  have e : g = s.heap.get? := funext h
  rw [e] <;> rfl
section
variable {fa : List He.Fa} {fn : List He.DefD} {pr : List PropD} {ex : PySem.W.Frag → Bool} {K : PySem.W.Frag}
theorem SaysP.d (c : SaysP fa fn pr ex K) : He.SaysD fa fn K := congrArg (fun z : AlP => z.1) c
theorem SaysP.more (c : SaysP fa fn pr ex K) : ex K = true := (He.ba (show ((pr.all fun d => d.ok K) && ex K) = true from congrArg (fun z : AlP => z.2.2) c)).2
theorem SaysP.prop (c : SaysP fa fn pr ex K) (i : Nat) {d : PropD} (h : pr[i]? = some d := by rfl) : PropAt K d := by
  have c2 := (He.ba (show ((pr.all fun d => d.ok K) && ex K) = true from congrArg (fun z : AlP => z.2.2) c)).1
  have e : pr.map (fun d => fnWA K (pga K d.cls d.name)) = pr.map PropD.val := congrArg (fun z : AlP => z.2.1) c
  have e2 : (pr.map fun d => fnWA K (pga K d.cls d.name))[i]? = (pr.map PropD.val)[i]? := by rw [e]
  rw [List.getElem?_map, List.getElem?_map, h] at e2
  exact PropD.at_ (Option.some.inj e2) (List.all_eq_true.mp c2 d (List.mem_of_getElem? h))
end
end SM
set_option Elab.async false
set_option linter.all false
set_option maxRecDepth 100000
set_option maxHeartbeats 2000000
/-! The head's facts over a part of the heap that is given by its addresses. -/
namespace SM
open PySem PySem.Spec PyProof.Rows L2
def obsA (as : List Addr) (fa : List He.Fa) (fn : List He.DefD) (pr : List PropD) (ex : PySem.W.Frag → Bool) (g : Addr → Option Obj) : AlP := obsPK fa fn pr ex (He.frG g as)
def hookA (as : List Addr) (fa : List He.Fa) (fn : List He.DefD) (pr : List PropD) (ex : PySem.W.Frag → Bool) : PySem.W.Hook where
  α := AlP
  obs := fun s => obsA as fa fn pr ex s.heap.get?
  val := fun _ => valP fn pr
  says := fun _ h => ∃ K : PySem.W.Frag, K.In h ∧ SaysP fa fn pr ex K
  of := fun _ _ e => ⟨_, He.frG_in, e⟩
  keeps := fun _ _ _ ⟨K, hK, c⟩ k => ⟨K, PySem.W.Frag.In.keeps hK k, c⟩
theorem obsA_eq {as : List Addr} {fa : List He.Fa} {fn : List He.DefD} {pr : List PropD} {ex : PySem.W.Frag → Bool} {g : Addr → Option Obj} {s : Shared} (h : ∀ a, g a = s.heap.get? a) : obsA as fa fn pr ex g = (hookA as fa fn pr ex).obs s := by
  have e : g = s.heap.get? := funext h
  rw [e] <;> rfl
end SM
set_option Elab.async false
set_option linter.all false
set_option maxRecDepth 100000
set_option maxHeartbeats 4000000
namespace La
open PySem PySem.Spec PyProof.Rows L2 SM
def top (i : Nat) : Stmt := PySem.Challenge.pw_stillmine_k21_shapes_of_patterns.main.body.getD i (.Pass ⟨0, 0, 0, 0⟩)
def d_BadRegisters___init__ : He.DefD := ⟨("BadRegisters", some "__init__"), "__init__", "BadRegisters.__init__", defArgs (inClass (top 3) 0), defBody (inClass (top 3) 0), defScope (inClass (top 3) 0), [], []⟩
def d_BadLines___init__ : He.DefD := ⟨("BadLines", some "__init__"), "__init__", "BadLines.__init__", defArgs (inClass (top 4) 0), defBody (inClass (top 4) 0), defScope (inClass (top 4) 0), [], []⟩
def d_BadLine___init__ : He.DefD := ⟨("BadLine", some "__init__"), "__init__", "BadLine.__init__", defArgs (inClass (top 5) 0), defBody (inClass (top 5) 0), defScope (inClass (top 5) 0), [], []⟩
def d_is_index : He.DefD := ⟨("is_index", none), "is_index", "is_index", defArgs (top 26), defBody (top 26), defScope (top 26), [], []⟩
def d_is_pattern : He.DefD := ⟨("is_pattern", none), "is_pattern", "is_pattern", defArgs (top 38), defBody (top 38), defScope (top 38), [], []⟩
def d_are_numbers : He.DefD := ⟨("are_numbers", none), "are_numbers", "are_numbers", defArgs (top 42), defBody (top 42), defScope (top 42), [], []⟩
def d_Plan___init__ : He.DefD := ⟨("Plan", some "__init__"), "__init__", "Plan.__init__", defArgs (inClass (top 44) 0), defBody (inClass (top 44) 0), defScope (inClass (top 44) 0), [], []⟩
def d_choice_of : He.DefD := ⟨("choice_of", none), "choice_of", "choice_of", defArgs (top 45), defBody (top 45), defScope (top 45), [], []⟩
def d_Rule___init__ : He.DefD := ⟨("Rule", some "__init__"), "__init__", "Rule.__init__", defArgs (inClass (top 49) 0), defBody (inClass (top 49) 0), defScope (inClass (top 49) 0), [], []⟩
def d_is_word : He.DefD := ⟨("is_word", none), "is_word", "is_word", defArgs (top 50), defBody (top 50), defScope (top 50), [], []⟩
def d_are_registers : He.DefD := ⟨("are_registers", none), "are_registers", "are_registers", defArgs (top 51), defBody (top 51), defScope (top 51), [], []⟩
def d_refuse_bad_lines : He.DefD := ⟨("refuse_bad_lines", none), "refuse_bad_lines", "refuse_bad_lines", defArgs (top 52), defBody (top 52), defScope (top 52), [], []⟩
def d_is_line : He.DefD := ⟨("is_line", none), "is_line", "is_line", defArgs (top 53), defBody (top 53), defScope (top 53), [], []⟩
def d_are_at_most_four : He.DefD := ⟨("are_at_most_four", none), "are_at_most_four", "are_at_most_four", defArgs (top 54), defBody (top 54), defScope (top 54), [], []⟩
def d_is_test : He.DefD := ⟨("is_test", none), "is_test", "is_test", defArgs (top 55), defBody (top 55), defScope (top 55), [], []⟩
def d_are_steps : He.DefD := ⟨("are_steps", none), "are_steps", "are_steps", defArgs (top 56), defBody (top 56), defScope (top 56), [], []⟩
def d_is_step : He.DefD := ⟨("is_step", none), "is_step", "is_step", defArgs (top 57), defBody (top 57), defScope (top 57), [], []⟩
def d_is_closed : He.DefD := ⟨("is_closed", none), "is_closed", "is_closed", defArgs (top 59), defBody (top 59), defScope (top 59), [], [("stops", (.bl false))]⟩
def d__law_source : He.DefD := ⟨("_law_source", none), "_law_source", "_law_source", defArgs (top 61), defBody (top 61), defScope (top 61), [], []⟩
def d__law_draw : He.DefD := ⟨("_law_draw", none), "_law_draw", "_law_draw", defArgs (top 62), defBody (top 62), defScope (top 62), [], []⟩
def d__law_pick : He.DefD := ⟨("_law_pick", none), "_law_pick", "_law_pick", defArgs (top 63), defBody (top 63), defScope (top 63), [], []⟩
def d__law_note : He.DefD := ⟨("_law_note", none), "_law_note", "_law_note", defArgs (top 64), defBody (top 64), defScope (top 64), [], []⟩
def d__law_registers : He.DefD := ⟨("_law_registers", none), "_law_registers", "_law_registers", defArgs (top 65), defBody (top 65), defScope (top 65), [], []⟩
def d__law_test : He.DefD := ⟨("_law_test", none), "_law_test", "_law_test", defArgs (top 66), defBody (top 66), defScope (top 66), [], []⟩
def d__law_steps : He.DefD := ⟨("_law_steps", none), "_law_steps", "_law_steps", defArgs (top 67), defBody (top 67), defScope (top 67), [], []⟩
def d__law_row : He.DefD := ⟨("_law_row", none), "_law_row", "_law_row", defArgs (top 68), defBody (top 68), defScope (top 68), [], []⟩
def d__law_good : He.DefD := ⟨("_law_good", none), "_law_good", "_law_good", defArgs (top 69), defBody (top 69), defScope (top 69), [], []⟩
def d__law_bent : He.DefD := ⟨("_law_bent", none), "_law_bent", "_law_bent", defArgs (top 70), defBody (top 70), defScope (top 70), [], []⟩
def d__law_rule : He.DefD := ⟨("_law_rule", none), "_law_rule", "_law_rule", defArgs (top 71), defBody (top 71), defScope (top 71), [], []⟩
def d__law_made : He.DefD := ⟨("_law_made", none), "_law_made", "_law_made", defArgs (top 72), defBody (top 72), defScope (top 72), [], []⟩
def d__law_begun : He.DefD := ⟨("_law_begun", none), "_law_begun", "_law_begun", defArgs (top 73), defBody (top 73), defScope (top 73), [], []⟩
def d__law_shape : He.DefD := ⟨("_law_shape", none), "_law_shape", "_law_shape", defArgs (top 74), defBody (top 74), defScope (top 74), [], []⟩
def d__law_is_shape : He.DefD := ⟨("_law_is_shape", none), "_law_is_shape", "_law_is_shape", defArgs (top 75), defBody (top 75), defScope (top 75), [], []⟩
def d__law_odd : He.DefD := ⟨("_law_odd", none), "_law_odd", "_law_odd", defArgs (top 76), defBody (top 76), defScope (top 76), [], []⟩
def d_law : He.DefD := ⟨("law", none), "law", "law", defArgs (top 77), defBody (top 77), defScope (top 77), [], []⟩
def fns : List He.DefD := [d_BadRegisters___init__, d_BadLines___init__, d_BadLine___init__, d_is_index, d_is_pattern, d_are_numbers, d_Plan___init__, d_choice_of, d_Rule___init__, d_is_word, d_are_registers, d_refuse_bad_lines, d_is_line, d_are_at_most_four, d_is_test, d_are_steps, d_is_step, d_is_closed, d__law_source, d__law_draw, d__law_pick, d__law_note, d__law_registers, d__law_test, d__law_steps, d__law_row, d__law_good, d__law_bent, d__law_rule, d__law_made, d__law_begun, d__law_shape, d__law_is_shape, d__law_odd, d_law]
def fas : List He.Fa := [.glo "_wall", .glo "UpgradeError", .glo "BadRegisters", .glo "BadLines", .glo "BadLine", .glo "BadContent", .glo "StillAmid", .glo "Unanswered", .glo "BadAnswer", .glo "BadStop", .glo "NoPlace", .glo "first_state", .glo "edited", .glo "Arrival", .glo "line_taken", .glo "done", .glo "is_needless", .glo "harm_of", .glo "remains_of", .glo "File", .glo "state_of", .glo "is_content", .glo "is_text", .glo "is_index", .glo "refuse_bad_arrival", .glo "held_by", .glo "numbered", .glo "pattern_of_state", .glo "is_edit", .glo "arrivals_of", .glo "steps_of", .glo "pointed_steps_of", .glo "pattern_of", .glo "is_pattern", .glo "steps_from", .glo "state_of_pattern", .glo "deed_in_numbers", .glo "are_numbers", .glo "Plan", .glo "choice_of", .glo "Rule", .glo "is_word", .glo "are_registers", .glo "refuse_bad_lines", .glo "is_line", .glo "are_at_most_four", .glo "is_test", .glo "are_steps", .glo "is_step", .glo "is_closed", .glo "_law_source", .glo "_law_draw", .glo "_law_pick", .glo "_law_note", .glo "_law_registers", .glo "_law_test", .glo "_law_steps", .glo "_law_row", .glo "_law_good", .glo "_law_bent", .glo "_law_rule", .glo "_law_made", .glo "_law_begun", .glo "_law_shape", .glo "_law_is_shape", .glo "_law_odd", .glo "law", .free "TypeError", .free "ValueError", .free "all", .free "bool", .free "enumerate", .free "int", .free "isinstance", .free "len", .free "list", .free "max", .free "min", .free "property", .free "range", .free "repr", .free "set", .free "str", .free "tuple", .free "zip", .glo "PLACES", .glo "WORDS_OF_TEXTS", .cls "Rule", .noat "Rule" "_registers", .noat "Rule" "_lines", .noat "Rule" "plan", .mkr "Rule", .cls "Plan", .noat "Plan" "spots", .noat "Plan" "elder", .noat "Plan" "choices", .mkr "Plan"]
abbrev R : PySem.W.OpenRow := PySem.W.OpenLaw.row PySem.Challenge.rw_stillmine_k21_shapes_of_patterns
def exB : PySem.W.Frag → Bool := fun K => (SM.kTup? K (He.ga K "WORDS_OF_TEXTS") ["here", "new", "nothing", "is", "not", "from", "or", "ask", "do", "otherwise"] && SM.kTup? K (He.ga K "PLACES") ["beside", "elder"]) && (([("BadRegisters", "value"), ("BadLines", "value"), ("BadLine", "position")] : List (Str × Str)).all fun e => SM.err? K (He.ga K e.1) (He.ma K (He.ga K e.1) "__init__") && He.eqO (PySem.W.findIn K (.ref (He.ga K e.1)) e.2) (some none) && L2.xfB K (He.ga K e.1))
def q_Rule_registers : SM.PropD := ⟨"Rule", "registers", "Rule.registers", defArgs (inClass (top 49) 1), defBody (inClass (top 49) 1), defScope (inClass (top 49) 1)⟩
def q_Rule_places : SM.PropD := ⟨"Rule", "places", "Rule.places", defArgs (inClass (top 49) 3), defBody (inClass (top 49) 3), defScope (inClass (top 49) 3)⟩
def prs : List SM.PropD := [q_Rule_registers, q_Rule_places]
def adrs0 : List PySem.Addr := [3, 6, 31, 51, 70, 89, 108, 127, 146, 165, 184, 203, 276, 434, 464, 528, 553, 568, 577, 640, 649, 654, 661, 666, 673, 680, 685, 692, 698, 705, 712, 719, 726, 733, 740, 747, 754, 759, 766, 771]
def adrs1 : List PySem.Addr := [778, 785, 792, 799, 806, 813, 0, 30, 50, 69, 88, 107, 126, 145, 164, 183, 202, 275, 433, 567, 639, 693, 48, 67, 86, 462, 526, 551, 565, 575, 593, 647, 652, 659, 664, 671, 678, 683, 690, 696]
def adrs2 : List PySem.Addr := [703, 710, 717, 724, 731, 738, 745, 752, 757, 764, 769, 776, 783, 790, 797, 804, 811, 600, 614, 46, 65, 84, 563, 591, 598, 612, 4, 578, 579, 463, 527, 552, 576, 648, 653, 660, 665, 672, 679, 684]
def adrs3 : List PySem.Addr := [691, 697, 704, 711, 718, 725, 732, 739, 746, 753, 758, 765, 770, 777, 784, 791, 798, 805, 812, 29, 32, 49, 68, 87, 106, 125, 144, 163, 182, 201, 274, 277, 278, 333, 341, 349, 357, 365, 373, 432]
def adrs4 : List PySem.Addr := [435, 436, 458, 459, 460, 461, 522, 523, 524, 525, 547, 548, 549, 550, 566, 569, 570, 573, 574, 601, 609, 615, 623, 638, 641, 642, 645, 646, 650, 651, 655, 656, 657, 658, 662, 663, 667, 668, 669, 670]
def adrs5 : List PySem.Addr := [674, 675, 676, 677, 681, 682, 686, 687, 688, 689, 694, 695, 699, 700, 701, 702, 706, 707, 708, 709, 713, 714, 715, 716, 720, 721, 722, 723, 727, 728, 729, 730, 734, 735, 736, 737, 741, 742, 743, 744]
def adrs6 : List PySem.Addr := [748, 749, 750, 751, 755, 756, 760, 761, 762, 763, 767, 768, 772, 773, 774, 775, 779, 780, 781, 782, 786, 787, 788, 789, 793, 794, 795, 796, 800, 801, 802, 803, 807, 808, 809, 810, 47, 66, 85, 564]
def adrs7 : List PySem.Addr := [592, 42, 43, 44, 45, 61, 62, 63, 64, 80, 81, 82, 83, 561, 562, 587, 588, 589, 590, 599, 613, 594, 595, 596, 597, 610, 611]
def adrs : List PySem.Addr := adrs0 ++ adrs1 ++ adrs2 ++ adrs3 ++ adrs4 ++ adrs5 ++ adrs6 ++ adrs7
abbrev hk : PySem.W.Hook := SM.hookA adrs fas fns prs exB
def ob (s : PySem.W.SharedT) : SM.AlP := SM.obsA adrs fas fns prs exB (HandSHeadRun.getT s)
theorem ob_eq (s : PySem.W.SharedT) : ob s = hk.obs s.abs := SM.obsA_eq (HandSHeadRun.getT_eq s)
def loose0 : List PySem.Str := ["_wall", "UpgradeError", "BadRegisters", "BadLines", "BadLine", "BadContent", "StillAmid", "Unanswered", "BadAnswer", "BadStop", "NoPlace", "first_state", "edited", "Arrival", "line_taken", "done", "is_needless", "harm_of", "remains_of", "File", "state_of", "is_content", "is_text", "is_index", "refuse_bad_arrival", "held_by", "numbered", "pattern_of_state", "is_edit", "arrivals_of"]
def loose1 : List PySem.Str := ["steps_of", "pointed_steps_of", "pattern_of", "is_pattern", "steps_from", "state_of_pattern", "deed_in_numbers", "are_numbers", "Plan", "choice_of", "PLACES", "WORDS_OF_TEXTS", "Rule", "is_word", "are_registers", "refuse_bad_lines", "is_line", "are_at_most_four", "is_test", "are_steps", "is_step", "is_closed", "_law_source", "_law_draw", "_law_pick", "_law_note", "_law_registers", "_law_test", "_law_steps", "_law_row"]
def loose2 : List PySem.Str := ["_law_good", "_law_bent", "_law_rule", "_law_made", "_law_begun", "_law_shape", "_law_is_shape", "_law_odd"]
def loose : List PySem.Str := loose0 ++ loose1 ++ loose2
abbrev qv : Program := PySem.W.view R.prog [77]
theorem run (w : World) : HandSHeadRun.RunEq R qv hk ob 20000 loose w := by
  intro os
  kernel_rfl
end La
set_option Elab.async false
set_option linter.all false
set_option maxRecDepth 100000
set_option maxHeartbeats 2000000
/-! Names of the top by their places in two lists; a def's promise as one thing; operators for whatever kinds meet. -/
namespace SM
open PySem PySem.Spec PyProof.Rows L2

structure Cw (fas : List He.Fa) (fns : List He.DefD) (K : PySem.W.Frag) (mg : Str → Option Value) : Prop where
  ex : ∃ h : Heap, K.In h ∧ h.Ns mainGlobals mg
  says : He.SaysD fas fns K
section
variable {fas : List He.Fa} {fns : List He.DefD} {K : PySem.W.Frag} {mg : Str → Option Value}
theorem Cw.glo (W : Cw fas fns K mg) (i : Nat) {x : Str} (h : fas[i]? = some (.glo x) := by rfl) : mg x = some (.ref (He.ga K x)) := by
  obtain ⟨hp, X, G⟩ := W.ex
  exact He.glo_ok X G (W.says.fact i h)
theorem Cw.fre (W : Cw fas fns K mg) (i : Nat) {x : Str} (h : fas[i]? = some (.free x) := by rfl) : mg x = none := by
  obtain ⟨hp, X, G⟩ := W.ex
  exact He.free_ok X G (W.says.fact i h)
theorem Cw.fact (W : Cw fas fns K mg) (i : Nat) {f : He.Fa} (h : fas[i]? = some f := by rfl) : f.ok K = true := W.says.fact i h
end

/-- a def of the top, by its name: where it stands, how it binds, what it promises -/
structure DefOk (P : Program) (w : World) (K : PySem.W.Frag) (mg : Str → Option Value) (base : Heap) (CX : CXT) (k : Nat) (x : Str) (ps : List Str) (sp : Sp) : Prop where
  ex : ∃ fd, FnOk P w K mg base CX k (He.ga K x) fd ps sp ∧ Binds K fd ps []
  kp : PySem.W.keepIn K (.ref (He.ga K x)) = true
  at_ : mg x = some (.ref (He.ga K x))
structure DefG (P : Program) (w : World) (K : PySem.W.Frag) (mg : Str → Option Value) (base : Heap) (CX : CXT) (k : Nat) (x : Str) (ps : List Str) (sp : Sp) : Prop where
  ex : ∃ fd, FnG P w K mg base CX k (He.ga K x) fd ps sp ∧ Binds K fd ps []
  kp : PySem.W.keepIn K (.ref (He.ga K x)) = true
  at_ : mg x = some (.ref (He.ga K x))
section
variable {P : Program} {w : World} {K : PySem.W.Frag} {mg : Str → Option Value} {base : Heap} {CX : CXT} {k : Nat} {x : Str} {ps : List Str} {sp : Sp}
theorem DefOk.g (D : DefOk P w K mg base CX k x ps sp) : DefG P w K mg base CX k x ps sp := by
  obtain ⟨⟨fd, F, b⟩, kp, at_⟩ := D
  exact ⟨⟨fd, FnG.of F, b⟩, kp, at_⟩
/-- from the body of a def of the top; it may let out what CX says -/
theorem DefOk.of {fas : List He.Fa} {fns : List He.DefD} (W : Cw fas fns K mg) (i j : Nat) {st : Stmt} {N : List Str} (hd : fns[i]? = some ⟨(x, none), x, x, defArgs st, defBody st, defScope st, [], []⟩) (hg : fas[j]? = some (.glo x))
    (S : FnScope N ps (defScope st)) (bnd : ∀ (kV doc pm : Value) (an : Option Addr) (cdv ct : Value) (us : List Value), us.length = ps.length → bindArgs (PySem.W.fnOf x x (defArgs st) (defBody st) (defScope st) .none kV doc pm an cdv ct) ⟨us, []⟩ = pure (ps.zip us))
    (len : ∀ vs H Q E, sp vs H Q E → vs.length = ps.length)
    (body : ∀ (cdv : Value) (A : Around) (outer : List Env) (s : Shared) (H : Hp) (vs : List V) (Q : VK) (E : XK), Room k (A.deeper (envOfC x (defScope st) s.heap.objs.size (He.ga K x) cdv)) → sp vs H Q E →
      ∃ t, PSs (cxOf CX P w K mg base N x (defScope st) (He.ga K x) cdv A outer s H E) (defBody st) t ∧ t { nx := fun _ H' => Q .non H', rt := Q } (start N vs) H) :
    DefOk P w K mg base CX (k + 1) x ps sp := by
  obtain ⟨fd, F⟩ := W.says.def_ i hd
  exact ⟨⟨fd, FunD.ok F S len body, FunD.bindsN F bnd⟩, F.kp, W.glo j hg⟩
theorem DefG.of {fas : List He.Fa} {fns : List He.DefD} (W : Cw fas fns K mg) (i j : Nat) {st : Stmt} {N : List Str} (hd : fns[i]? = some ⟨(x, none), x, x, defArgs st, defBody st, defScope st, [], []⟩) (hg : fas[j]? = some (.glo x))
    (S : FnScope N ps (defScope st)) (bnd : ∀ (kV doc pm : Value) (an : Option Addr) (cdv ct : Value) (us : List Value), us.length = ps.length → bindArgs (PySem.W.fnOf x x (defArgs st) (defBody st) (defScope st) .none kV doc pm an cdv ct) ⟨us, []⟩ = pure (ps.zip us))
    (len : ∀ vs H Q E, sp vs H Q E → vs.length = ps.length)
    (body : ∀ (cdv : Value) (B : Around) (up : List Env) (s : Shared) (H : Hp) (vs : List V) (Q : VK) (E : XK), B.guards = some [] → Room k (B.deeper (envOfC x (defScope st) s.heap.objs.size (He.ga K x) cdv)) → sp vs H Q E →
      ∃ t, PSs (cxOf CX P w K mg base N x (defScope st) (He.ga K x) cdv B up s H E) (defBody st) t ∧ t { nx := fun _ H' => Q .non H', rt := Q } (start N vs) H) :
    DefG P w K mg base CX (k + 1) x ps sp := by
  obtain ⟨fd, F⟩ := W.says.def_ i hd
  obtain ⟨oc, od, dV, kV, doc, pm, an, cdv, ct, osl, e, lk, hcd, hD, hK⟩ := F.ex
  have e0 : dV = .none := by
    rcases hD with ⟨_, z⟩ | ⟨z, _⟩
    · exact z
    · exact absurd rfl z
  subst e0
  refine ⟨⟨fd, okG ⟨⟨oc, od, kV, doc, pm, an, cdv, ct, osl, e, lk, hcd⟩, F.kp⟩ S len body, FunD.bindsN F bnd⟩, F.kp, W.glo j hg⟩
theorem FnG.ofF {f : Addr} {fd : FuncData} {st : Stmt} {N : List Str} (F : FunD K x x (defArgs st) (defBody st) (defScope st) [] [] f fd) (S : FnScope N ps (defScope st)) (len : ∀ vs H Q E, sp vs H Q E → vs.length = ps.length)
    (body : ∀ (cdv : Value) (B : Around) (up : List Env) (s : Shared) (H : Hp) (vs : List V) (Q : VK) (E : XK), B.guards = some [] → Room k (B.deeper (envOfC x (defScope st) s.heap.objs.size f cdv)) → sp vs H Q E →
      ∃ t, PSs (cxOf CX P w K mg base N x (defScope st) f cdv B up s H E) (defBody st) t ∧ t { nx := fun _ H' => Q .non H', rt := Q } (start N vs) H) :
    FnG P w K mg base CX (k + 1) f fd ps sp := by
  obtain ⟨oc, od, dV, kV, doc, pm, an, cdv, ct, osl, e, lk, hcd, hD, hK⟩ := F.ex
  have e0 : dV = .none := by
    rcases hD with ⟨_, z⟩ | ⟨z, _⟩
    · exact z
    · exact absurd rfl z
  subst e0
  exact okG ⟨⟨oc, od, kV, doc, pm, an, cdv, ct, osl, e, lk, hcd⟩, F.kp⟩ S len body
end
section
variable {X : Cx} {CX : CXT} {k : Nat} {x : Str} {ps : List Str} {sp : Sp} {E : XK} {p pos : Pos} {e : Expr} {es : List Expr} {t : TA}
theorem pe_callD (D : DefOk X.prog X.w X.K X.mg X.base CX k x ps sp) (hr : Room k X.A) (hx : Passes CX X E) (ha : PA X (e :: es) t) (hg : Gl X x := by rfl) (hdb : (x == ("__debug__" : Str)) = false := by decide)
    (he : starEach (e :: es) X.env = (false, eval e X.env) :: starEach es X.env := by rfl) (hpl : (backTo pos (starEach es X.env)).any (·.1) = false := by rfl) :
    PE X (.Call (.Name x p) (e :: es) [] pos) (tCall sp [] E t) := by
  obtain ⟨⟨fd, F, b⟩, kp, at_⟩ := D
  exact pe_call F hr hg at_ kp b .nil hx ha hdb he hpl
theorem pe_callDG (D : DefG X.prog X.w X.K X.mg X.base CX k x ps sp) (gd : X.A.guards = some []) (hr : Room k X.A) (hx : Passes CX X E) (ha : PA X (e :: es) t) (hg : Gl X x := by rfl) (hdb : (x == ("__debug__" : Str)) = false := by decide)
    (he : starEach (e :: es) X.env = (false, eval e X.env) :: starEach es X.env := by rfl) (hpl : (backTo pos (starEach es X.env)).any (·.1) = false := by rfl) :
    PE X (.Call (.Name x p) (e :: es) [] pos) (tCall sp [] E t) := by
  obtain ⟨⟨fd, F, b⟩, kp, at_⟩ := D
  exact pe_callG F gd hr hg at_ kp b .nil hx ha hdb he hpl
end

/-! ### operators of whatever kind -/
section
variable {X : Cx}
def orR (r r' : R2) : R2 := fun x y H Q => r x y H Q ∨ r' x y H Q
theorem op_or2 {f : Value → Value → Sem Value} {r r' : R2} (h : OpR X f r) (h' : OpR X f r') : OpR X f (orR r r') := by
  intro pins s σ H x y u v Q I rx ry z
  rcases z with z | z
  · exact h pins s σ H x y u v Q I rx ry z
  · exact h' pins s σ H x y u v Q I rx ry z
def orC (r r' : List V → Hp → VK → Prop) : List V → Hp → VK → Prop := fun xs H Q => r xs H Q ∨ r' xs H Q
theorem call_or {f : Value} {r r' : List V → Hp → VK → Prop} (h : CallR X f r) (h' : CallR X f r') : CallR X f (orC r r') := by
  intro pins s σ H xs us Q I rv z
  rcases z with z | z
  · exact h pins s σ H xs us Q I rv z
  · exact h' pins s σ H xs us Q I rv z
end
end SM
set_option Elab.async false
set_option linter.all false
set_option maxRecDepth 100000
set_option maxHeartbeats 2000000
/-! What stays of a heap; the drawing of numbers. -/
namespace SM
open PySem PySem.Spec PyProof.Rows L2

/-- all that was tracked stands as it stood, but what m names -/
def Keep (m : List Addr) (H H' : Hp) : Prop := ∀ b o, b ∉ m → H b = some o → H' b = some o
theorem Keep.refl {m : List Addr} {H : Hp} : Keep m H H := fun _ _ _ h => h
theorem Keep.trans {m : List Addr} {H H1 H2 : Hp} (h : Keep m H H1) (h' : Keep m H1 H2) : Keep m H H2 := fun b o n e => h' b o n (h b o n e)
theorem Keep.up {m m' : List Addr} {H H' : Hp} (h : Keep m H H') (s : ∀ a ∈ m, a ∈ m') : Keep m' H H' := fun b o n e => h b o (fun z => n (s b z)) e
theorem Keep.of_nil {m : List Addr} {H H' : Hp} (h : Keep [] H H') : Keep m H H' := h.up (fun a z => by cases z)
theorem Keep.new {m : List Addr} {H : Hp} {p : Addr} {o : HO} (h : H p = none) : Keep m H (upd H p o) := fun b u _ e => by
  rw [upd_ne (ne_of_none e h)]
  exact e
theorem Keep.at_ {m : List Addr} {H : Hp} {p : Addr} {o : HO} (h : p ∈ m) : Keep m H (upd H p o) := fun b u n e => by
  rw [upd_ne (fun z => n (by rw [z]; exact h))]
  exact e
/-- what was new to H may change -/
theorem Keep.own {m : List Addr} {H H' : Hp} {p : Addr} {o : HO} (k : Keep m H H') (h : H p = none) : Keep m H (upd H' p o) := fun b u n e => by
  rw [upd_ne (ne_of_none e h)]
  exact k b u n e
theorem Keep.same {H H' : Hp} (h : Keep [] H H') : Same H H' := fun b o e => h b o (by simp) e
theorem Keep.ofSame {m : List Addr} {H H' : Hp} (h : Same H H') : Keep m H H' := fun b o _ e => h b o e
theorem Keep.seqL {K : PySem.W.Frag} {m : List Addr} {H H' : Hp} {a : Addr} {xs : List V} (k : Keep m H H') (n : a ∉ m) (h : SqL K H a xs) : SqL K H' a xs := by
  rcases h with (h | ⟨o, h⟩) | h
  · exact .inl (.inl (k _ _ n h))
  · exact .inl (.inr ⟨o, k _ _ n h⟩)
  · exact .inr h
theorem Keep.seqT {K : PySem.W.Frag} {m : List Addr} {H H' : Hp} {a : Addr} {xs : List V} (k : Keep m H H') (n : a ∉ m) (h : SqT K H a xs) : SqT K H' a xs := by
  rcases h with (h | ⟨o, h⟩) | h
  · exact .inl (.inl (k _ _ n h))
  · exact .inl (.inr ⟨o, k _ _ n h⟩)
  · exact .inr h
theorem Keep.free {m : List Addr} {H H' : Hp} (k : Keep m H H') {p : Addr} (n : p ∉ m) (h : H' p = none) : H p = none := by
  cases e : H p with
  | none => rfl
  | some o =>
    rw [k p o n e] at h
    cases h

/-- the source of draws: two numbers, none below nought, the second one bounded -/
def Src (H : Hp) (a : Addr) : Prop := ∃ x y : Int, H a = some (.lst [.int x, .int y]) ∧ 0 ≤ x ∧ 0 ≤ y ∧ y < 1099511627776
theorem Src.keep {m : List Addr} {H H' : Hp} {a : Addr} (h : Src H a) (k : Keep m H H') (n : a ∉ m) : Src H' a := by
  obtain ⟨x, y, e, r⟩ := h
  exact ⟨x, y, k _ _ n e, r⟩

/-! ### bits -/
theorem bits_lt {N : Nat} {i : Int} (h : Builtin.Int.intBits i ≤ N) : i.natAbs < 2 ^ N := by
  unfold Builtin.Int.intBits at h
  by_cases z : i = 0
  · subst z
    exact Nat.two_pow_pos N
  · have e : (i == 0) = false := by simpa using z
    rw [e] at h
    have h' : i.natAbs.log2 + 1 ≤ N := h
    exact (Nat.log2_lt (by omega)).mp h'
theorem bits_le {N : Nat} {i : Int} (h : i.natAbs < 2 ^ N) : Builtin.Int.intBits i ≤ N := by
  unfold Builtin.Int.intBits
  by_cases z : i = 0
  · subst z
    exact Nat.zero_le N
  · have e : (i == 0) = false := by simpa using z
    rw [e]
    exact (Nat.log2_lt (by omega)).mpr h
theorem bits_sum {N : Nat} (hN : 60 ≤ N) {m c : Int} (hm : m.natAbs < 2 ^ 60) (hc : Builtin.Int.intBits c ≤ N) : Builtin.Int.intBits (m + c) ≤ N + 1 := by
  apply bits_le
  have h1 := bits_lt hc
  have h2 : 2 ^ 60 ≤ 2 ^ N := Nat.pow_le_pow_right (by decide) hN
  have h3 : (m + c).natAbs ≤ m.natAbs + c.natAbs := Int.natAbs_add_le m c
  rw [Nat.pow_succ]
  generalize 2 ^ N = Z at *
  generalize 2 ^ 60 = Y at *
  omega
theorem fmod_pos {i j : Int} (h : 0 < j) : 0 ≤ i.fmod j ∧ i.fmod j < j := by
  rw [Int.fmod_eq_emod_of_nonneg _ (by omega)]
  exact ⟨Int.emod_nonneg _ (by omega), Int.emod_lt_of_pos _ h⟩
theorem fdiv_nn {i j : Int} (h0 : 0 ≤ i) (h : 0 < j) : 0 ≤ i.fdiv j := by
  rw [Int.fdiv_eq_ediv_of_nonneg _ (by omega)]
  exact Int.ediv_nonneg h0 (by omega)

/-! ### promises of the drawing -/
def spSource (K : PySem.W.Frag) : Sp := fun vs H Q _ => ∃ (s : Addr) (ns : List Int) (start : Int), vs = [.ref s, .int start] ∧ SqL K H s (ns.map V.int) ∧ ns.length ≤ 63 ∧ (∀ n ∈ ns, Builtin.Int.intBits n ≤ 1048576) ∧ 0 ≤ start ∧ start < 1000 ∧
  ∀ p H', H p = none → Keep [] H H' → Src H' p → Q (.ref p) H'
def spDraw : Sp := fun vs H Q _ => ∃ (a : Addr) (span : Int), vs = [.ref a, .int span] ∧ Src H a ∧ 0 < span ∧ span < 1000000 ∧
  ∀ (r : Int) (H' : Hp), 0 ≤ r → r < span → Keep [a] H H' → Src H' a → Q (.int r) H'
/-- things[draw]: a list or a tuple -/
def spPick (K : PySem.W.Frag) : Sp := fun vs H Q _ => ∃ (a l : Addr) (xs : List V), vs = [.ref a, .ref l] ∧ Src H a ∧ (SqL K H l xs ∨ SqT K H l xs) ∧ l ≠ a ∧ 0 < xs.length ∧ xs.length < 100000 ∧
  ∀ (i : Nat) (v : V) (H' : Hp), xs[i]? = some v → Keep [a] H H' → Src H' a → Q v H'
end SM
set_option Elab.async false
set_option linter.all false
set_option maxRecDepth 100000
set_option maxHeartbeats 2000000
/-! Errors that are held, their readings; how long a repr is. -/
namespace SM
open PySem PySem.Spec PyProof.Rows L2 PySem.HandSPX
/-- x is an error of the class at C whose one field f holds v -/
def ErrAt (H : Hp) (C : Addr) (f : Str) (v x : V) : Prop := ∃ a dx : Addr, x = .ref a ∧ H a = some (exo a C (some dx)) ∧ H dx = some (exd dx [(f, v)])
/-- a list or a dict stands at b -/
def Mu (H : Hp) (b : Addr) : Prop := (∃ xs, H b = some (.lst xs)) ∨ ∃ kvs, H b = some (.dK kvs)
theorem ErrAt.keep {m : List Addr} {H H' : Hp} {C : Addr} {f : Str} {v x : V} (h : ErrAt H C f v x) (k : Keep m H H') (n : ∀ b ∈ m, Mu H b) : ErrAt H' C f v x := by
  obtain ⟨a, dx, e, h1, h2⟩ := h
  refine ⟨a, dx, e, k _ _ (fun z => ?_) h1, k _ _ (fun z => ?_) h2⟩
  · rcases n _ z with ⟨xs, q⟩ | ⟨xs, q⟩ <;>
    · rw [q] at h1
      exact absurd (Option.some.inj h1) (by intro y; cases y)
  · rcases n _ z with ⟨xs, q⟩ | ⟨xs, q⟩ <;>
    · rw [q] at h2
      exact absurd (Option.some.inj h2) (by intro y; cases y)
theorem rd_err {C : Addr} {f : Str} {te : TE} {σ : L2.St} {H : Hp} {Q : VK} (h : te σ H fun v H1 => ∀ x H2, Keep [] H1 H2 → ErrAt H2 C f v x → Q x H2) (mono : ∀ {W W' : VK}, (∀ v H1, W v H1 → W' v H1) → te σ H W → te σ H W') : tErr C f te σ H Q :=
  mono (fun v H1 q a dx na nd ne => q _ _ (fun b o _ e => by
    rw [upd_ne (ne_of_none e na), upd_ne (ne_of_none e nd)]
    exact e) ⟨a, dx, rfl, upd_same, by rw [upd_ne ne, upd_same]⟩) h
theorem rd_errV {C : Addr} {f : Str} {n : Nat} {v : V} {σ : L2.St} {H : Hp} {Q : VK} (hv : σ[n]? = some (some v)) (h : ∀ x H2, Keep [] H H2 → ErrAt H2 C f v x → Q x H2) : tErr C f (tVar n) σ H Q :=
  rd_err ⟨v, hv, h⟩ (fun w z => by
    obtain ⟨u, e, q⟩ := z
    exact ⟨u, e, w _ _ q⟩)
theorem rd_errT {C : Addr} {f : Str} {n : Nat} {v : V} {σ : L2.St} {H : Hp} {Q : VK} (hv : σ[n]? = some (some v)) (h : ∀ t x H2, Keep [] H H2 → H2 t = some (.tup [v]) → ErrAt H2 C f (.ref t) x → Q x H2) : tErr C f (tTup (tCons (tVar n) tNil)) σ H Q :=
  rd_err (te := tTup (tCons (tVar n) tNil)) ⟨v, hv, by show 1 ≤ sizeLine; decide, fun p hp x H2 k e => h p x H2 (Keep.trans (Keep.new hp) k) (k _ _ (by simp) upd_same) e⟩ (fun w z => by
    obtain ⟨u, e, hz, q⟩ := z
    exact ⟨u, e, hz, fun p hp => w _ _ (q p hp)⟩)
/-- isinstance(error, c) -/
theorem rd_isi {K : PySem.W.Frag} {H : Hp} {C : Addr} {f : Str} {v x c : V} {cv : Value} {b : Bool} {Q : VK} (h : ErrAt H C f v x) (T : ExcC K C) (hc : ∀ u, RelV c u → u = cv) (hk : PySem.W.kitOne K (.ref C) cv = some b) (q : Q (.bl b) H) : rErrI K [x, c] H Q := by
  obtain ⟨a, dx, rfl, h1, h2⟩ := h
  exact ⟨a, C, dx, _, c, cv, b, rfl, h1, h2, T, hc, hk, q⟩
/-- error.f -/
theorem rd_errF {K : PySem.W.Frag} {H : Hp} {C : Addr} {f : Str} {v x : V} {te : TE} {σ : L2.St} {Q : VK} (h : ErrAt H C f v x) (T : ExcC K C) (hn : PySem.W.findIn K (.ref C) f = some none) (q : Q v H) : ∃ (a C dx : Addr) (fs : List (Str × V)) (v' : V), x = .ref a ∧ H a = some (exo a C (some dx)) ∧ H dx = some (exd dx fs) ∧ ExcC K C ∧ PySem.W.findIn K (.ref C) f = some none ∧ fs.lookup f = some v' ∧ Q v' H := by
  obtain ⟨a, dx, rfl, h1, h2⟩ := h
  exact ⟨a, C, dx, _, v, rfl, h1, h2, T, hn, by simp [List.lookup], q⟩

/-! ### how long a repr is -/
mutual
def cost : PyData → Nat
  | .none => 4
  | .bool _ => 5
  | .int i => i.natAbs.log2 + 3
  | .str x => 10 * x.length + 2
  | .list xs => costAll xs + 2
  | .tuple xs => costAll xs + 3
  | .dict kvs => costKv kvs + 2
def costAll : List PyData → Nat
  | [] => 0
  | x :: xs => cost x + 2 + costAll xs
def costKv : List (PyData × PyData) → Nat
  | [] => 0
  | (k, v) :: r => cost k + 2 + cost v + 2 + costKv r
end
end SM
namespace SM
open PySem PySem.Spec PyProof.Rows L2
/-- a repr that fits -/
def fits (d : PyData) : Bool := d.showable && (d.leavesShort 13 && (decide (d.weight ≤ 1048576) && decide (d.depth ≤ 60)))
theorem rd_repr {K : PySem.W.Frag} {H : Hp} {a : Addr} {d : PyData} {Q : VK} (h : Dq K H (.ref a) d) (f : fits d = true) (q : Q (.str d.shown) H) : rRepr K [.ref a] H Q := by
  obtain ⟨h1, f⟩ := He.ba f
  obtain ⟨h2, f⟩ := He.ba f
  obtain ⟨h3, h4⟩ := He.ba f
  exact ⟨a, d, rfl, h, h1, of_decide_eq_true h4, PyData.shown_fits (B := 13) (by decide) (by decide) h2 (Nat.le_trans (of_decide_eq_true h3) (by decide)), q⟩
theorem fits_parts {d : PyData} (f : fits d = true) : d.showable = true ∧ d.depth ≤ 60 ∧ d.shown.length ≤ sizeLine := by
  obtain ⟨h1, f⟩ := He.ba f
  obtain ⟨h2, f⟩ := He.ba f
  obtain ⟨h3, h4⟩ := He.ba f
  exact ⟨h1, of_decide_eq_true h4, PyData.shown_fits (B := 13) (by decide) (by decide) h2 (Nat.le_trans (of_decide_eq_true h3) (by decide))⟩
/-- a chain of steps, its end told by a fresh place -/
theorem Keep.pin {m : List Addr} {H H' : Hp} {q : Addr} (k : Keep m H H') (_ : H' q = none) : Keep m H H' := k
theorem Keep.pinTo {H H' : Hp} {q a : Addr} {o : HO} (k : Keep [] H H') (h : H a = some o) (_ : H' q = none) : H' a = some o := k a o (by simp) h
/-- what is new to H0 may change behind -/
theorem Keep.offNew {H0 H1 H2 : Hp} {p : Addr} (k : Keep [] H0 H1) (k2 : Keep [p] H1 H2) (n : H0 p = none) : Keep [] H0 H2 := fun b o _ e => k2 b o (by
    intro z
    rw [List.mem_singleton.mp z, n] at e
    cases e) (k b o (by simp) e)
theorem DqAll.get {K : PySem.W.Frag} {H : Hp} : ∀ {vs : List V} {ds : List PyData}, DqAll K H vs ds → ∀ {i : Nat} {v : V}, vs[i]? = some v → ∃ d, ds[i]? = some d ∧ Dq K H v d
  | _, _, .nil, i, v, e => by simp at e
  | _, _, .cons h t, 0, v, e => by
    simp at e
    subst e
    exact ⟨_, rfl, h⟩
  | _, _, .cons h t, i + 1, v, e => by
    obtain ⟨d, e1, h1⟩ := t.get (i := i) (v := v) (by simpa using e)
    exact ⟨d, by simpa using e1, h1⟩
/-- for i, x in enumerate(xs) -/
theorem for_enumL {K : PySem.W.Frag} {a : Addr} {xs : List V} {g : TG} {tb : TS} {D : Ends} {σ : L2.St} {H : Hp} (Pv : Nat → L2.St → Hp → Prop) (h0 : Pv 0 σ H) (hl : ∀ i σ H, i ≤ xs.length → Pv i σ H → SqL K H a xs)
    (hs : ∀ (i : Nat) (x : V) (T : Addr) (σ : L2.St) (H : Hp), xs[i]? = some x → Pv i σ H → H T = none → g (.ref T) σ (upd H T (.tup [.int (i : Int), x])) fun σ2 H2 => tb { D with nx := Pv (i + 1), ct := Pv (i + 1), bk := D.nx } σ2 H2)
    (hd : ∀ σ H, Pv xs.length σ H → D.nx σ H) :
    ∃ W : Nat → Nat → L2.St → Hp → Prop, (∃ m, W 0 m σ H) ∧ ∀ i m σ H, W i m σ H →
      ((Ite K a).stop i H ∧ D.nx σ H) ∨ ((Ite K a).go i H ∧ ∃ N : L2.St → Hp → Prop, (∀ σ' H', N σ' H' → ∃ m', m' < m ∧ W (i + 1) m' σ' H') ∧ ∀ x H', (Ite K a).yld i H x H' → g x σ H' fun σ2 H2 => tb { D with nx := N, ct := N, bk := D.nx } σ2 H2) := by
  refine ⟨fun i m σ H => m + i = xs.length ∧ Pv i σ H, ⟨xs.length, rfl, h0⟩, ?_⟩
  intro i m σ H w
  obtain ⟨em, p⟩ := w
  have sq := hl i σ H (by omega) p
  by_cases c : i < xs.length
  · right
    refine ⟨⟨xs, xs[i], sq, List.getElem?_eq_getElem c⟩, Pv (i + 1), fun σ' H' q => ⟨m - 1, by omega, by omega, q⟩, fun v H' y => ?_⟩
    obtain ⟨T, x, rfl, hT, rfl, hx⟩ := y
    exact hs i x T σ H (hx xs sq) p hT
  · left
    have e : i = xs.length := by omega
    subst e
    exact ⟨⟨xs, sq, Nat.le_refl _⟩, hd σ H p⟩
end SM
namespace SM
open PySem PySem.Spec PyProof.Rows L2
theorem rd_lst {H : Hp} {xs : List V} {Q : VK} (z : xs.length ≤ 1000) (h : ∀ p H', H p = none → Keep [] H H' → H' p = some (.lst xs) → Q (.ref p) H') : xs.length ≤ sizeLine ∧ ∀ p, H p = none → Q (.ref p) (upd H p (.lst xs)) :=
  ⟨Nat.le_trans z (by decide), fun p hp => h p _ hp (Keep.new hp) upd_same⟩
theorem rd_tup {H : Hp} {xs : List V} {Q : VK} (z : xs.length ≤ 1000) (h : ∀ p H', H p = none → Keep [] H H' → H' p = some (.tup xs) → Q (.ref p) H') : xs.length ≤ sizeLine ∧ ∀ p, H p = none → Q (.ref p) (upd H p (.tup xs)) :=
  ⟨Nat.le_trans z (by decide), fun p hp => h p _ hp (Keep.new hp) upd_same⟩
theorem rd_cat {H : Hp} {l b : Addr} {xs zs : List V} {Q : VK} (hl : H l = some (.lst xs)) (hb : H b = some (.lst zs)) (z : xs.length + zs.length ≤ 1000) (h : ∀ p H', H p = none → Keep [] H H' → H' p = some (.lst (xs ++ zs)) → Q (.ref p) H') : rCat (.ref l) (.ref b) H Q :=
  ⟨l, b, xs, zs, rfl, rfl, hl, hb, Nat.le_trans z (by decide), fun p hp => h p _ hp (Keep.new hp) upd_same⟩
theorem rd_rep {H : Hp} {l : Addr} {xs : List V} {k : Int} {Q : VK} (hl : H l = some (.lst xs)) (k0 : 0 ≤ k) (k1 : k ≤ 1000) (z : xs.length * k.toNat ≤ 1000) (h : ∀ p H', H p = none → Keep [] H H' → H' p = some (.lst (List.replicate k.toNat xs).flatten) → Q (.ref p) H') : rRep (.ref l) (.int k) H Q :=
  ⟨l, k, xs, rfl, rfl, hl, by omega, by omega, Nat.le_trans z (by decide), fun p hp => h p _ hp (Keep.new hp) upd_same⟩
/-- a step that does nothing to the heap, then what follows -/
theorem Keep.to {m : List Addr} {H1 H2 : Hp} {a : Addr} {o : HO} (k : Keep m H1 H2) (h : H1 a = some o) (n : a ∉ m := by simp) : H2 a = some o := k a o n h
end SM
set_option Elab.async false
set_option linter.all false
set_option maxRecDepth 100000
set_option maxHeartbeats 2000000
/-! Data of tuples and flat things alone: it stands, whatever happens to lists. -/
namespace SM
open PySem PySem.Spec PyProof.Rows L2
mutual
inductive Dt (K : PySem.W.Frag) (H : Hp) : V → PyData → Prop
  | non : Dt K H .non .none
  | bl (b : Bool) : Dt K H (.bl b) (.bool b)
  | int (i : Int) : Dt K H (.int i) (.int i)
  | str (x : Str) : Dt K H (.str x) (.str x)
  | tup {a : Addr} {xs : List V} {ds : List PyData} : SqT K H a xs → DtAll K H xs ds → Dt K H (.ref a) (.tuple ds)
inductive DtAll (K : PySem.W.Frag) (H : Hp) : List V → List PyData → Prop
  | nil : DtAll K H [] []
  | cons {v : V} {vs : List V} {d : PyData} {ds : List PyData} : Dt K H v d → DtAll K H vs ds → DtAll K H (v :: vs) (d :: ds)
end
/-- what may change is no tuple -/
def Soft (m : List Addr) (H : Hp) : Prop := ∀ b ∈ m, ∀ xs, H b ≠ some (.tup xs) ∧ ∀ o, H b ≠ some (.frz o (.tup xs))
theorem Soft.nil {H : Hp} : Soft [] H := fun b z => by cases z
theorem Soft.lst {H : Hp} {a : Addr} {xs : List V} (h : H a = some (.lst xs)) : Soft [a] H := fun b z ys => by
  rw [List.mem_singleton.mp z, h]
  exact ⟨(fun e => by cases e), (fun o e => by cases e)⟩
theorem Src.soft {H : Hp} {a : Addr} (h : Src H a) : Soft [a] H := by
  obtain ⟨x, y, e, _⟩ := h
  exact Soft.lst e
theorem seqT_keep {K : PySem.W.Frag} {m : List Addr} {H H' : Hp} (k : Keep m H H') (n : Soft m H) {a : Addr} {xs : List V} (h : SqT K H a xs) : SqT K H' a xs := by
  rcases h with (h | ⟨o, h⟩) | h
  · exact .inl (.inl (k _ _ (fun z => (n _ z xs).1 h) h))
  · exact .inl (.inr ⟨o, k _ _ (fun z => (n _ z xs).2 o h) h⟩)
  · exact .inr h
mutual
theorem Dt.keep {K : PySem.W.Frag} {m : List Addr} {H H' : Hp} (k : Keep m H H') (n : Soft m H) : ∀ {v : V} {d : PyData}, Dt K H v d → Dt K H' v d
  | _, _, .non => .non
  | _, _, .bl b => .bl b
  | _, _, .int i => .int i
  | _, _, .str x => .str x
  | _, _, .tup s t => .tup (seqT_keep k n s) (DtAll.keep k n t)
theorem DtAll.keep {K : PySem.W.Frag} {m : List Addr} {H H' : Hp} (k : Keep m H H') (n : Soft m H) : ∀ {vs : List V} {ds : List PyData}, DtAll K H vs ds → DtAll K H' vs ds
  | _, _, .nil => .nil
  | _, _, .cons s t => .cons (Dt.keep k n s) (DtAll.keep k n t)
end
theorem Dt.k0 {K : PySem.W.Frag} {H H' : Hp} (k : Keep [] H H') {v : V} {d : PyData} (h : Dt K H v d) : Dt K H' v d := h.keep k Soft.nil
theorem DtAll.k0 {K : PySem.W.Frag} {H H' : Hp} (k : Keep [] H H') {vs : List V} {ds : List PyData} (h : DtAll K H vs ds) : DtAll K H' vs ds := h.keep k Soft.nil
mutual
theorem Dt.dp {K : PySem.W.Frag} {H : Hp} : ∀ {v : V} {d : PyData}, Dt K H v d → Dp K H v d
  | _, _, .non => .non
  | _, _, .bl b => .bl b
  | _, _, .int i => .int i
  | _, _, .str x => .str x
  | _, _, .tup s t => .tup s (DtAll.dp t)
theorem DtAll.dp {K : PySem.W.Frag} {H : Hp} : ∀ {vs : List V} {ds : List PyData}, DtAll K H vs ds → DpAll K H vs ds
  | _, _, .nil => .nil
  | _, _, .cons s t => .cons (Dt.dp s) (DtAll.dp t)
end
mutual
theorem Dt.dq {K : PySem.W.Frag} {H : Hp} : ∀ {v : V} {d : PyData}, Dt K H v d → Dq K H v d
  | _, _, .non => .non
  | _, _, .bl b => .bl b
  | _, _, .int i => .int i
  | _, _, .str x => .str x
  | _, _, .tup s t => .tup s (DtAll.dq t)
theorem DtAll.dq {K : PySem.W.Frag} {H : Hp} : ∀ {vs : List V} {ds : List PyData}, DtAll K H vs ds → DqAll K H vs ds
  | _, _, .nil => .nil
  | _, _, .cons s t => .cons (Dt.dq s) (DtAll.dq t)
end
theorem DtAll.length {K : PySem.W.Frag} {H : Hp} : ∀ {vs : List V} {ds : List PyData}, DtAll K H vs ds → vs.length = ds.length
  | _, _, .nil => rfl
  | _, _, .cons _ t => congrArg (· + 1) t.length
theorem DtAll.get {K : PySem.W.Frag} {H : Hp} : ∀ {vs : List V} {ds : List PyData}, DtAll K H vs ds → ∀ {i : Nat} {v : V}, vs[i]? = some v → ∃ d, ds[i]? = some d ∧ Dt K H v d
  | _, _, .nil, i, v, e => by simp at e
  | _, _, .cons h t, 0, v, e => by
    simp at e
    subst e
    exact ⟨_, rfl, h⟩
  | _, _, .cons h t, i + 1, v, e => by
    obtain ⟨d, e1, h1⟩ := t.get (i := i) (v := v) (by simpa using e)
    exact ⟨d, by simpa using e1, h1⟩
theorem DtAll.getD {K : PySem.W.Frag} {H : Hp} : ∀ {vs : List V} {ds : List PyData}, DtAll K H vs ds → ∀ {i : Nat} {d : PyData}, ds[i]? = some d → ∃ v, vs[i]? = some v ∧ Dt K H v d
  | _, _, .nil, i, v, e => by simp at e
  | _, _, .cons h t, 0, v, e => by
    simp at e
    subst e
    exact ⟨_, rfl, h⟩
  | _, _, .cons h t, i + 1, v, e => by
    obtain ⟨d, e1, h1⟩ := t.getD (i := i) (d := v) (by simpa using e)
    exact ⟨d, by simpa using e1, h1⟩
theorem DtAll.append {K : PySem.W.Frag} {H : Hp} : ∀ {vs us : List V} {ds es : List PyData}, DtAll K H vs ds → DtAll K H us es → DtAll K H (vs ++ us) (ds ++ es)
  | _, _, _, _, .nil, h => h
  | _, _, _, _, .cons h t, z => .cons h (DtAll.append t z)
theorem DtAll.take {K : PySem.W.Frag} {H : Hp} : ∀ (n : Nat) {vs : List V} {ds : List PyData}, DtAll K H vs ds → DtAll K H (vs.take n) (ds.take n)
  | 0, _, _, _ => .nil
  | _ + 1, _, _, .nil => .nil
  | n + 1, _, _, .cons h t => .cons h (DtAll.take n t)
theorem DtAll.drop {K : PySem.W.Frag} {H : Hp} : ∀ (n : Nat) {vs : List V} {ds : List PyData}, DtAll K H vs ds → DtAll K H (vs.drop n) (ds.drop n)
  | 0, _, _, h => h
  | _ + 1, _, _, .nil => .nil
  | n + 1, _, _, .cons _ t => DtAll.drop n t
theorem DtAll.rev {K : PySem.W.Frag} {H : Hp} : ∀ {vs : List V} {ds : List PyData}, DtAll K H vs ds → DtAll K H vs.reverse ds.reverse
  | _, _, .nil => .nil
  | v :: vs, d :: ds, .cons h t => by
    rw [List.reverse_cons, List.reverse_cons]
    exact DtAll.append (DtAll.rev t) (.cons h .nil)
theorem DtAll.strs {K : PySem.W.Frag} {H : Hp} : ∀ (xs : List Str), DtAll K H (xs.map V.str) (xs.map PyData.str)
  | [] => .nil
  | x :: xs => .cons (.str x) (DtAll.strs xs)
/-- of a tuple's data: its items -/
theorem Dt.items {K : PySem.W.Frag} {H : Hp} {v : V} {ds : List PyData} (h : Dt K H v (.tuple ds)) : ∃ a xs, v = .ref a ∧ SqT K H a xs ∧ DtAll K H xs ds := by
  cases h with
  | tup s t => exact ⟨_, _, rfl, s, t⟩

/-! ### plans: names, lines of tests and steps -/
structure Ln where
  tests : List (Str × Str × Bool)
  steps : List (Str × Str)
  keep : Option (List (Str × Str))
def stepD (s : Str × Str) : PyData := .tuple [.str s.1, .str s.2]
def stepsD (l : List (Str × Str)) : PyData := .tuple (l.map stepD)
def testD (t : Str × Str × Bool) : PyData := .tuple [.str t.1, .str t.2.1, .bool t.2.2]
def testsD (l : List (Str × Str × Bool)) : PyData := .tuple (l.map testD)
def keepD : Option (List (Str × Str)) → List PyData
  | none => []
  | some l => [stepsD l]
def lnD (l : Ln) : PyData := .tuple (testsD l.tests :: stepsD l.steps :: keepD l.keep)
def linesD (ls : List Ln) : List PyData := ls.map lnD
def planD (names : List Str) (ls : List Ln) : PyData := .tuple [.tuple (names.map .str), .tuple (linesD ls)]
/-- a step, a test, a line over some names -/
def GoodS (ns : List Str) (s : Str × Str) : Prop := (s.1 = "here" ∨ s.1 ∈ ns) ∧ (s.2 = "new" ∨ s.2 = "here" ∨ s.2 = "nothing" ∨ s.2 ∈ ns)
def GoodT (ns : List Str) (t : Str × Str × Bool) : Prop := (t.1 = "here" ∨ t.1 = "new" ∨ t.1 ∈ ns) ∧ (t.2.1 = "new" ∨ t.2.1 = "here" ∨ t.2.1 = "nothing" ∨ t.2.1 ∈ ns)
structure GoodL (ns : List Str) (l : Ln) : Prop where
  tests : l.tests.length ≤ 4 ∧ ∀ t ∈ l.tests, GoodT ns t
  steps : l.steps.length ≤ 4 ∧ ∀ s ∈ l.steps, GoodS ns s
  keep : ∀ k, l.keep = some k → k.length ≤ 4 ∧ ∀ s ∈ k, GoodS ns s
end SM
set_option Elab.async false
set_option linter.all false
set_option maxRecDepth 100000
set_option maxHeartbeats 2000000
/-! Which data may be compared and told. -/
namespace SM
open PySem PySem.Spec PyProof.Rows L2
def Lay (n : Nat) (d : PyData) : Prop := d.canLay0 = true ∧ d.depth ≤ n
theorem Lay.shaped {n : Nat} {d : PyData} (h : Lay n d) (k : n ≤ 64) : SeqAt.shaped d = true := by
  rw [SeqAt.shaped, h.1, Bool.true_and, decide_eq_true_eq]
  exact Nat.le_trans h.2 k
theorem Lay.mono {m n : Nat} {d : PyData} (h : Lay m d) (k : m ≤ n) : Lay n d := ⟨h.1, Nat.le_trans h.2 k⟩
theorem layAll {n : Nat} : ∀ (ds : List PyData), (∀ d ∈ ds, Lay n d) → PyData.canLayAll0 ds = true ∧ PyData.depthAll ds ≤ n
  | [], _ => ⟨by rw [PyData.canLayAll0], by rw [PyData.depthAll]; exact Nat.zero_le _⟩
  | d :: ds, h => by
    obtain ⟨a, b⟩ := layAll ds fun e z => h e (List.mem_cons_of_mem _ z)
    obtain ⟨c, e⟩ := h d List.mem_cons_self
    refine ⟨by rw [PyData.canLayAll0, a, c]; rfl, ?_⟩
    rw [PyData.depthAll]
    exact Nat.max_le.mpr ⟨e, b⟩
theorem Lay.tuple {n : Nat} {ds : List PyData} (h : ∀ d ∈ ds, Lay n d) : Lay (n + 1) (.tuple ds) := by
  obtain ⟨a, b⟩ := layAll ds h
  exact ⟨by rw [PyData.canLay0]; exact a, by rw [PyData.depth]; omega⟩
theorem Lay.list {n : Nat} {ds : List PyData} (h : ∀ d ∈ ds, Lay n d) : Lay (n + 1) (.list ds) := by
  obtain ⟨a, b⟩ := layAll ds h
  exact ⟨by rw [PyData.canLay0]; exact a, by rw [PyData.depth]; omega⟩
theorem Lay.str {n : Nat} {x : Str} (h : PyData.strOk x = true) : Lay n (.str x) := ⟨by rw [PyData.canLay0]; exact h, by rw [PyData.depth]; exact Nat.zero_le _⟩
theorem Lay.bool {n : Nat} (b : Bool) : Lay n (.bool b) := ⟨by rw [PyData.canLay0], by rw [PyData.depth]; exact Nat.zero_le _⟩
theorem Lay.int {n : Nat} (b : Int) : Lay n (.int b) := ⟨by rw [PyData.canLay0], by rw [PyData.depth]; exact Nat.zero_le _⟩
theorem Lay.none {n : Nat} : Lay n .none := ⟨by rw [PyData.canLay0], by rw [PyData.depth]; exact Nat.zero_le _⟩
theorem eqv_nil (ds : List PyData) : PyData.eqv (.list ds) (.list []) = ds.isEmpty := by
  cases ds <;> rw [PyData.eqv, PyData.eqvAll] <;> rfl
theorem eqv_tnil (ds : List PyData) : PyData.eqv (.tuple ds) (.tuple []) = ds.isEmpty := by
  cases ds <;> rw [PyData.eqv, PyData.eqvAll] <;> rfl
/-- names that may be told -/
def OkN (ns : List Str) : Prop := ∀ s ∈ ns, PyData.strOk s = true
theorem ok_here : PyData.strOk "here" = true := by decide +kernel
theorem ok_new : PyData.strOk "new" = true := by decide +kernel
theorem ok_nothing : PyData.strOk "nothing" = true := by decide +kernel
theorem GoodS.lay {n : Nat} {ns : List Str} {s : Str × Str} (o : OkN ns) (h : GoodS ns s) : Lay (n + 1) (stepD s) := by
  refine Lay.tuple fun d z => ?_
  rcases List.mem_cons.mp z with e | z
  · rw [e]
    rcases h.1 with e | e
    · rw [e]; exact .str ok_here
    · exact .str (o _ e)
  · rw [List.mem_singleton.mp z]
    rcases h.2 with e | e | e | e
    · rw [e]; exact .str ok_new
    · rw [e]; exact .str ok_here
    · rw [e]; exact .str ok_nothing
    · exact .str (o _ e)
theorem GoodT.lay {n : Nat} {ns : List Str} {s : Str × Str × Bool} (o : OkN ns) (h : GoodT ns s) : Lay (n + 1) (testD s) := by
  refine Lay.tuple fun d z => ?_
  rcases List.mem_cons.mp z with e | z
  · rw [e]
    rcases h.1 with e | e | e
    · rw [e]; exact .str ok_here
    · rw [e]; exact .str ok_new
    · exact .str (o _ e)
  · rcases List.mem_cons.mp z with e | z
    · rw [e]
      rcases h.2 with e | e | e | e
      · rw [e]; exact .str ok_new
      · rw [e]; exact .str ok_here
      · rw [e]; exact .str ok_nothing
      · exact .str (o _ e)
    · rw [List.mem_singleton.mp z]
      exact .bool _
theorem steps_lay {n : Nat} {ns : List Str} {l : List (Str × Str)} (o : OkN ns) (h : ∀ s ∈ l, GoodS ns s) : Lay (n + 2) (stepsD l) := by
  refine Lay.tuple fun d z => ?_
  obtain ⟨s, hs, rfl⟩ := List.mem_map.mp z
  exact (h s hs).lay o
theorem tests_lay {n : Nat} {ns : List Str} {l : List (Str × Str × Bool)} (o : OkN ns) (h : ∀ s ∈ l, GoodT ns s) : Lay (n + 2) (testsD l) := by
  refine Lay.tuple fun d z => ?_
  obtain ⟨s, hs, rfl⟩ := List.mem_map.mp z
  exact (h s hs).lay o
theorem GoodL.lay {n : Nat} {ns : List Str} {l : Ln} (o : OkN ns) (h : GoodL ns l) : Lay (n + 3) (lnD l) := by
  refine Lay.tuple fun d z => ?_
  rcases List.mem_cons.mp z with e | z
  · rw [e]; exact tests_lay o h.tests.2
  · rcases List.mem_cons.mp z with e | z
    · rw [e]; exact steps_lay o h.steps.2
    · cases hk : l.keep with
      | none =>
        rw [hk] at z
        cases z
      | some k =>
        rw [hk] at z
        rw [List.mem_singleton.mp z]
        exact steps_lay o (h.keep k hk).2
theorem lines_lay {n : Nat} {ns : List Str} {ls : List Ln} (o : OkN ns) (h : ∀ l ∈ ls, GoodL ns l) : Lay (n + 4) (.list (ls.map lnD)) := by
  refine Lay.list fun d z => ?_
  obtain ⟨s, hs, rfl⟩ := List.mem_map.mp z
  exact (h s hs).lay o
theorem DtAll.eraseIdx {K : PySem.W.Frag} {H : Hp} : ∀ {vs : List V} {ds : List PyData}, DtAll K H vs ds → ∀ i, DtAll K H (vs.eraseIdx i) (ds.eraseIdx i)
  | _, _, .nil, _ => .nil
  | _, _, .cons _ t, 0 => t
  | _, _, .cons h t, i + 1 => .cons h (DtAll.eraseIdx t i)
theorem map_erase {α β : Type} (f : α → β) : ∀ (l : List α) (i : Nat), (l.map f).eraseIdx i = (l.eraseIdx i).map f
  | [], _ => rfl
  | _ :: _, 0 => rfl
  | _ :: l, i + 1 => congrArg _ (map_erase f l i)
theorem mem_erase {α : Type} {x : α} : ∀ {l : List α} {i : Nat}, x ∈ l.eraseIdx i → x ∈ l
  | [], _, z => z
  | _ :: _, 0, z => List.mem_cons_of_mem _ z
  | _ :: l, i + 1, z => by
    rcases List.mem_cons.mp z with e | z
    · rw [e]; exact List.mem_cons_self
    · exact List.mem_cons_of_mem _ (mem_erase z)
theorem seqIndex_nat {i n : Nat} (h : i < n) : seqIndex? (i : Int) n = some i := by
  unfold seqIndex?
  have e : ¬ ((i : Int) < 0) := by omega
  have f : (i : Int) < n := by omega
  simp [e, f]
end SM
set_option Elab.async false
set_option linter.all false
set_option maxRecDepth 100000
set_option maxHeartbeats 2000000
/-! xs[::-1] of a tuple -/
namespace HT
open PySem PyProof.Rows
open PySem.SeqAt
section
variable {prog : Program} {w : World} {A : Around} {E : Value → Shared → Prop} {s : Shared}
theorem adjust_rev (n : Nat) : Builtin.Slice.sliceAdjust none none (-1) (n : Int) = ((n : Int) - 1, -1) := by
  unfold Builtin.Slice.sliceAdjust
  rfl
theorem places_rev (n : Nat) : Builtin.Slice.slicePlaces ((n : Int) - 1) (-1) (-1) = n := by
  unfold Builtin.Slice.slicePlaces
  have h1 : ¬ ((-1 : Int) > 0) := by omega
  simp only [h1, if_false]
  rw [show (- -1 : Int) = 1 by decide, Int.ediv_one]
  split <;> omega
theorem sliceApplied_rev {sl : Addr} {vs : Value} {n : Nat} {Q : Int × Int × Nat → Shared → Prop} (hs : s.heap.IsSliceOf sl .none .none vs) (ps : IsPart vs (some (-1)))
    (h : Q ((n : Int) - 1, -1, n) s) : wpAny (model prog w) A (Builtin.Slice.sliceApplied (.ref sl) (pure (n : Int))) Q E s := by
  obtain ⟨os, hos, hcs, hds⟩ := id hs
  unfold Builtin.Slice.sliceApplied Builtin.Slice.sliceFields
  refine wpAny_bind (wpAny_bind (wpAny_field hos hds (x := .none) rfl (wpAny_bind (wpAny_field hos hds (x := .none) rfl (wpAny_bind (wpAny_field hos hds (x := vs) rfl (wpAny_pure ?_)))))))
  refine wpAny_bind (slicePart_ ps ?_)
  show wpAny _ _ (if ((-1 : Int) == 0) = true then _ else _) _ _ s
  rw [if_neg (by decide)]
  refine wpAny_bind (slicePart_none (wpAny_bind (slicePart_none (wpAny_bind (wpAny_pure ?_)))))
  show wpAny _ _ (match Builtin.Slice.sliceAdjust none none (-1) (n : Int) with | (lo, hi) => pure (lo, (-1 : Int), Builtin.Slice.slicePlaces lo hi (-1))) _ _ s
  rw [adjust_rev n]
  show wpAny _ _ (pure ((n : Int) - 1, (-1 : Int), Builtin.Slice.slicePlaces ((n : Int) - 1) (-1) (-1))) _ _ s
  rw [places_rev]
  exact wpAny_pure h
theorem filterMap_cong {α β : Type} {f g : α → Option β} : ∀ (l : List α), (∀ x ∈ l, f x = g x) → l.filterMap f = l.filterMap g
  | [], _ => rfl
  | x :: l, h => by
    rw [List.filterMap_cons, List.filterMap_cons, h x List.mem_cons_self, filterMap_cong l fun y z => h y (List.mem_cons_of_mem _ z)]
theorem pick_rev (xs : Array Value) : ((List.range xs.size).filterMap fun (m : Nat) => xs[((xs.size : Int) - 1 + (m : Int) * (-1)).toNat]?).toArray = xs.toList.reverse.toArray := by
  have e : ((List.range xs.size).filterMap fun (m : Nat) => xs[((xs.size : Int) - 1 + (m : Int) * (-1)).toNat]?) = ((List.range xs.size).map fun k => xs.size - 1 - k).filterMap (xs[·]?) := by
    rw [List.filterMap_map]
    apply filterMap_cong
    intro m hm
    have := List.mem_range.mp hm
    have e2 : ((xs.size : Int) - 1 + (m : Int) * (-1)).toNat = xs.size - 1 - m := by omega
    rw [e2]
    rfl
  rw [e, PySem.W.krv_range, List.filterMap_reverse, PySem.W.krv_all]
theorem getItem_tuple_rev {t sl : Addr} {items : Array Value} {vs : Value} {Q : Value → Shared → Prop} (ht : IsTup s.heap t items) (hs : s.heap.IsSliceOf sl .none .none vs) (ps : IsPart vs (some (-1)))
    (h : Q (.ref s.heap.objs.size) { s with heap := s.heap.push { cls := .type "tuple", data := .seq items.toList.reverse.toArray } })
    (hsz : items.size ≤ sizeLine) : wpAny (model prog w) A (getItem (.ref t) (.ref sl)) Q E s := by
  have htake : sizeOk (.seq items.toList.reverse.toArray) := by
    show items.toList.reverse.toArray.size ≤ sizeLine
    rw [List.size_toArray, List.length_reverse, Array.length_toList]
    exact hsz
  obtain ⟨os, hos, hcs, hds⟩ := id hs
  have hTs : s.TypeIs (.ref sl) "slice" := ⟨os, hos, hcs⟩
  unfold getItem
  try with_reducible refine wpAny_holding ?_
  first | refine wpAny_bind (wpAny_pure ?_) | skip
  refine wpAny_bind (wpAny_sequenceKey ht.typeIs (by decide) ?_)
  refine wpAny_bind (wpAny_callSpecial?_slot (name := Str.ofString "__getitem__") ht.typeIs PyProof.Rows.slot_tuple_getitem
    (wpAny_call_entry PyProof.Rows.slot_tuple_getitem ht.typeIs entry_tuple_getitem ?_ (args_tuple_getitem _ _)))
  show wpAny _ _ (Builtin.Tuple.tupleItemsOf (.ref t) >>= _) _ _ s
  refine wpAny_bind (tupleItemsOf_ ht ?_)
  refine wpAny_bind (wpAny_typeOf hTs ?_)
  rw [if_pos (by decide)]
  refine wpAny_bind (sliceApplied_rev hs ps ?_)
  have hno : ¬ ((((items.size : Int) - 1) == 0 && (-1 : Int) == 1 && items.size == items.size) = true) := by
    intro q
    rw [Bool.and_eq_true, Bool.and_eq_true] at q
    exact absurd q.1.2 (by decide)
  show wpAny _ _ (if (((items.size : Int) - 1) == 0 && (-1 : Int) == 1 && items.size == items.size) = true then _ else _) _ _ s
  rw [if_neg hno, pick_rev]
  first
    | exact wpAny_bind (m := Builtin.Tuple.tupleExact _) (wpAny_newObj_type (wpAny_pure ⟨_, rfl, wpAny_pure h⟩) htake)
    | exact wpAny_bind (m := Builtin.Tuple.tupleExact _) (wpAny_newObj_type (wpAny_bind (wpAny_pure (wpAny_pure ⟨_, rfl, wpAny_pure h⟩))) htake)
    | exact wpAny_bind (wpAny_bind (m := Builtin.Tuple.tupleExact _) (wpAny_newObj_type (wpAny_pure (wpAny_pure ⟨_, rfl, wpAny_pure h⟩)) htake))
    | exact wpAny_bind (wpAny_bind (m := Builtin.Tuple.tupleExact _) (wpAny_newObj_type (wpAny_pure ⟨_, rfl, wpAny_pure h⟩) htake))
end
end HT
namespace SM
open PySem PySem.Spec PyProof.Rows L2
section
variable {X : Cx}
def tRevT (K : PySem.W.Frag) (te : TE) : TE := fun σ H Q => te σ H fun x H1 => ∃ a xs, x = .ref a ∧ SqT K H1 a xs ∧ ∀ p, H1 p = none → Q (.ref p) (upd H1 p (.tup xs.reverse))
theorem pe_revT {e : Expr} {te : TE} {k : Nat} {p1 p2 p3 pos : Pos} (he : PE X e te) : PE X (.Subscript e (.Slice none none (some (.UnaryOp .USub (.Constant (.int 1) k p1) p2)) p3) pos) (tRevT X.K te) := by
  refine ⟨fun pins s σ H Q I h => ?_⟩
  refine Subscript_ (thn (he.run pins s σ H _ I h) fun v s1 ⟨x, H1, I1, r1, q1⟩ => ?_)
  obtain ⟨a, xs, ex, hx, q⟩ := q1
  subst ex
  cases r1
  have hst : PO X (some (.UnaryOp .USub (.Constant (.int 1) k p1) p2)) (tPart (tUn (rU fun i => .int (-i)) (tC (.int 1)))) := po_some (pe_un un_neg pe_int)
  refine wpAny_Slice (thn (po_none.run pins s1 σ H1 (fun o H2 => o = none ∧ H2 = H1) I1 ⟨rfl, rfl⟩) fun vl s2 ⟨l, H2, I2, pl, el, e2⟩ => ?_)
  subst el e2
  refine thn (po_none.run pins s2 σ H2 (fun o H3 => o = none ∧ H3 = H2) I2 ⟨rfl, rfl⟩) fun vu s3 ⟨u, H3, I3, pu, eu, e3⟩ => ?_
  subst eu e3
  refine thn (hst.run pins s3 σ H3 (fun o H4 => o = some (-1) ∧ H4 = H3) I3 ⟨1, rfl, -1, rfl, rfl, rfl⟩) fun vs s4 ⟨o, H4, I4, ps, eo, e4⟩ => ?_
  subst eo e4
  cases pl
  cases pu
  have I5 : Inv X pins σ H4 { s4 with heap := s4.heap.push { cls := .type "slice", data := .fields #[.none, .none, vs] } } := I4.kept (t' := s4.toks) fun b ob q => Heap.get?_push_of_some _ q
  obtain ⟨its, r, ht, hz⟩ := I5.tuple hx
  have hlen := r.length
  show wpAny (model X.prog X.w) X.A (subscriptTail e (.Slice none none (some (.UnaryOp .USub (.Constant (.int 1) k p1) p2)) p3) (.ref a) (.ref s4.heap.objs.size)) (EP X pins σ Q) X.xe { s4 with heap := s4.heap.push { cls := .type "slice", data := .fields #[.none, .none, vs] } }
  refine tail_any (ops := [.ref a, .ref s4.heap.objs.size]) ht.typeIs (PyProof.Rows.slot_tuple_getitem.lookup) ?_ (by with_unfolding_all rfl)
  refine HT.getItem_tuple_rev ht (Heap.IsSliceOf.new _ .none .none vs) ps ?_ (by rw [List.size_toArray]; omega)
  refine ⟨.ref _, _, I5.laid (t' := s4.toks) (o := .tup xs.reverse) (fun b ob q => Heap.get?_push_of_some _ q) (Nat.le_refl _) ?_, rfl, q _ (I5.hok.fresh (Nat.le_refl _))⟩
  exact ⟨by rw [List.length_reverse]; exact hz, _, r.reverse, ⟨_, Heap.get?_push_size _ rfl, rfl, 0, rfl⟩⟩
def rInT (K : PySem.W.Frag) : R2 := fun x y H Q => ∃ d ds, Dp K H x d ∧ Dp K H y (.tuple ds) ∧ SeqAt.shaped d = true ∧ SeqAt.shaped (.tuple ds) = true ∧ Q (.bl (ds.any fun z => PyData.eqv z d)) H
def rNotInT (K : PySem.W.Frag) : R2 := fun x y H Q => ∃ d ds, Dp K H x d ∧ Dp K H y (.tuple ds) ∧ SeqAt.shaped d = true ∧ SeqAt.shaped (.tuple ds) = true ∧ Q (.bl (!ds.any fun z => PyData.eqv z d)) H
theorem op_inT (hu : X.A.units + 65 < cLine) : OpR X (compareOp .In) (rInT X.K) := by
  intro pins s σ H x y v u Q I rx ry h
  obtain ⟨d, ds, hd, he, sd, se, q⟩ := h
  obtain ⟨as, r1⟩ := Dp.reads I d x v hd rx
  obtain ⟨bs, r2⟩ := Dp.reads I (.tuple ds) y u he ry
  exact SeqAt.in_tuple_reads r2 r1 (SeqAt.canLay_of_shaped se) (SeqAt.canLay_of_shaped sd) (room_in_shaped sd hu) ⟨.bl _, H, I, rfl, q⟩
theorem op_notInT (hu : X.A.units + 65 < cLine) : OpR X (compareOp .NotIn) (rNotInT X.K) := by
  intro pins s σ H x y v u Q I rx ry h
  obtain ⟨d, ds, hd, he, sd, se, q⟩ := h
  obtain ⟨as, r1⟩ := Dp.reads I d x v hd rx
  obtain ⟨bs, r2⟩ := Dp.reads I (.tuple ds) y u he ry
  exact SeqAt.notIn_tuple_reads r2 r1 (SeqAt.canLay_of_shaped se) (SeqAt.canLay_of_shaped sd) (room_in_shaped sd hu) ⟨.bl _, H, I, rfl, q⟩
def rInA (K : PySem.W.Frag) : R2 := fun x y H Q => rInD K x y H Q ∨ rInT K x y H Q
def rNotInA (K : PySem.W.Frag) : R2 := fun x y H Q => rNotInD K x y H Q ∨ rNotInT K x y H Q
theorem op_inA (hu : X.A.units + 65 < cLine) : OpR X (compareOp .In) (rInA X.K) := (op_inD hu).or (op_inT hu)
theorem op_notInA (hu : X.A.units + 65 < cLine) : OpR X (compareOp .NotIn) (rNotInA X.K) := (op_notInD hu).or (op_notInT hu)
theorem units65 {k : Nat} {A : Around} (r : Room k A) : A.units + 65 < cLine := by have := r.un; omega
theorem any_str (x : Str) : ∀ ns : List Str, ((ns.map PyData.str).any fun z => PyData.eqv z (.str x)) = decide (x ∈ ns)
  | [] => by simp
  | n :: ns => by
    rw [List.map_cons, List.any_cons, any_str x ns, PyData.eqv]
    by_cases h : n = x
    · subst h
      simp
    · have h' : ¬ x = n := fun z => h z.symm
      simp [h, h']
end
end SM
set_option Elab.async false
set_option linter.all false
set_option maxRecDepth 100000
set_option maxHeartbeats 2000000
/-! Displays of tuples and flat things: data, all new. -/
namespace SM
open PySem PySem.Spec PyProof.Rows L2
variable {K : PySem.W.Frag} {σ : L2.St}
def LtE (K : PySem.W.Frag) (te : TE) (σ : L2.St) (d : PyData) : Prop := ∀ H Q, (∀ v H', Keep [] H H' → Dt K H' v d → Q v H') → te σ H Q
def LtA (K : PySem.W.Frag) (ta : TA) (σ : L2.St) (ds : List PyData) : Prop := ∀ H Q, (∀ xs H', Keep [] H H' → DtAll K H' xs ds → Q xs H') → ta σ H Q
theorem LtA.nil : LtA K tNil σ [] := fun H Q k => k [] H Keep.refl .nil
theorem LtA.cons {te : TE} {ta : TA} {d : PyData} {ds : List PyData} (h : LtE K te σ d) (t : LtA K ta σ ds) : LtA K (tCons te ta) σ (d :: ds) :=
  fun H Q k => h H _ fun v H1 k1 d1 => t H1 _ fun xs H2 k2 d2 => k _ _ (k1.trans k2) (.cons (d1.k0 k2) d2)
theorem LtE.str {x : Str} : LtE K (tC (.str x)) σ (.str x) := fun H Q k => k _ _ Keep.refl (.str x)
theorem LtE.bl {x : Bool} : LtE K (tC (.bl x)) σ (.bool x) := fun H Q k => k _ _ Keep.refl (.bl x)
theorem LtE.int {x : Int} : LtE K (tC (.int x)) σ (.int x) := fun H Q k => k _ _ Keep.refl (.int x)
theorem LtE.non : LtE K (tC .non) σ .none := fun H Q k => k _ _ Keep.refl .non
theorem LtE.var {i : Nat} {x : Str} (h : σ[i]? = some (some (.str x))) : LtE K (tVar i) σ (.str x) := fun H Q k => ⟨_, h, k _ _ Keep.refl (.str x)⟩
theorem LtE.tup {ta : TA} {ds : List PyData} (h : LtA K ta σ ds) (n : Nat.ble ds.length 100 = true := by rfl) : LtE K (tTup ta) σ (.tuple ds) :=
  fun H Q k => h H _ fun xs H1 k1 d1 => ⟨by rw [d1.length]; exact Nat.le_trans (Nat.le_of_ble_eq_true n) (by decide), fun p hp => k _ _ (k1.trans (Keep.new hp)) (.tup (SqT.of upd_same) (d1.k0 (Keep.new hp)))⟩
/-- a list display of such -/
theorem LtA.lst {ta : TA} {ds : List PyData} {H : Hp} {Q : VK} (h : LtA K ta σ ds) (n : Nat.ble ds.length 100 = true) (k : ∀ p xs H', H p = none → Keep [] H H' → H' p = some (.lst xs) → DtAll K H' xs ds → Q (.ref p) H') : tLst ta σ H Q :=
  h H _ fun xs H1 k1 d1 => ⟨by rw [d1.length]; exact Nat.le_trans (Nat.le_of_ble_eq_true n) (by decide), fun p hp => k p xs _ (k1.free (by simp) hp) (k1.trans (Keep.new hp)) upd_same (d1.k0 (Keep.new hp))⟩
end SM
set_option Elab.async false
set_option linter.all false
set_option maxRecDepth 100000
set_option maxHeartbeats 2000000
/-! comprehensions in comprehensions -/
namespace SM
open PySem PySem.Spec PyProof.Rows L2
/-- tuple(..) of a list or a tuple -/
def teTup (K : PySem.W.Frag) (te : TE) : TE := tCB (fun xs H Q => ∃ p ys, xs = [.ref p] ∧ ((SqL K H p ys ∧ ∀ l, H l = none → Q (.ref l) (upd H l (.tup ys))) ∨ (SqT K H p ys ∧ Q (.ref p) H))) (tCons te tNil)
theorem relabel_look {env : Env} : ∀ {names : List (Str × NameKind)} {x : Str}, (names.lookup x = some .cell ∨ names.lookup x = some .free) →
    ((names.map fun (n, k) => if (k == NameKind.free && env.scope.kind == .function && env.kindOf n == some .cell) then (n, NameKind.cell) else (n, k)).lookup x = some .cell ∨
    (names.map fun (n, k) => if (k == NameKind.free && env.scope.kind == .function && env.kindOf n == some .cell) then (n, NameKind.cell) else (n, k)).lookup x = some .free)
  | [], _, h => by simp at h
  | (n, k) :: r, x, h => by
    have ih := @relabel_look env r x
    show List.lookup x ((if (k == NameKind.free && env.scope.kind == .function && env.kindOf n == some .cell) = true then (n, NameKind.cell) else (n, k)) :: _) = _ ∨ List.lookup x ((if (k == NameKind.free && env.scope.kind == .function && env.kindOf n == some .cell) = true then (n, NameKind.cell) else (n, k)) :: _) = _
    cases hx : x == n with
    | true =>
      simp only [List.lookup_cons, hx] at h
      by_cases hc : (k == NameKind.free && env.scope.kind == .function && env.kindOf n == some .cell) = true
      · rw [if_pos hc]
        simp [List.lookup_cons, hx]
      · rw [if_neg hc]
        simpa [List.lookup_cons, hx] using h
    | false =>
      simp only [List.lookup_cons, hx] at h
      by_cases hc : (k == NameKind.free && env.scope.kind == .function && env.kindOf n == some .cell) = true
      · rw [if_pos hc]; simp only [List.lookup_cons, hx]; exact ih h
      · rw [if_neg hc]; simp only [List.lookup_cons, hx]; exact ih h
theorem blkOk_nest {N : List Str} {sc scope : Scope} {env : Env} {own : List (Str × Nat)} (h : blkC N sc scope own = true) : BlkOk N (relabel sc env) scope own := by
  obtain ⟨a, b, c, d, e⟩ := blkOk_by h
  exact ⟨a, b, c, fun y hy z => relabel_look (d y hy z), e⟩
variable {K : PySem.W.Frag}
/-- from H on, te gives d, and leaves what stands -/
def LtH (K : PySem.W.Frag) (te : TE) (σ : L2.St) (H : Hp) (d : PyData) : Prop := ∀ H1, Keep [] H H1 → ∀ Q, (∀ v H', Keep [] H1 H' → Dt K H' v d → Q v H') → te σ H1 Q
/-- a comprehension over a tuple, item by item -/
theorem lcT {i j : Nat} {σ : L2.St} {H : Hp} {t : Addr} {xs : List V} {ds : List PyData} {f : PyData → PyData} {te : TE} {Q : VK} (hv : σ[i]? = some (some (.ref t))) (hq : SqT K H t xs) (hd : DtAll K H xs ds) (hl : ds.length ≤ 100)
    (he : ∀ H2, Keep [] H H2 → ∀ v d, d ∈ ds → Dt K H2 v d → LtH K te ((σ.set j none).set j (some v)) H2 (f d))
    (k : ∀ D ys H', H D = none → Keep [] H H' → H' D = some (.lst ys) → DtAll K H' ys (ds.map f) → Q (.ref D) H') : tLc (iTup K (tVar i)) (gName j) tYes te [j] σ H Q := by
  have len := hd.length
  refine ⟨_, hv, t, rfl, ⟨xs, hq⟩, fun D hD => ?_⟩
  refine lc_tup (xs := xs) (Qd := fun H' => Q (.ref D) H') (fun i H' => ∃ acc, Keep [] H H' ∧ H' D = some (.lst acc) ∧ acc.length = i ∧ DtAll K H' acc ((ds.take i).map f)) ⟨[], Keep.new hD, upd_same, rfl, by simpa using DtAll.nil⟩ ?_ ?_ ?_
  · rintro n H' _ ⟨acc, k1, _⟩
    exact seqT_keep k1 Soft.nil hq
  · rintro n x H' hx ⟨acc, k1, e1, en, da⟩
    obtain ⟨d, hd', dx⟩ := hd.get hx
    have hn : n < ds.length := by
      rcases Nat.lt_or_ge n ds.length with h | h
      · exact h
      · rw [List.getElem?_eq_none h] at hd'
        cases hd'
    refine ⟨?_, ?_⟩
    · show ((σ.set j none).set j (some x)).set j none = σ.set j none
      rw [List.set_set, List.set_set]
    · show te _ H' _
      refine he H' k1 x d (List.mem_of_getElem? hd') (dx.k0 k1) H' Keep.refl _ fun y H2 k2 dy => ?_
      refine ⟨acc, k2.to e1, ?_, acc ++ [y], Keep.own (k1.trans k2) hD, upd_same, by rw [List.length_append, en]; rfl, ?_⟩
      · rw [en]
        exact Nat.lt_of_lt_of_le (show n < 101 by omega) (by decide)
      · rw [List.take_succ, hd', Option.toList_some, List.map_append]
        exact ((da.k0 k2).append (.cons dy .nil)).keep (Keep.at_ (m := [D]) (by simp)) (Soft.lst (k2.to e1))
  · rintro H' ⟨acc, k1, e1, en, da⟩
    rw [len, List.take_length] at da
    exact k D acc H' hD k1 e1 da
/-- tuple(a list of new data) -/
theorem LtH.tup {i j : Nat} {σ : L2.St} {H : Hp} {t : Addr} {xs : List V} {ds : List PyData} {f : PyData → PyData} {te : TE} (hv : σ[i]? = some (some (.ref t))) (hq : SqT K H t xs) (hd : DtAll K H xs ds) (hl : ds.length ≤ 100)
    (he : ∀ H2, Keep [] H H2 → ∀ v d, d ∈ ds → Dt K H2 v d → LtH K te ((σ.set j none).set j (some v)) H2 (f d)) : LtH K (teTup K (tLc (iTup K (tVar i)) (gName j) tYes te [j])) σ H (.tuple (ds.map f)) := by
  intro H1 k1 Q k
  refine lcT (Q := fun x H2 => ∃ p ys, [x] = [V.ref p] ∧ ((SqL K H2 p ys ∧ ∀ l, H2 l = none → Q (.ref l) (upd H2 l (.tup ys))) ∨ (SqT K H2 p ys ∧ Q (.ref p) H2))) hv (seqT_keep k1 Soft.nil hq) (hd.k0 k1) hl (fun H2 k2 => he H2 (k1.trans k2)) fun D ys H2 hD k2 e2 d2 => ?_
  refine ⟨D, ys, rfl, .inl ⟨SqL.of e2, fun l hl => ?_⟩⟩
  exact k _ _ (k2.trans (Keep.new hl)) (.tup (SqT.of upd_same) (d2.k0 (Keep.new hl)))
/-! ### another word for "was" -/
def ren (w s : Str) : Str := if s = "was" then w else s
def renD (w : Str) : PyData → PyData
  | .str s => .str (ren w s)
  | d => d
def renE (w : Str) : PyData → PyData
  | .tuple ds => .tuple (ds.map (renD w))
  | d => d
def renP (w : Str) : PyData → PyData
  | .tuple ds => .tuple (ds.map (renE w))
  | d => d
def renS (w : Str) (s : Str × Str) : Str × Str := (ren w s.1, ren w s.2)
def renT (w : Str) (s : Str × Str × Bool) : Str × Str × Bool := (ren w s.1, ren w s.2.1, s.2.2)
def renL (w : Str) (l : Ln) : Ln := ⟨l.tests.map (renT w), l.steps.map (renS w), l.keep.map (List.map (renS w))⟩
theorem renP_steps (w : Str) (l : List (Str × Str)) : renP w (stepsD l) = stepsD (l.map (renS w)) := by
  show PyData.tuple _ = PyData.tuple _
  rw [List.map_map, List.map_map]
  rfl
theorem renP_tests (w : Str) (l : List (Str × Str × Bool)) : renP w (testsD l) = testsD (l.map (renT w)) := by
  show PyData.tuple _ = PyData.tuple _
  rw [List.map_map, List.map_map]
  rfl
def partsD (l : Ln) : List PyData := testsD l.tests :: stepsD l.steps :: keepD l.keep
theorem renP_line (w : Str) (l : Ln) : (partsD l).map (renP w) = partsD (renL w l) := by
  obtain ⟨t, s, k⟩ := l
  cases k with
  | none => simp only [partsD, keepD, renL, List.map_cons, List.map_nil, renP_steps, renP_tests, Option.map_none]
  | some k => simp only [partsD, keepD, renL, List.map_cons, List.map_nil, renP_steps, renP_tests, Option.map_some]
theorem ren_ne {w s : Str} (h : s ≠ "was") : ren w s = s := if_neg h
theorem ren_mem {w s : Str} {ns : List Str} (h : s ∈ ns) : ren w s ∈ ns.map (ren w) := List.mem_map_of_mem h
theorem here_ne : ("here" : Str) ≠ "was" := by decide +kernel
theorem new_ne : ("new" : Str) ≠ "was" := by decide +kernel
theorem nothing_ne : ("nothing" : Str) ≠ "was" := by decide +kernel
theorem GoodS.ren {w : Str} {ns : List Str} {s : Str × Str} (h : GoodS ns s) : GoodS (ns.map (ren w)) (renS w s) := by
  refine ⟨?_, ?_⟩
  · rcases h.1 with e | e
    · exact .inl (show SM.ren w s.1 = _ by rw [e]; exact ren_ne here_ne)
    · exact .inr (ren_mem e)
  · rcases h.2 with e | e | e | e
    · exact .inl (show SM.ren w s.2 = _ by rw [e]; exact ren_ne new_ne)
    · exact .inr (.inl (show SM.ren w s.2 = _ by rw [e]; exact ren_ne here_ne))
    · exact .inr (.inr (.inl (show SM.ren w s.2 = _ by rw [e]; exact ren_ne nothing_ne)))
    · exact .inr (.inr (.inr (ren_mem e)))
theorem GoodT.ren {w : Str} {ns : List Str} {s : Str × Str × Bool} (h : GoodT ns s) : GoodT (ns.map (ren w)) (renT w s) := by
  refine ⟨?_, ?_⟩
  · rcases h.1 with e | e | e
    · exact .inl (show SM.ren w s.1 = _ by rw [e]; exact ren_ne here_ne)
    · exact .inr (.inl (show SM.ren w s.1 = _ by rw [e]; exact ren_ne new_ne))
    · exact .inr (.inr (ren_mem e))
  · rcases h.2 with e | e | e | e
    · exact .inl (show SM.ren w s.2.1 = _ by rw [e]; exact ren_ne new_ne)
    · exact .inr (.inl (show SM.ren w s.2.1 = _ by rw [e]; exact ren_ne here_ne))
    · exact .inr (.inr (.inl (show SM.ren w s.2.1 = _ by rw [e]; exact ren_ne nothing_ne)))
    · exact .inr (.inr (.inr (ren_mem e)))
theorem GoodL.ren {w : Str} {ns : List Str} {l : Ln} (h : GoodL ns l) : GoodL (ns.map (ren w)) (renL w l) := by
  refine ⟨⟨by rw [renL, List.length_map]; exact h.tests.1, fun t z => ?_⟩, ⟨by rw [renL, List.length_map]; exact h.steps.1, fun t z => ?_⟩, fun k z => ?_⟩
  · obtain ⟨s, hs, rfl⟩ := List.mem_map.mp z
    exact (h.tests.2 s hs).ren
  · obtain ⟨s, hs, rfl⟩ := List.mem_map.mp z
    exact (h.steps.2 s hs).ren
  · cases hk : l.keep with
    | none =>
      rw [renL, hk] at z
      cases z
    | some k0 =>
      have e : k0.map (renS w) = k := by
        rw [renL, hk] at z
        exact Option.some.inj z
      subst e
      refine ⟨by rw [List.length_map]; exact (h.keep k0 hk).1, fun t z => ?_⟩
      obtain ⟨s, hs, rfl⟩ := List.mem_map.mp z
      exact ((h.keep k0 hk).2 s hs).ren
end SM
set_option Elab.async false
set_option linter.all false
set_option maxRecDepth 100000
set_option maxHeartbeats 2000000
/-! Kinds of data, and isinstance of any value. -/
namespace SM
open PySem PySem.Spec PyProof.Rows L2
variable {K : PySem.W.Frag} {H : Hp}
def tyN : PyData → String
  | .none => "NoneType"
  | .bool _ => "bool"
  | .int _ => "int"
  | .str _ => "str"
  | .list _ => "list"
  | .tuple _ => "tuple"
  | .dict _ => "dict"
theorem sqL_ty {a : Addr} {xs : List V} (h : SqL K H a xs) : TyX K H (.ref a) (.type "list") := by
  rcases h with (h | ⟨o, h⟩) | ⟨o, its, n, h, c, _⟩
  · exact .base (.lst h)
  · exact .base (.frz h)
  · exact .kList h c
theorem sqT_ty {a : Addr} {xs : List V} (h : SqT K H a xs) : TyX K H (.ref a) (.type "tuple") := by
  rcases h with (h | ⟨o, h⟩) | ⟨o, its, n, h, c, _⟩
  · exact .base (.tup h)
  · exact .fTuple h
  · exact .kTuple h c
theorem Dq.ty {v : V} {d : PyData} (h : Dq K H v d) : TyX K H v (.type (tyN d)) := by
  cases h with
  | non => exact .base .non
  | bl b => exact .base (.bl b)
  | int i => exact .base (.int i)
  | str x => exact .base (.str x)
  | lst s t => exact sqL_ty s
  | tup s t => exact sqT_ty s
  | dic s t => exact .base (.dK s)
def isTup : PyData → Bool
  | .tuple _ => true
  | _ => false
def isLst : PyData → Bool
  | .list _ => true
  | _ => false
def isSeq : PyData → Bool
  | .tuple _ => true
  | .list _ => true
  | _ => false
def isStr : PyData → Bool
  | .str _ => true
  | _ => false
def isBool : PyData → Bool
  | .bool _ => true
  | _ => false
theorem kit_tup (d : PyData) : PySem.W.kitOne K (.type (tyN d)) (.type "tuple") = some (isTup d) := by cases d <;> rfl
theorem kit_lst (d : PyData) : PySem.W.kitOne K (.type (tyN d)) (.type "list") = some (isLst d) := by cases d <;> rfl
theorem kit_str (d : PyData) : PySem.W.kitOne K (.type (tyN d)) (.type "str") = some (isStr d) := by cases d <;> rfl
theorem kit_bool (d : PyData) : PySem.W.kitOne K (.type (tyN d)) (.type "bool") = some (isBool d) := by cases d <;> rfl
theorem kit_seq (d : PyData) : PySem.W.kitAny K (.type (tyN d)) [.type "list", .type "tuple"] = some (isSeq d) := by cases d <;> rfl
theorem isi_tup {v : V} {d : PyData} {Q : VK} (h : Dq K H v d) (q : Q (.bl (isTup d)) H) : rIsi K [v, .ty "tuple"] H Q := ⟨_, _, _, _, _, rfl, .ty _, h.ty, kit_tup d, q⟩
theorem isi_lst {v : V} {d : PyData} {Q : VK} (h : Dq K H v d) (q : Q (.bl (isLst d)) H) : rIsi K [v, .ty "list"] H Q := ⟨_, _, _, _, _, rfl, .ty _, h.ty, kit_lst d, q⟩
theorem isi_str {v : V} {d : PyData} {Q : VK} (h : Dq K H v d) (q : Q (.bl (isStr d)) H) : rIsi K [v, .ty "str"] H Q := ⟨_, _, _, _, _, rfl, .ty _, h.ty, kit_str d, q⟩
theorem isi_bool {v : V} {d : PyData} {Q : VK} (h : Dq K H v d) (q : Q (.bl (isBool d)) H) : rIsi K [v, .ty "bool"] H Q := ⟨_, _, _, _, _, rfl, .ty _, h.ty, kit_bool d, q⟩
mutual
/-- data without dicts -/
theorem Dq.toDp : ∀ {v : V} {d : PyData}, Dq K H v d → d.canLay0 = true → Dp K H v d
  | _, _, .non, _ => .non
  | _, _, .bl b, _ => .bl b
  | _, _, .int i, _ => .int i
  | _, _, .str x, _ => .str x
  | _, _, .lst s t, h => .lst s (DqAll.toDp t (by simpa [PyData.canLay0] using h))
  | _, _, .tup s t, h => .tup s (DqAll.toDp t (by simpa [PyData.canLay0] using h))
  | _, _, .dic s t, h => by simp [PyData.canLay0] at h
theorem DqAll.toDp : ∀ {vs : List V} {ds : List PyData}, DqAll K H vs ds → PyData.canLayAll0 ds = true → DpAll K H vs ds
  | _, _, .nil, _ => .nil
  | _, _, .cons s t, h => by
    rw [PyData.canLayAll0, Bool.and_eq_true] at h
    exact .cons (s.toDp h.1) (DqAll.toDp t h.2)
end
/-- among some words -/
def memS (ns : List Str) (d : PyData) : Bool := (ns.map PyData.str).any fun z => PyData.eqv z d
theorem Lay.items {n : Nat} {ds : List PyData} (h : Lay (n + 1) (.tuple ds)) : ∀ d ∈ ds, Lay n d := by
  obtain ⟨a, b⟩ := h
  rw [PyData.canLay0] at a
  rw [PyData.depth] at b
  have b' : PyData.depthAll ds ≤ n := by omega
  clear b
  induction ds with
  | nil => exact fun d z => by cases z
  | cons e ds ih =>
    rw [PyData.canLayAll0, Bool.and_eq_true] at a
    rw [PyData.depthAll] at b'
    intro d z
    rcases List.mem_cons.mp z with rfl | z
    · exact ⟨a.1, Nat.le_trans (Nat.le_max_left _ _) b'⟩
    · exact ih a.2 (Nat.le_trans (Nat.le_max_right _ _) b') d z
theorem Lay.itemsL {n : Nat} {ds : List PyData} (h : Lay (n + 1) (.list ds)) : ∀ d ∈ ds, Lay n d := by
  obtain ⟨a, b⟩ := h
  rw [PyData.canLay0] at a
  rw [PyData.depth] at b
  exact Lay.items (ds := ds) ⟨by rw [PyData.canLay0]; exact a, by rw [PyData.depth]; exact b⟩
/-- from H on, te gives the bool b, and leaves what stands -/
def LtB (te : TE) (σ : L2.St) (H : Hp) (b : Bool) : Prop := ∀ H1, Keep [] H H1 → ∀ Q : VK, (∀ H', Keep [] H1 H' → Q (.bl b) H') → te σ H1 Q
/-- bools, item by item of a tuple -/
theorem lcB {j : Nat} {σ : L2.St} {H : Hp} {t : Addr} {xs : List V} {ds : List PyData} {f : PyData → Bool} {te : TE} {D : Addr} {Qd : Hp → Prop} (hq : SqT K H t xs) (hd : DqAll K H xs ds) (hl : ds.length ≤ 1000)
    (he : ∀ H2, Keep [] H H2 → ∀ v d, d ∈ ds → Dq K H2 v d → LtB te ((σ.set j none).set j (some v)) H2 (f d)) (hD : H D = none)
    (k : ∀ H', Keep [] H H' → H' D = some (.lst ((ds.map f).map V.bl)) → Qd H') :
    ∃ W : Nat → Nat → Hp → Prop, (∃ m, W 0 m (upd H D (.lst []))) ∧ ∀ i m H, W i m H →
      ((Itt K t).stop i H ∧ Qd H) ∨ ((Itt K t).go i H ∧ ∃ Nx : Hp → Prop, (∀ H', Nx H' → ∃ m', m' < m ∧ W (i + 1) m' H') ∧ ∀ x H', (Itt K t).yld i H x H' → gName j x (wipe σ [j]) H' fun σ2 H2 => wipe σ2 [j] = wipe σ [j] ∧ tYes σ2 H2 fun b H3 =>
        if b = true then te σ2 H3 fun y H4 => ∃ acc, H4 D = some (.lst acc) ∧ acc.length < sizeLine ∧ Nx (upd H4 D (.lst (acc ++ [y]))) else Nx H3) := by
  have len := hd.length
  refine lc_tup (xs := xs) (Qd := Qd) (fun i H' => Keep [] H H' ∧ H' D = some (.lst (((ds.take i).map f).map V.bl))) ⟨Keep.new hD, upd_same⟩ ?_ ?_ ?_
  · rintro n H' _ ⟨k1, _⟩
    exact seqT_keep k1 Soft.nil hq
  · rintro n x H' hx ⟨k1, e1⟩
    obtain ⟨d, hd', dx⟩ := hd.get hx
    have hn : n < ds.length := by
      rcases Nat.lt_or_ge n ds.length with h | h
      · exact h
      · rw [List.getElem?_eq_none h] at hd'
        cases hd'
    refine ⟨?_, ?_⟩
    · show ((σ.set j none).set j (some x)).set j none = σ.set j none
      rw [List.set_set, List.set_set]
    · show te _ H' _
      refine he H' k1 x d (List.mem_of_getElem? hd') (dx.mono k1.same) H' Keep.refl _ fun H2 k2 => ?_
      refine ⟨_, k2.to e1, ?_, Keep.own (k1.trans k2) hD, ?_⟩
      · rw [List.length_map, List.length_map, List.length_take]
        exact Nat.lt_of_lt_of_le (show min n ds.length < 1001 by omega) (by decide)
      · rw [List.take_succ, hd', Option.toList_some, List.map_append, List.map_append]
        exact upd_same
  · rintro H' ⟨k1, e1⟩
    rw [len, List.take_length] at e1
    exact k H' k1 e1
/-- bools, item by item of a list -/
theorem lcBL {j : Nat} {σ : L2.St} {H : Hp} {t : Addr} {xs : List V} {ds : List PyData} {f : PyData → Bool} {te : TE} {D : Addr} {Qd : Hp → Prop} (hq : SqL K H t xs) (hd : DqAll K H xs ds) (hl : ds.length ≤ 1000)
    (he : ∀ H2, Keep [] H H2 → ∀ v d, d ∈ ds → Dq K H2 v d → LtB te ((σ.set j none).set j (some v)) H2 (f d)) (hD : H D = none)
    (k : ∀ H', Keep [] H H' → H' D = some (.lst ((ds.map f).map V.bl)) → Qd H') :
    ∃ W : Nat → Nat → Hp → Prop, (∃ m, W 0 m (upd H D (.lst []))) ∧ ∀ i m H, W i m H →
      ((Itl K t).stop i H ∧ Qd H) ∨ ((Itl K t).go i H ∧ ∃ Nx : Hp → Prop, (∀ H', Nx H' → ∃ m', m' < m ∧ W (i + 1) m' H') ∧ ∀ x H', (Itl K t).yld i H x H' → gName j x (wipe σ [j]) H' fun σ2 H2 => wipe σ2 [j] = wipe σ [j] ∧ tYes σ2 H2 fun b H3 =>
        if b = true then te σ2 H3 fun y H4 => ∃ acc, H4 D = some (.lst acc) ∧ acc.length < sizeLine ∧ Nx (upd H4 D (.lst (acc ++ [y]))) else Nx H3) := by
  have len := hd.length
  refine lc_list (xs := xs) (Qd := Qd) (fun i H' => Keep [] H H' ∧ H' D = some (.lst (((ds.take i).map f).map V.bl))) ⟨Keep.new hD, upd_same⟩ ?_ ?_ ?_
  · rintro n H' _ ⟨k1, _⟩
    exact k1.same.seq hq
  · rintro n x H' hx ⟨k1, e1⟩
    obtain ⟨d, hd', dx⟩ := hd.get hx
    have hn : n < ds.length := by
      rcases Nat.lt_or_ge n ds.length with h | h
      · exact h
      · rw [List.getElem?_eq_none h] at hd'
        cases hd'
    refine ⟨?_, ?_⟩
    · show ((σ.set j none).set j (some x)).set j none = σ.set j none
      rw [List.set_set, List.set_set]
    · show te _ H' _
      refine he H' k1 x d (List.mem_of_getElem? hd') (dx.mono k1.same) H' Keep.refl _ fun H2 k2 => ?_
      refine ⟨_, k2.to e1, ?_, Keep.own (k1.trans k2) hD, ?_⟩
      · rw [List.length_map, List.length_map, List.length_take]
        exact Nat.lt_of_lt_of_le (show min n ds.length < 1001 by omega) (by decide)
      · rw [List.take_succ, hd', Option.toList_some, List.map_append, List.map_append]
        exact upd_same
  · rintro H' ⟨k1, e1⟩
    rw [len, List.take_length] at e1
    exact k H' k1 e1
theorem all_id (bs : List PyData) (f : PyData → Bool) : (bs.map f).all (fun b => b) = bs.all f := by
  induction bs with
  | nil => rfl
  | cons b bs ih => rw [List.map_cons, List.all_cons, List.all_cons, ih]
/-- bools, sign by sign of a text -/
theorem lcBstr {j : Nat} {σ : L2.St} {H : Hp} {z : Str} {f : Nat → Bool} {te : TE} {D : Addr} {Qd : Hp → Prop} (hl : z.cps.size ≤ 1000)
    (he : ∀ H2, Keep [] H H2 → ∀ c, LtB te ((σ.set j none).set j (some (.str ⟨#[c]⟩))) H2 (f c)) (hD : H D = none)
    (k : ∀ H', Keep [] H H' → H' D = some (.lst ((z.cps.toList.map f).map V.bl)) → Qd H') :
    ∃ W : Nat → Nat → Hp → Prop, (∃ m, W 0 m (upd H D (.lst []))) ∧ ∀ i m H, W i m H →
      ((Its z).stop i H ∧ Qd H) ∨ ((Its z).go i H ∧ ∃ Nx : Hp → Prop, (∀ H', Nx H' → ∃ m', m' < m ∧ W (i + 1) m' H') ∧ ∀ x H', (Its z).yld i H x H' → gName j x (wipe σ [j]) H' fun σ2 H2 => wipe σ2 [j] = wipe σ [j] ∧ tYes σ2 H2 fun b H3 =>
        if b = true then te σ2 H3 fun y H4 => ∃ acc, H4 D = some (.lst acc) ∧ acc.length < sizeLine ∧ Nx (upd H4 D (.lst (acc ++ [y]))) else Nx H3) := by
  have wk : Walk (Its z) z.cps.size (fun _ => True) (fun i H x H' => H' = H ∧ ∃ c, z.cps[i]? = some c ∧ x = .str ⟨#[c]⟩) :=
    ⟨fun _ _ hi _ => hi, fun _ _ => Nat.le_refl _, fun _ _ _ _ _ _ y => y⟩
  refine lc_it wk (Qd := Qd) (fun i H' => Keep [] H H' ∧ H' D = some (.lst (((z.cps.toList.take i).map f).map V.bl))) ⟨Keep.new hD, upd_same⟩ (fun _ _ _ _ => trivial) ?_ ?_
  · rintro i x H1 H' hi ⟨k1, e1⟩ ⟨rfl, c, hc, rfl⟩
    refine ⟨?_, ?_⟩
    · show ((σ.set j none).set j _).set j none = σ.set j none
      rw [List.set_set, List.set_set]
    · show te _ H' _
      refine he H' k1 c H' Keep.refl _ fun H2 k2 => ?_
      have hc' : z.cps.toList[i]? = some c := by rw [Array.getElem?_toList]; exact hc
      refine ⟨_, k2.to e1, ?_, Keep.own (k1.trans k2) hD, ?_⟩
      · rw [List.length_map, List.length_map, List.length_take]
        exact Nat.lt_of_lt_of_le (show min i z.cps.toList.length < 1001 by omega) (by decide)
      · rw [List.take_succ, hc', Option.toList_some, List.map_append, List.map_append]
        exact upd_same
  · rintro H' ⟨k1, e1⟩
    rw [← Array.length_toList, List.take_length] at e1
    exact k H' k1 e1
/-- over a list or a tuple -/
def iSeq (K : PySem.W.Frag) (tl : TE) : TI := fun σ H R => tl σ H fun x H1 => ∃ a, x = .ref a ∧ (((∃ xs, SqL K H1 a xs) ∧ R (Itl K a) H1) ∨ ((∃ xs, SqT K H1 a xs) ∧ R (Itt K a) H1))
theorem pi_seq {X : Cx} {tg l : Expr} {tl : TE} (hl : PE X l tl) : PI X tg l (iSeq X.K tl) := by
  refine ⟨fun pins s σ H R I h => ?_⟩
  refine thn (hl.run pins s σ H _ I h) fun v s1 ⟨x, H1, I1, r1, a, e, q⟩ => ?_
  subst e
  cases r1
  have fpo : ∀ b, b ∈ [s1.heap.objs.size] → FpOk X pins H1 b := fun b hb => by
    have e : b = s1.heap.objs.size := by simpa using hb
    rw [e]
    exact I1.fpOk (Nat.le_refl _) (I1.hok.fresh (Nat.le_refl _))
  rcases q with ⟨⟨xs, hq⟩, q⟩ | ⟨⟨xs, hq⟩, q⟩
  · obtain ⟨its, rv, p, hz⟩ := I1.list hq
    exact wpAny_pyIter_list p.isList ⟨s1.heap.objs.size, [s1.heap.objs.size], _, _, H1, rfl, I1.kept (t' := s1.toks) fun b o e => Heap.get?_push_of_some _ e, turn_list a _, ⟨_, Heap.get?_push_size _ rfl, rfl, rfl⟩, fpo, q⟩
  · obtain ⟨its, rv, p, hz⟩ := I1.tuple hq
    exact wpAny_pyIter_tuple (show s1.heap.IsTuple a its.toArray from p) ⟨s1.heap.objs.size, [s1.heap.objs.size], _, _, H1, rfl, I1.kept (t' := s1.toks) fun b o e => Heap.get?_push_of_some _ e, turn_tuple a _, ⟨_, Heap.get?_push_size _ rfl, rfl, rfl⟩, fpo, q⟩
end SM
set_option Elab.async false
set_option linter.all false
set_option maxRecDepth 100000
set_option maxHeartbeats 4000000
/-! enumerate of a tuple -/
namespace PySem
open Sem (wp)
open AutoSeq1 (wpAny_loadPart')
theorem meets_enumerate_newT (l : Addr) (items : Array Value) (n : Nat) (dct : Option Addr) (sl : Array (Option Value)) :
    Meets (Builtin.«enumerate.__new__» ⟨[.type "enumerate", .ref l], []⟩) (fun _ R s => s.heap.get? l = some { cls := .type "tuple", dict := dct, data := .seq items n, slots := sl } ∧
      R (.ok (.ret (.ref (s.heap.push { cls := .type "tuple_iterator", data := .fields #[.ref l, .int 0 0] }).objs.size)))
        { s with heap := (s.heap.push { cls := .type "tuple_iterator", data := .fields #[.ref l, .int 0 0] }).push { cls := .type "enumerate", data := .fields #[.none, .bool false, .ref s.heap.objs.size, rawInt 0, .none, .none] } }) :=
  .of_wp fun prog w A R s h => by
    obtain ⟨hp, g, d, tk, os⟩ := s; obtain ⟨hl, h⟩ := h
    have hsub := sub_enumerate
    have hL : Heap.IsTuple (Shared.heap ⟨hp, g, d, tk, os⟩) l items := ⟨_, hl, rfl, n, rfl⟩
    wp_walk using wpAny_loadPart' hl
    refine wpAny_stack_any fun st => wpAny_pure ?_
    split
    · rename_i c _ _ _ _ _
      cases (c == Value.type "enumerate")
      · wp_walk using wpAny_loadPart' hl, wpAny_pyIter_tuple hL
        exact ⟨_, rfl, h⟩
      · wp_walk using wpAny_loadPart' hl, wpAny_pyIter_tuple hL
        exact ⟨_, rfl, h⟩
    · wp_walk using wpAny_loadPart' hl, wpAny_pyIter_tuple hL
      exact ⟨_, rfl, h⟩
section
variable {prog : Program} {w : World} {A : Around} {E : Value → Shared → Prop} {s : Shared}
theorem call_enumerate_tuple {l : Addr} {items : Array Value} {Q : Value → Shared → Prop} (hL : s.heap.IsTuple l items)
    (h : ∀ h', IsEnum h' (s.heap.objs.size + 1) s.heap.objs.size 0 .none → h'.IsTupleIter s.heap.objs.size l 0 → h'.objs.size = s.heap.objs.size + 2 →
      (∀ b o, s.heap.get? b = some o → h'.get? b = some o) → Q (.ref (s.heap.objs.size + 1)) { s with heap := h' }) :
    wpAny (model prog w) A (call (.type "enumerate") [.ref l]) Q E s := by
  obtain ⟨⟨c, dct, dt, sl⟩, hl, hc, n, hd⟩ := hL
  replace hc : c = .type "tuple" := hc
  replace hd : dt = .seq items n := hd
  subst hc hd
  refine callType_new F.called_enumerate (by decide) (F.typeCall_enumerate_1 _) (F.newCall_enumerate_1 _) (fun obj => F.args_object_init_2 obj _) F.entry_enumerate_new
    (meets_enumerate_newT l items n dct sl) ⟨hl, ?_⟩
  have hz : (s.heap.push { cls := .type "tuple_iterator", data := .fields #[.ref l, .int 0 0] }).objs.size = s.heap.objs.size + 1 := Heap.size_push ..
  show _ ∧ _
  rw [hz]
  have he : IsEnum ((s.heap.push { cls := .type "tuple_iterator", data := .fields #[.ref l, .int 0 0] }).push
      { cls := .type "enumerate", data := .fields #[.none, .bool false, .ref s.heap.objs.size, rawInt 0, .none, .none] }) (s.heap.objs.size + 1) s.heap.objs.size 0 .none := by
    have := Heap.get?_push_size (s.heap.push { cls := .type "tuple_iterator", data := .fields #[.ref l, .int 0 0] })
      (o := { cls := .type "enumerate", data := .fields #[.none, .bool false, .ref s.heap.objs.size, rawInt 0, .none, .none] }) rfl
    rw [hz] at this; exact this
  refine ⟨⟨_, he, rfl⟩, h _ he ⟨_, Heap.get?_push_of_some _ (Heap.get?_push_size _ rfl), rfl, rfl⟩ (by rw [Heap.size_push, hz]) fun b o x => Heap.get?_push_of_some _ (Heap.get?_push_of_some _ x)⟩
end
end PySem
set_option Elab.async false
set_option linter.all false
set_option maxRecDepth 100000
set_option maxHeartbeats 4000000
/-! for i, x in enumerate(tuple) -/
namespace SM
open PySem PySem.Spec PyProof.Rows L2
/-- the tuple at a, each item in a new pair -/
def ItT (K : PySem.W.Frag) (a : Addr) : It :=
  ⟨fun i H => ∃ (xs : List V) (x : V), SqT K H a xs ∧ xs[i]? = some x, fun i H v H' => ∃ T x, v = .ref T ∧ H T = none ∧ H' = upd H T (.tup [.int (i : Nat), x]) ∧ ∀ xs, SqT K H a xs → xs[i]? = some x, fun i H => ∃ xs : List V, SqT K H a xs ∧ xs.length = i⟩
theorem enum_ne_tup {h : Heap} {e it a : Addr} {i : Int} {old : Value} {items : Array Value} (he : IsEnum h e it i old) (ht : h.IsTuple a items) : e ≠ a := by
  intro z
  obtain ⟨o, ho, hc, _⟩ := ht
  rw [← z, he] at ho
  cases ho
  exact absurd (Value.type.inj hc) (by decide)
theorem it_ne_tup {h : Heap} {it a t : Addr} {i : Nat} {items : Array Value} (he : h.IsTupleIter it t i) (ht : h.IsTuple a items) : a ≠ it := by
  intro z
  obtain ⟨o, ho, hc, _⟩ := ht
  obtain ⟨o', ho', hc', _⟩ := he
  rw [z, ho'] at ho
  cases ho
  rw [hc'] at hc
  exact absurd (Value.type.inj hc) (by decide)
theorem turn_enumT {P : Program} {w : World} {K : PySem.W.Frag} {elts : List Expr} {kk : Nat} {tpos : Pos} (a e it : Addr) :
    Turn P w K (.Tuple elts kk tpos) (ItT K a) [e, it] e (fun i h => (∃ old, IsEnum h e it ((i : Nat) : Int) old) ∧ h.IsTupleIter it a i ∧ e ≠ it) where
  mem := by simp
  obj := fun i h st b hb => by
    obtain ⟨⟨old, he⟩, ⟨o, ho, hc, hd⟩, _⟩ := st
    have e' : b = e ∨ b = it := by simpa using hb
    rcases e' with z | z
    · rw [z]; exact ⟨_, he, fun v q => nomatch q⟩
    · rw [z]; exact ⟨o, ho, fun v q => by rw [hd] at q; cases q⟩
  keep := fun i h h' st k => let ⟨⟨old, he⟩, hi, hne⟩ := st; ⟨⟨old, k e (by simp) _ he⟩, hi.at fun o q => k it (by simp) o q, hne⟩
  item := by
    intro X hP hw hK hc i pins s σ H E I hf st hg
    subst hP hw hK
    obtain ⟨⟨old, he⟩, hit, hne⟩ := st
    obtain ⟨xs, x, hq, hx⟩ := hg
    obtain ⟨its, rv, p, hz⟩ := I.tuple hq
    obtain ⟨u, hu, ru⟩ := rv.get hx
    have hel : e < s.heap.objs.size := Heap.lt_size he
    have hil : it < s.heap.objs.size := by obtain ⟨_, q, _⟩ := hit; exact Heap.lt_size q
    have pt : s.heap.IsTuple a its.toArray := p
    have hi : i < its.toArray.size := by
      rw [List.size_toArray]
      exact (List.getElem?_eq_some_iff.mp hu).1
    have D := Draws.tuple (prog := X.prog) (w := X.w) (A := X.A.in1) (show X.A.in1.handled = none from I.ok.hd hc) it a (it_ne_tup hit pt) its.toArray
    refine wpAny_pyNext_enum_itemD D he ⟨hit, pt⟩ hi hne (by simp [hne, enum_ne_tup he pt]) fun y h' tk hy ho ⟨hit', pt'⟩ hT hsz hk => ?_
    have ey : y = u := by
      have : its.toArray[i]? = some u := by simpa using hu
      rw [this] at hy
      exact (Option.some.inj hy).symm
    subst ey
    refine ⟨_, rfl, wpAny_letOwnedTupleGo_enum (s := { s with heap := h', toks := tk + 1 }) ho fun h'' he' sb => ?_⟩
    have hT2 : h''.get? s.heap.objs.size = some { cls := .type "tuple", data := .seq #[.int i tk, y] } := (sb.2 _ (Nat.ne_of_gt hel)).trans hT
    have new : ObjOk X.prog X.w (upd H s.heap.objs.size (.tup [.int (i : Nat), x])) h'' s.heap.objs.size (.tup [.int (i : Nat), x]) :=
      ⟨by show 2 ≤ sizeLine; decide, [.int i tk, y], .cons ⟨_, rfl⟩ (.cons ru .nil), ⟨_, hT2, rfl, _, rfl⟩⟩
    have I1 : Inv X pins σ (upd H s.heap.objs.size (.tup [.int (i : Nat), x])) { s with heap := h'', toks := tk + 1 } :=
      I.turnedNew (ch := [e, it]) (fun b ob hb q => (sb.2 b (fun z => hb (by simp [z]))).trans (hk b ob (fun z => hb (by simp [z])) (fun z => hb (by simp [z])) q)) hf (Nat.le_refl _) new
    refine ⟨.ref s.heap.objs.size, _, I1, rfl, ⟨_, x, rfl, I.hok.fresh (Nat.le_refl _), rfl, fun ys hy => by rw [I.tuple_inj hy hq]; exact hx⟩, ⟨⟨y, ?_⟩, hit'.at fun o q => (sb.2 it (Ne.symm hne)).trans q, hne⟩, fun b hb => ?_⟩
    · have e1 : ((i + 1 : Nat) : Int) = (i : Int) + 1 := by omega
      rw [e1]; exact he'
    · have hb' : b < s.heap.objs.size := by
        have e' : b = e ∨ b = it := by simpa using hb
        rcases e' with z | z
        · rw [z]; exact hel
        · rw [z]; exact hil
      rw [upd_ne (Nat.ne_of_lt hb')]
      exact (hf b hb).1
  done := by
    intro X hP hw hK hc i pins s σ H E I hf st hg
    subst hP hw hK
    obtain ⟨⟨old, he⟩, hit, hne⟩ := st
    obtain ⟨xs, hq, hx⟩ := hg
    obtain ⟨its, rv, p, hz⟩ := I.tuple hq
    obtain ⟨f0, f1, f2, f3, f4, f5⟩ := hf it (by simp)
    have hl := rv.length
    have pt : s.heap.IsTuple a its.toArray := p
    have D := Draws.tuple (prog := X.prog) (w := X.w) (A := X.A.in1) (show X.A.in1.handled = none from I.ok.hd hc) it a (it_ne_tup hit pt) its.toArray
    have hn : i = its.toArray.size := by rw [List.size_toArray]; omega
    exact wpAny_pyNext_enum_endD D he (by rw [← hn]; exact ⟨hit, pt⟩) fun h' eb => ⟨rfl, I.turned (t' := s.toks) (fun b o hb q => eb b o hb q) f0 f1 f3 f4 f5⟩
  self := fun A i s Q E st h => let ⟨⟨_, he⟩, _⟩ := st; wpAny_pyIter_enum he h
/-- enumerate of a list or a tuple -/
def iEnumA (K : PySem.W.Frag) (ta : TA) : TI := fun σ H R => ta σ H fun vs H1 => ∃ a xs, vs = [.ref a] ∧ ((SqL K H1 a xs ∧ R (Ite K a) H1) ∨ (SqT K H1 a xs ∧ R (ItT K a) H1))
theorem pi_enumA {X : Cx} {e : Expr} {ta : TA} {p pos tpos : Pos} {elts : List Expr} {kk : Nat} (hg : Gl X "enumerate") (hm : X.mg "enumerate" = none) (ha : PA X [e] ta) (hs : starEach [e] X.env = [(false, eval e X.env)] := by rfl) :
    PI X (.Tuple elts kk tpos) (.Call (.Name "enumerate" p) [e] [] pos) (iEnumA X.K ta) := by
  refine ⟨fun pins s σ H R I h => ?_⟩
  refine Call_ (ld_blt I hg hm boot_enumerate (PyProof.Rows.callWith_type1 (thn (ha.run pos pins s σ H _ I h) fun us s1 ⟨vs, H1, I1, r1, q1⟩ => ?_) hs rfl))
  obtain ⟨a, xs, ex, q1⟩ := q1
  subst ex
  cases r1 with
  | cons r rr =>
    cases rr
    cases r
    have fpo : ∀ b, b = s1.heap.objs.size + 1 ∨ b = s1.heap.objs.size → s1.heap.objs.size ≤ b := by
      intro b e'
      rcases e' with z | z
      · rw [z]; exact Nat.le_add_right _ _
      · rw [z]; exact Nat.le_refl _
    rcases q1 with ⟨hq, q⟩ | ⟨hq, q⟩
    · obtain ⟨its, rv, p', hz⟩ := I1.list hq
      refine call_enumerate_list p'.isList fun h' he hit hsz hk => wpAny_pyIter_enum he ?_
      have I2 : Inv X pins σ H1 { s1 with heap := h' } := I1.kept (t' := s1.toks) hk
      refine ⟨s1.heap.objs.size + 1, [s1.heap.objs.size + 1, s1.heap.objs.size], _, _, H1, rfl, I2, turn_enum a (s1.heap.objs.size + 1) s1.heap.objs.size, ⟨⟨.none, he⟩, hit, Nat.succ_ne_self _⟩, fun b hb => ?_, q⟩
      have hle := fpo b (by simpa using hb)
      exact I1.fpOk hle (I1.hok.fresh hle)
    · obtain ⟨its, rv, p', hz⟩ := I1.tuple hq
      refine call_enumerate_tuple (show s1.heap.IsTuple a its.toArray from p') fun h' he hit hsz hk => wpAny_pyIter_enum he ?_
      have I2 : Inv X pins σ H1 { s1 with heap := h' } := I1.kept (t' := s1.toks) hk
      refine ⟨s1.heap.objs.size + 1, [s1.heap.objs.size + 1, s1.heap.objs.size], _, _, H1, rfl, I2, turn_enumT a (s1.heap.objs.size + 1) s1.heap.objs.size, ⟨⟨.none, he⟩, hit, Nat.succ_ne_self _⟩, fun b hb => ?_, q⟩
      have hle := fpo b (by simpa using hb)
      exact I1.fpOk hle (I1.hok.fresh hle)
/-- for i, x in enumerate(a tuple) -/
theorem for_enumT {K : PySem.W.Frag} {a : Addr} {xs : List V} {g : TG} {tb : TS} {D : Ends} {σ : L2.St} {H : Hp} (Pv : Nat → L2.St → Hp → Prop) (h0 : Pv 0 σ H) (hl : ∀ i σ H, i ≤ xs.length → Pv i σ H → SqT K H a xs)
    (hs : ∀ (i : Nat) (x : V) (T : Addr) (σ : L2.St) (H : Hp), xs[i]? = some x → Pv i σ H → H T = none → g (.ref T) σ (upd H T (.tup [.int (i : Int), x])) fun σ2 H2 => tb { D with nx := Pv (i + 1), ct := Pv (i + 1), bk := D.nx } σ2 H2)
    (hd : ∀ σ H, Pv xs.length σ H → D.nx σ H) :
    ∃ W : Nat → Nat → L2.St → Hp → Prop, (∃ m, W 0 m σ H) ∧ ∀ i m σ H, W i m σ H →
      ((ItT K a).stop i H ∧ D.nx σ H) ∨ ((ItT K a).go i H ∧ ∃ N : L2.St → Hp → Prop, (∀ σ' H', N σ' H' → ∃ m', m' < m ∧ W (i + 1) m' σ' H') ∧ ∀ x H', (ItT K a).yld i H x H' → g x σ H' fun σ2 H2 => tb { D with nx := N, ct := N, bk := D.nx } σ2 H2) := by
  refine ⟨fun i m σ H => m + i = xs.length ∧ Pv i σ H, ⟨xs.length, rfl, h0⟩, ?_⟩
  intro i m σ H w
  obtain ⟨em, p⟩ := w
  have sq := hl i σ H (by omega) p
  by_cases c : i < xs.length
  · right
    refine ⟨⟨xs, xs[i], sq, List.getElem?_eq_getElem c⟩, Pv (i + 1), fun σ' H' q => ⟨m - 1, by omega, by omega, q⟩, fun v H' y => ?_⟩
    obtain ⟨T, x, rfl, hT, rfl, hx⟩ := y
    exact hs i x T σ H (hx xs sq) p hT
  · left
    have e : i = xs.length := by omega
    subst e
    exact ⟨⟨xs, sq, rfl⟩, hd σ H p⟩
/-- for i, x in enumerate(a list or a tuple) that stands -/
theorem for_enumA {K : PySem.W.Frag} {a : Addr} {xs : List V} {g : TG} {tb : TS} {D : Ends} {σ : L2.St} {H : Hp} (Pv : Nat → L2.St → Hp → Prop) (hq : SqL K H a xs ∨ SqT K H a xs) (h0 : Pv 0 σ H) (hk : ∀ i σ' H', Pv i σ' H' → Keep [] H H')
    (hs : ∀ (i : Nat) (x : V) (T : Addr) (σ : L2.St) (H : Hp), xs[i]? = some x → Pv i σ H → H T = none → g (.ref T) σ (upd H T (.tup [.int (i : Int), x])) fun σ2 H2 => tb { D with nx := Pv (i + 1), ct := Pv (i + 1), bk := D.nx } σ2 H2)
    (hd : ∀ σ H, Pv xs.length σ H → D.nx σ H) :
    (SqL K H a xs ∧ ∃ W : Nat → Nat → L2.St → Hp → Prop, (∃ m, W 0 m σ H) ∧ ∀ i m σ H, W i m σ H →
      ((Ite K a).stop i H ∧ D.nx σ H) ∨ ((Ite K a).go i H ∧ ∃ N : L2.St → Hp → Prop, (∀ σ' H', N σ' H' → ∃ m', m' < m ∧ W (i + 1) m' σ' H') ∧ ∀ x H', (Ite K a).yld i H x H' → g x σ H' fun σ2 H2 => tb { D with nx := N, ct := N, bk := D.nx } σ2 H2)) ∨
    (SqT K H a xs ∧ ∃ W : Nat → Nat → L2.St → Hp → Prop, (∃ m, W 0 m σ H) ∧ ∀ i m σ H, W i m σ H →
      ((ItT K a).stop i H ∧ D.nx σ H) ∨ ((ItT K a).go i H ∧ ∃ N : L2.St → Hp → Prop, (∀ σ' H', N σ' H' → ∃ m', m' < m ∧ W (i + 1) m' σ' H') ∧ ∀ x H', (ItT K a).yld i H x H' → g x σ H' fun σ2 H2 => tb { D with nx := N, ct := N, bk := D.nx } σ2 H2)) := by
  rcases hq with hq | hq
  · exact .inl ⟨hq, for_enumL Pv h0 (fun i σ' H' _ p => (hk i σ' H' p).same.seq hq) hs hd⟩
  · exact .inr ⟨hq, for_enumT Pv h0 (fun i σ' H' _ p => seqT_keep (hk i σ' H' p) Soft.nil hq) hs hd⟩
end SM
set_option Elab.async false
set_option linter.all false
set_option maxRecDepth 100000
set_option maxHeartbeats 4000000
/-! raise C(e), C an own error that stores its argument. -/
namespace SM
open PySem PySem.Spec PyProof.Rows L2 PySem.HandSPX
/-- what raising x(..) wants: the class, its __init__ -/
structure RaiseOk (P : Program) (w : World) (K : PySem.W.Frag) (mg : Str → Option Value) (base : Heap) (x f : Str) : Prop where
  err : ErrC K (He.ga K x) (He.ma K (He.ga K x) "__init__")
  no : PySem.W.findIn K (.ref (He.ga K x)) f = some none
  ex : ∃ fd, FnOk P w K mg base CX0 1 (He.ma K (He.ga K x) "__init__") fd ["self", f] (spErr K f) ∧ Binds K fd ["self", f] []
  at_ : mg x = some (.ref (He.ga K x))
/-- the raise's reading -/
def tRaiseE (K : PySem.W.Frag) (C : Addr) (f : Str) (te : TE) (W : WX) : TS := fun _ σ H => tMkO C (spErr K f) [] (tCons te tNil) σ H fun cls d H' => W cls d σ H'
theorem ps_raiseErr {X : Cx} {W : WX} {x f : Str} {e : Expr} {te : TE} {p pos pos' : Pos} (R : RaiseOk X.prog X.w X.K X.mg X.base x f) (hc : X.calm = true) (hr : Room 2 X.A) (tk : Takes X W) (he : PE X e te) (hg : Gl X x := by rfl) (hdb : (x == ("__debug__" : Str)) = false := by decide)
    (hs : starEach [e] X.env = (false, eval e X.env) :: starEach [] X.env := by rfl) (hpl : (backTo pos (starEach [] X.env)).any (·.1) = false := by rfl) :
    PS X (.Raise (some (.Call (.Name x p) [e] [] pos)) none pos') (tRaiseE X.K (He.ga X.K x) f te W) := by
  obtain ⟨T, no, ⟨fd, F, b⟩, at_⟩ := R
  exact ps_raise hc tk (pmk_oex (ds := []) T.ox T.iC T.tI F hr b .nil pass0 hg at_ (pa_cons he pa_nil hs) hdb hs hpl)
theorem upd_del {H : Hp} {a d : Addr} {o1 o2 u v : HO} (ha : H a = none) : upd (del (upd (upd (upd H a o1) d u) a o2) a) d v = upd H d v := by
  funext b
  by_cases hd : b = d
  · rw [hd, upd_same, upd_same]
  · rw [upd_ne hd, upd_ne hd]
    by_cases hb : b = a
    · rw [hb, del_same, ha]
    · rw [del_ne hb, upd_ne hb, upd_ne hd, upd_ne hb]
/-- once its argument is read: what the raise tells -/
theorem raise_out {K : PySem.W.Frag} {C fI : Addr} {f : Str} {H1 : Hp} {v : V} {W : Value → Option Addr → Hp → Prop} (T : ErrC K C fI) (no : PySem.W.findIn K (.ref C) f = some none) (q : ∀ d, H1 d = none → W (.ref C) (some d) (upd H1 d (.xd [(f, v)]))) :
    [v].length ≤ 1000 ∧ ∀ a, H1 a = none → spErr K f (.ref a :: ([v] ++ [])) (upd H1 a (exo a C none))
      (fun y H2 => y = .non ∧ ∃ (d : Addr) (fs : List (Str × V)), H2 a = some (exo a C (some d)) ∧ H2 d = some (exd d fs) ∧ H1 d = none ∧ W (.ref C) (some d) (upd (del H2 a) d (.xd fs))) (fun _ _ _ => False) := by
  refine ⟨by simp, fun a ha => ⟨a, C, v, rfl, T.ox, no, upd_same, fun dx n ne => ⟨rfl, dx, [(f, v)], upd_same, ?_, ?_, ?_⟩⟩⟩
  · rw [upd_ne ne, upd_same]
  · rw [upd_ne ne] at n
    exact n
  · rw [upd_ne ne] at n
    rw [upd_del ha]
    exact q dx n
end SM
set_option Elab.async false
set_option linter.all false
set_option maxRecDepth 100000
set_option maxHeartbeats 6400000
/-! set(a list or a tuple of texts): how many different ones. -/
namespace SM
open PySem PySem.Spec PyProof.Rows
def addS (acc : List Str) (x : Str) : List Str := if acc.any (· == x) = true then acc else acc ++ [x]
/-- the different ones, as they come -/
def dedS (xs : List Str) : List Str := xs.foldl addS []
theorem dedS_snoc (xs : List Str) (x : Str) : dedS (xs ++ [x]) = addS (dedS xs) x := by
  rw [dedS, List.foldl_append]
  rfl
theorem addS_len (acc : List Str) (x : Str) : (addS acc x).length = if acc.any (· == x) = true then acc.length else acc.length + 1 := by
  unfold addS
  split <;> simp
theorem addS_le (acc : List Str) (x : Str) : (addS acc x).length ≤ acc.length + 1 := by
  rw [addS_len]
  split <;> omega
theorem dedS_le (xs : List Str) : ∀ i, (dedS (xs.take i)).length ≤ i
  | 0 => by simp [dedS]
  | i + 1 => by
    have ih := dedS_le xs i
    rw [List.take_succ]
    cases e : xs[i]? with
    | none => rw [Option.toList_none, List.append_nil]; omega
    | some x =>
      rw [Option.toList_some, dedS_snoc]
      have := addS_le (dedS (xs.take i)) x
      omega
theorem addS_any (acc : List Str) (x k : Str) : (addS acc x).any (· == k) = (acc.any (· == k) || decide (k = x)) := by
  unfold addS
  split
  · rename_i h
    by_cases e : k = x
    · subst e
      rw [h]
      rfl
    · rw [decide_eq_false e, Bool.or_false]
  · rw [List.any_append]
    congr 1
    rw [List.any_cons, List.any_nil, Bool.or_false]
    by_cases e : k = x
    · subst e
      simp
    · rw [decide_eq_false e]
      exact beq_eq_false_iff_ne.mpr fun z => e z.symm
section
variable {prog : Program} {w : World} {A : Around} {R : Result → Shared → Prop} {I : Addr} {fp wr : List Addr} {G : Array GenState → Array GenState → Prop} {P : Nat → Value → Prop} {St : Nat → Shared → Prop}
/-- each text of the walk is added -/
theorem set_words (S : Addr) (xs : List Str) (W : WalksS prog w A.in1 I fp wr G xs.length P St) (out : S ∉ fp) (few : xs.length + 1 < scanBound) (hval : ∀ i v, P i v → ∃ x t, xs[i]? = some x ∧ v = .str x t) :
    ∀ (k i : Nat) (s : Shared), xs.length - i = k → i ≤ xs.length → St i s → s.heap.SetOf (PySem.strKind prog w) S (fun y => (dedS (xs.take i)).any (· == y)) (dedS (xs.take i)).length →
      (∀ s', Moved (S :: wr) G s s' → s'.heap.SetOf (PySem.strKind prog w) S (fun y => (dedS xs).any (· == y)) (dedS xs).length → R (.ok (.ret .none)) s') →
      codeAny (model prog w) A (.builtin "set.update.loop" ⟨[.ref S, .ref I], []⟩) R s := by
  have nw : S ∉ wr := fun h => out (W.sub _ h)
  have up : ∀ b ∈ wr, b ∈ S :: wr := fun b hb => List.mem_cons_of_mem _ hb
  have stays : ∀ {s s' : Shared} {f : Str → Bool} {n : Nat}, Moved wr G s s' → s.heap.SetOf (PySem.strKind prog w) S f n → s'.heap.SetOf (PySem.strKind prog w) S f n := by
    intro s s' f n m hS
    obtain ⟨o, es, ep, t, ho, rest⟩ := hS
    exact ⟨o, es, ep, t, m.heap S _ nw ho, rest⟩
  intro k
  induction k with
  | zero =>
    intro i s hk hi hst hS hR
    refine codeAny_builtin F.entry_set_update_loop ?_
    rw [Around.under_plainId F.plain_set_update_loop _]
    show wpAny _ A.in1 (pyNext (.ref I) >>= _) _ _ s
    have ei : i = xs.length := by omega
    subst ei
    rw [List.take_length] at hS
    exact wpAny_bind (W.done s _ _ hst fun s' m => wpAny_pure (hR s' (m.mono up) (stays m hS)))
  | succ k ih =>
    intro i s hk hi hst hS hR
    refine codeAny_builtin F.entry_set_update_loop ?_
    rw [Around.under_plainId F.plain_set_update_loop _]
    show wpAny _ A.in1 (pyNext (.ref I) >>= _) _ _ s
    refine wpAny_bind (W.item i s _ _ (by omega) hst fun v s' hP hst' m => ?_)
    obtain ⟨x, t, hx, rfl⟩ := hval i v hP
    show wpAny _ A.in1 (holding [Value.str x t] (setAdd S (.str x t)) >>= _) _ _ s'
    refine wpAny_bind (wpAny_holding ?_)
    unfold setAdd
    refine wpAny_holding (wpAny_bind ((PySem.strKind prog w).pyHash (k := x) (strKind_is _ _ _ _) ?_))
    have hS' := stays m hS
    have room : (dedS (xs.take i)).length + 1 < scanBound := by
      have := dedS_le xs i
      omega
    refine wpAny_setAddHashed_of (knd := PySem.strKind prog w) (s := { s' with toks := s'.toks + 1 }) (strKind_is _ _ _ _) rfl hS' room fun h' sb hS2 => ?_
    have next : dedS (xs.take (i + 1)) = addS (dedS (xs.take i)) x := by
      rw [List.take_succ, hx, Option.toList_some, dedS_snoc]
    have hS3 : h'.SetOf (PySem.strKind prog w) S (fun y => (dedS (xs.take (i + 1))).any (· == y)) (dedS (xs.take (i + 1))).length :=
      SetOf_congr hS2 (fun y => by rw [next, addS_any]) (by rw [next, addS_len])
    refine wpAny_pure ⟨plainId_quiet F.plain_set_update_loop _, ih (i + 1) _ (by omega) (by omega) (W.frame _ s' _ _ hst' (Nat.le_succ _) fun b hb o e => ?_) hS3 fun s'' m2 hE => hR s'' (Moved.trans W.gtrans ((m.mono up).then_heap (Nat.le_succ _) fun b o hb e => ?_) m2) hE⟩
    · exact (sb.2 b fun z : b = S => out (z ▸ hb)).trans e
    · exact (sb.2 b fun z : b = S => hb (by rw [z]; exact List.mem_cons_self)).trans e
end
section
variable {prog : Program} {w : World} {A : Around} {E : Value → Shared → Prop} {s : Shared}
/-- what the fresh set holds once __init__ is through -/
def Filled (prog : Program) (w : World) (s : Shared) (xs : List Str) (E : Value → Shared → Prop) : Result → Shared → Prop := wants (fun r s₂ => r = .none ∧ ∃ h' tk, s₂ = { s with heap := h', toks := tk } ∧
  h'.SetOf (PySem.strKind prog w) s.heap.objs.size (fun y => (dedS xs).any (· == y)) (dedS xs).length ∧ (∀ b o, s.heap.get? b = some o → h'.get? b = some o)) E
theorem call_set_words {l : Addr} {items : Array Value} {xs : List Str} {Q : Value → Shared → Prop} (hh : A.handled = none) (hl : s.heap.IsList l items ∨ s.heap.IsTuple l items) (hi : StrsAre items.toList xs) (few : xs.length + 1 < scanBound)
    (h : ∀ (h' : Heap) (tk : Nat), h'.SetOf (PySem.strKind prog w) s.heap.objs.size (fun y => (dedS xs).any (· == y)) (dedS xs).length → (∀ b o, s.heap.get? b = some o → h'.get? b = some o) → Q (.ref s.heap.objs.size) { s with heap := h', toks := tk }) :
    wpAny (model prog w) A (call (.type "set") [.ref l]) Q E s := by
  have len : items.size = xs.length := by rw [← StrsAre.len_eq hi, Array.length_toList]
  have hval : ∀ (i : Nat) (v : Value), items[i]? = some v → ∃ x t, xs[i]? = some x ∧ v = .str x t := fun i v hv => by
    have hi' : i < xs.length := by rw [← len]; exact (Array.getElem?_eq_some_iff.mp hv).1
    obtain ⟨t, e⟩ := SS.strs_at hi i v (by rw [Array.getElem?_toList]; exact hv)
    refine ⟨xs[i], t, List.getElem?_eq_getElem hi', ?_⟩
    rw [e, List.getD_eq_getElem?_getD, List.getElem?_eq_getElem hi']
    rfl
  have C := PySem.F.called_set
  obtain ⟨c, tl, hmro⟩ := C.mro
  have hmade := C.made
  have hsub := C.sub
  refine wpAny_call (codeAny_of_tree ?_)
  show wpAny _ _ (callAny (.type "set") _) _ _ _
  refine wpAny_pure ⟨Code.quiet_builtin _ (by decide +kernel), codeAny_builtin PySem.F.entry_type_call ?_⟩
  rw [Around.under_plain (weight_type_call_type "set" [.ref l] []) rfl]
  have h1 := C.notType
  have h2 := C.canCreate
  have hct := PySem.F.typeCall_set_1 (.ref l)
  repeat (any_goals (first | assumption | wp_step))
  refine codeAny_mono (code_set_new_1 (.ref l) (E := E) (Q₁ := fun obj s₁ => ∃ led : Bool, obj = .ref s.heap.objs.size ∧ s₁ = { s with heap := s.heap.push { cls := .type "set", dict := none, data := .set #[] 0 (.fresh 0 0 led) } }) fun led => ⟨led, rfl, rfl⟩) fun r s₁ hr => ?_
  cases r with
  | error e => exact hr
  | ok fl =>
    cases fl with
    | next => exact hr.elim
    | brk => exact hr.elim
    | cont => exact hr.elim
    | ret obj =>
      obtain ⟨led, rfl, rfl⟩ := hr
      have hS : (s.heap.push { cls := .type "set", dict := none, data := .set #[] 0 (.fresh 0 0 led) }).get? s.heap.objs.size = some { cls := .type "set", dict := none, data := .set #[] 0 (.fresh 0 0 led) } := Heap.get?_push_size _ rfl
      have hT : Shared.TypeIs { s with heap := s.heap.push { cls := .type "set", dict := none, data := .set #[] 0 (.fresh 0 0 led) } } (.ref s.heap.objs.size) "set" := ⟨_, hS, rfl⟩
      have hli := C.init.lookup
      have hbi := C.init.bind (.ref s.heap.objs.size)
      repeat (any_goals (first | assumption | wp_step))
      refine codeAny_mono (codeAny_call_builtin (R := Filled prog w s xs E) C.init.plain PySem.F.entry_set_init (check_set_init_1 hT ?_)) fun r₂ s₂ hr₂ => ?_
      · have hz : (s.heap.push { cls := .type "set", dict := none, data := .set #[] 0 (.fresh 0 0 led) }).objs.size = s.heap.objs.size + 1 := Heap.size_push ..
        rcases hl with hl | hl
        · obtain ⟨⟨oc, od, dt, sl⟩, hol, hc, nl, hd⟩ := hl
          simp only at hc hd
          subst hc hd
          have kept := Heap.get?_push_of_some { cls := .type "set", dict := none, data := .set #[] 0 (.fresh 0 0 led) } hol
          have s1 := PySem.F.sub_list_set
          have s2 := PySem.F.sub_list_frozenset
          have nd : (Value.type "list" == Value.type "dict") = false := by decide
          have hl1 : (s.heap.push { cls := .type "set", dict := none, data := .set #[] 0 (.fresh 0 0 led) }).IsList l items := ⟨_, kept, rfl, nl, rfl⟩
          have below : l < s.heap.objs.size := Heap.lt_size hol
          unfold Builtin.«set.__init__» noKeywords Builtin.Frozenset.updateFrom
          generalize hPI : pyIter = PI
          wp_walk
          subst hPI
          refine wpAny_pyIter_list hl1 (wpAny_bind (wpAny_runValue ?_))
          have apart : l ≠ (s.heap.push { cls := .type "set", dict := none, data := .set #[] 0 (.fresh 0 0 led) }).objs.size := by
            rw [hz]
            exact Nat.ne_of_lt (Nat.lt_succ_of_lt below)
          have W0 := (Walks.list (prog := prog) (w := w) (A := A.in1.in1.in1) (by simp [hh]) _ l apart items).toS
          rw [len] at W0
          refine set_words s.heap.objs.size xs W0 (by rw [hz]; simp only [List.mem_cons, List.not_mem_nil, or_false, not_or]; exact ⟨Nat.ne_of_lt (Nat.lt_succ_self _), Nat.ne_of_gt below⟩) few hval xs.length 0 _ rfl (Nat.zero_le _) ⟨⟨_, Heap.get?_push_size _ rfl, rfl, rfl⟩, hl1.push _⟩ ?_ fun s' m hE => ?_
          · exact SetOf_congr ((setObjOf_fresh (knd := PySem.strKind prog w) led).setOf (Heap.get?_push_of_some _ hS) (by unfold scanBound; omega)) (fun _ => rfl) rfl
          · obtain ⟨h', g', d', tk', os'⟩ := s'
            have eg : g' = s.gens := m.gens
            have ed : d' = s.drawn := m.drawn
            have eo : os' = s.os := m.os
            subst eg ed eo
            show wpAny _ _ _ _ _ _
            refine wpAny_pure ?_
            show wpAny _ _ (ret Value.none) _ _ _
            refine wpAny_pure ⟨rfl, h', tk', rfl, hE, fun b o e => ?_⟩
            have hb := Heap.lt_size e
            exact m.heap b o (by rw [hz]; simp only [List.mem_cons, List.not_mem_nil, or_false, not_or]; exact ⟨Nat.ne_of_lt hb, Nat.ne_of_lt (Nat.lt_succ_of_lt hb)⟩) (Heap.get?_push_of_some _ (Heap.get?_push_of_some _ e))
        · obtain ⟨⟨oc, od, dt, sl⟩, hol, hc, nl, hd⟩ := hl
          simp only at hc hd
          subst hc hd
          have kept := Heap.get?_push_of_some { cls := .type "set", dict := none, data := .set #[] 0 (.fresh 0 0 led) } hol
          have s1 := PySem.F.sub_tuple_set
          have s2 := PySem.F.sub_tuple_frozenset
          have nd : (Value.type "tuple" == Value.type "dict") = false := by decide
          have hl1 : (s.heap.push { cls := .type "set", dict := none, data := .set #[] 0 (.fresh 0 0 led) }).IsTuple l items := ⟨_, kept, rfl, nl, rfl⟩
          have below : l < s.heap.objs.size := Heap.lt_size hol
          unfold Builtin.«set.__init__» noKeywords Builtin.Frozenset.updateFrom
          generalize hPI : pyIter = PI
          wp_walk
          subst hPI
          refine wpAny_pyIter_tuple hl1 (wpAny_bind (wpAny_runValue ?_))
          have apart : l ≠ (s.heap.push { cls := .type "set", dict := none, data := .set #[] 0 (.fresh 0 0 led) }).objs.size := by
            rw [hz]
            exact Nat.ne_of_lt (Nat.lt_succ_of_lt below)
          have W0 := (Walks.tuple (prog := prog) (w := w) (A := A.in1.in1.in1) (by simp [hh]) _ l apart items).toS
          rw [len] at W0
          refine set_words s.heap.objs.size xs W0 (by rw [hz]; simp only [List.mem_cons, List.not_mem_nil, or_false, not_or]; exact ⟨Nat.ne_of_lt (Nat.lt_succ_self _), Nat.ne_of_gt below⟩) few hval xs.length 0 _ rfl (Nat.zero_le _) ⟨⟨_, Heap.get?_push_size _ rfl, rfl, rfl⟩, hl1.push _⟩ ?_ fun s' m hE => ?_
          · exact SetOf_congr ((setObjOf_fresh (knd := PySem.strKind prog w) led).setOf (Heap.get?_push_of_some _ hS) (by unfold scanBound; omega)) (fun _ => rfl) rfl
          · obtain ⟨h', g', d', tk', os'⟩ := s'
            have eg : g' = s.gens := m.gens
            have ed : d' = s.drawn := m.drawn
            have eo : os' = s.os := m.os
            subst eg ed eo
            show wpAny _ _ _ _ _ _
            refine wpAny_pure ?_
            show wpAny _ _ (ret Value.none) _ _ _
            refine wpAny_pure ⟨rfl, h', tk', rfl, hE, fun b o e => ?_⟩
            have hb := Heap.lt_size e
            exact m.heap b o (by rw [hz]; simp only [List.mem_cons, List.not_mem_nil, or_false, not_or]; exact ⟨Nat.ne_of_lt hb, Nat.ne_of_lt (Nat.lt_succ_of_lt hb)⟩) (Heap.get?_push_of_some _ (Heap.get?_push_of_some _ e))
      · cases r₂ with
        | error e => exact hr₂
        | ok fl₂ =>
          cases fl₂ with
          | next => exact hr₂.elim
          | brk => exact hr₂.elim
          | cont => exact hr₂.elim
          | ret r =>
            obtain ⟨rfl, h', tk, rfl, hS', hk'⟩ := hr₂
            repeat (any_goals (first | assumption | wp_step))
            exact h _ _ hS' hk'
end
end SM
set_option Elab.async false
set_option linter.all false
set_option maxRecDepth 100000
set_option maxHeartbeats 2000000
/-! len(set(a list or a tuple of texts)) -/
namespace SM
open PySem PySem.Spec PyProof.Rows L2
def tLenSetW (K : PySem.W.Frag) (ta : TE) : TE := fun σ H Q => ta σ H fun x H1 => ∃ l, ∃ xs : List Str, x = .ref l ∧ (SqL K H1 l (xs.map V.str) ∨ SqT K H1 l (xs.map V.str)) ∧ xs.length ≤ 100 ∧ Q (.int (dedS xs).length) H1
section
variable {X : Cx}
theorem pe_lenSetW {a : Expr} {ta : TE} {p p2 q pos : Pos} (hc : X.calm = true) (hg : Gl X "len") (hm : X.mg "len" = none) (hg2 : Gl X "set") (hm2 : X.mg "set" = none) (ha : PE X a ta)
    (na : starEach [a] X.env = (false, eval a X.env) :: starEach [] X.env := by rfl) : PE X (.Call (.Name "len" p) [.Call (.Name "set" p2) [a] [] q] [] pos) (tLenSetW X.K ta) := by
  refine ⟨fun pins s σ H Q I h => ?_⟩
  refine Call_ (ld_blt I hg hm boot_len (callWith_builtin1 (args_cons ?_ rfl) rfl rfl))
  refine Call_ (ld_blt I hg2 hm2 boot_set (callWith_type1 (args_cons (thn (ha.run pins s σ H _ I h) fun v s1 z => args_nil ?_) na) na rfl))
  obtain ⟨x, H1, I1, r1, l, xs, rfl, hq, few, want⟩ := z
  cases r1
  have room : xs.length + 1 < scanBound := by unfold scanBound; omega
  have look : ∃ its : List Value, Vals (xs.map V.str) its ∧ (s1.heap.IsList l its.toArray ∨ s1.heap.IsTuple l its.toArray) := by
    rcases hq with hq | hq
    · obtain ⟨its, r, pl, _⟩ := I1.list hq
      exact ⟨its, r, .inl pl.isList⟩
    · obtain ⟨its, r, pl, _⟩ := I1.tuple hq
      exact ⟨its, r, .inr pl⟩
  obtain ⟨its, r, there⟩ := look
  refine call_set_words (I1.ok.hd hc) there (by simpa using strsAre_of r) room fun h' tk hS kept => args_nil ?_
  obtain ⟨o, es, ep, t, ho, hex, hd, _, _, _, hf, hn⟩ := hS
  have I2 : Inv X pins σ H1 { s1 with heap := h', toks := tk } := I1.kept kept
  have le : (dedS xs).length ≤ 100 := by
    have := dedS_le xs xs.length
    rw [List.take_length] at this
    omega
  exact call_len_set ho hex hd hf (by rw [hn] <;> omega) ⟨.int (dedS xs).length, H1, I2.tok _, ⟨_, by rw [hn]⟩, want⟩
end
theorem addS_same {acc : List Str} {x : Str} (h : x ∈ acc) : addS acc x = acc := by
  unfold addS
  rw [if_pos]
  exact List.any_eq_true.mpr ⟨x, h, by simp⟩
theorem addS_new {acc : List Str} {x : Str} (h : x ∉ acc) : addS acc x = acc ++ [x] := by
  unfold addS
  rw [if_neg]
  intro z
  obtain ⟨y, hy, e⟩ := List.any_eq_true.mp z
  exact h (by rw [← eq_of_beq e]; exact hy)
end SM
set_option Elab.async false
set_option linter.all false
set_option maxRecDepth 100000
set_option maxHeartbeats 2000000
/-! a slice of a tuple that is the whole of it -/
namespace HT
open PySem PyProof.Rows
open PySem.SeqAt
section
variable {prog : Program} {w : World} {A : Around} {E : Value → Shared → Prop} {s : Shared}
theorem getItem_tuple_all {t sl : Addr} {items : Array Value} {vl vu : Value} {lo hi : Option Int} {Q : Value → Shared → Prop} (ht : IsTup s.heap t items) (hs : s.heap.IsSliceOf sl vl vu .none) (pl : IsPart vl lo) (pu : IsPart vu hi)
    (hw : sIx items.size 0 lo = 0 ∧ sIx items.size items.size hi = items.size) (h : Q (.ref t) s) : wpAny (model prog w) A (getItem (.ref t) (.ref sl)) Q E s := by
  obtain ⟨w1, w2⟩ := hw
  obtain ⟨os, hos, hcs, hds⟩ := id hs
  have hTs : s.TypeIs (.ref sl) "slice" := ⟨os, hos, hcs⟩
  unfold getItem
  try with_reducible refine wpAny_holding ?_
  first | refine wpAny_bind (wpAny_pure ?_) | skip
  refine wpAny_bind (wpAny_sequenceKey ht.typeIs (by decide) ?_)
  refine wpAny_bind (wpAny_callSpecial?_slot (name := Str.ofString "__getitem__") ht.typeIs PyProof.Rows.slot_tuple_getitem
    (wpAny_call_entry PyProof.Rows.slot_tuple_getitem ht.typeIs entry_tuple_getitem ?_ (args_tuple_getitem _ _)))
  show wpAny _ _ (Builtin.Tuple.tupleItemsOf (.ref t) >>= _) _ _ s
  refine wpAny_bind (tupleItemsOf_ ht ?_)
  refine wpAny_bind (wpAny_typeOf hTs ?_)
  rw [if_pos (by decide)]
  refine wpAny_bind (sliceApplied_gen hs pl pu ?_)
  have yes : (((sIx items.size 0 lo : Nat) : Int) == 0 && (1 : Int) == 1 && (sIx items.size items.size hi - sIx items.size 0 lo) == items.size) = true := by
    rw [w1, w2]
    simp
  show wpAny _ _ (if (((sIx items.size 0 lo : Nat) : Int) == 0 && (1 : Int) == 1 && (sIx items.size items.size hi - sIx items.size 0 lo) == items.size) = true then _ else _) _ _ s
  rw [if_pos yes]
  have ex : ∀ {B : Around} {F : Value → Shared → Prop} {R : Bool → Shared → Prop}, R true s → wpAny (model prog w) B (Builtin.Tuple.tupleIsExact (.ref t)) R F s := fun r => by
    unfold Builtin.Tuple.tupleIsExact
    exact wpAny_bind (wpAny_typeOf ht.typeIs (wpAny_pure r))
  refine wpAny_bind (ex ?_)
  rw [if_pos rfl]
  exact wpAny_bind (wpAny_rule (wpAny_pure ⟨_, rfl, wpAny_pure h⟩))
end
end HT
namespace SM
open PySem PySem.Spec PyProof.Rows L2
section
variable {X : Cx}
/-- t[lo:hi] of a tuple: t itself where it is the whole, else a new one -/
def rSlW (K : PySem.W.Frag) : V → Option Int → Option Int → Hp → VK → Prop := fun x lo hi H Q => ∃ a xs, x = .ref a ∧ SqT K H a xs ∧ (HT.sIx xs.length 0 lo = 0 ∧ HT.sIx xs.length xs.length hi = xs.length) ∧ Q (.ref a) H
theorem sl_tupW : SlR X (rSlW X.K) := by
  intro pins s σ H x v vl vu lo hi sl Q I rx hs pl pu h
  obtain ⟨a, xs, rfl, hx, hw, q⟩ := h
  cases rx
  obtain ⟨its, r, ht, hz⟩ := I.tuple hx
  have len : its.toArray.size = xs.length := by rw [List.size_toArray]; exact r.length.symm
  refine ⟨"tuple", _, PyProof.Rows.slot_tuple_getitem.lookup, ht.typeIs, ?_⟩
  exact HT.getItem_tuple_all ht hs pl pu (by rw [len]; exact hw) ⟨.ref a, H, I, rfl, q⟩
/-- t[lo:hi], whole or not -/
def rSlA (K : PySem.W.Frag) : V → Option Int → Option Int → Hp → VK → Prop := fun x lo hi H Q => rSlT K x lo hi H Q ∨ rSlW K x lo hi H Q
theorem sl_tupA : SlR X (rSlA X.K) := sl_tup.or sl_tupW
end
end SM
set_option Elab.async false
set_option linter.all false
set_option maxRecDepth 100000
set_option maxHeartbeats 2000000
/-! Displays with lists and dicts in them, told in the heap without what changes. -/
namespace SM
open PySem PySem.Spec PyProof.Rows L2
/-- the heap without some places -/
def off (m : List Addr) (H : Hp) : Hp := fun b => if b ∈ m then none else H b
theorem off_in {m : List Addr} {H : Hp} {b : Addr} (h : b ∈ m) : off m H b = none := if_pos h
theorem off_out {m : List Addr} {H : Hp} {b : Addr} (h : b ∉ m) : off m H b = H b := if_neg h
theorem off_some {m : List Addr} {H : Hp} {b : Addr} {o : HO} (h : off m H b = some o) : b ∉ m ∧ H b = some o := by
  by_cases z : b ∈ m
  · rw [off_in z] at h
    cases h
  · rw [off_out z] at h
    exact ⟨z, h⟩
theorem Keep.off {m : List Addr} {H H' : Hp} (k : Keep m H H') : Same (off m H) (off m H') := fun b o e => by
  obtain ⟨n, e⟩ := off_some e
  rw [off_out n]
  exact k b o n e
theorem Keep.off0 {m : List Addr} {H H' : Hp} (k : Keep [] H H') : Same (SM.off m H) (SM.off m H') := (Keep.of_nil k).off
theorem off_same {m : List Addr} {H : Hp} : Same (off m H) H := fun b o e => (off_some e).2
theorem off_nil {H : Hp} : Same H (off [] H) := fun b o e => by rw [off_out (by simp)]; exact e
def Live (m : List Addr) (H : Hp) : Prop := ∀ b ∈ m, H b ≠ none
theorem Live.nil {H : Hp} : Live [] H := fun b z => by cases z
theorem Live.one {H : Hp} {a : Addr} {o : HO} (h : H a = some o) : Live [a] H := fun b z => by
  rw [List.mem_singleton.mp z, h]
  exact fun e => by cases e
theorem Live.cons {m : List Addr} {H : Hp} {a : Addr} {o : HO} (h : H a = some o) (l : Live m H) : Live (a :: m) H := fun b z => by
  rcases List.mem_cons.mp z with rfl | z
  · rw [h]
    exact fun e => by cases e
  · exact l b z
theorem Live.keep {m : List Addr} {H H' : Hp} (l : Live m H) (k : Keep [] H H') : Live m H' := fun b z e => by
  cases h : H b with
  | none => exact l b z h
  | some o =>
    rw [k b o (by simp) h] at e
    cases e
theorem Live.out {m : List Addr} {H : Hp} {p : Addr} (l : Live m H) (h : H p = none) : p ∉ m := fun z => l p z h
theorem Src.live {H : Hp} {a : Addr} (h : Src H a) : Live [a] H := by
  obtain ⟨x, y, e, _⟩ := h
  exact Live.one e
theorem off_new {m : List Addr} {H : Hp} {p : Addr} {o : HO} (l : Live m H) (h : H p = none) : off m (upd H p o) p = some o := by
  rw [off_out (l.out h)]
  exact upd_same
theorem off_at {m : List Addr} {H H' : Hp} {p : Addr} {o : HO} (l : Live m H) (h : H p = none) (e : H' p = some o) : off m H' p = some o := by
  rw [off_out (l.out h)]
  exact e
variable {K : PySem.W.Frag} {m : List Addr} {σ : L2.St} {H0 : Hp}
theorem DqAll.append : ∀ {H : Hp} {vs us : List V} {ds es : List PyData}, DqAll K H vs ds → DqAll K H us es → DqAll K H (vs ++ us) (ds ++ es)
  | _, _, _, _, _, .nil, h => h
  | _, _, _, _, _, .cons h t, z => .cons h (DqAll.append t z)
theorem DqAll.take : ∀ {H : Hp} (n : Nat) {vs : List V} {ds : List PyData}, DqAll K H vs ds → DqAll K H (vs.take n) (ds.take n)
  | _, 0, _, _, _ => .nil
  | _, _ + 1, _, _, .nil => .nil
  | _, n + 1, _, _, .cons h t => .cons h (DqAll.take n t)
theorem DqAll.drop : ∀ {H : Hp} (n : Nat) {vs : List V} {ds : List PyData}, DqAll K H vs ds → DqAll K H (vs.drop n) (ds.drop n)
  | _, 0, _, _, h => h
  | _, _ + 1, _, _, .nil => .nil
  | _, n + 1, _, _, .cons _ t => DqAll.drop n t
theorem DqAll.strs {H : Hp} : ∀ (xs : List Str), DqAll K H (xs.map V.str) (xs.map PyData.str)
  | [] => .nil
  | x :: xs => .cons (.str x) (DqAll.strs xs)
theorem DqAll.rep {H : Hp} {vs : List V} {ds : List PyData} (h : DqAll K H vs ds) : ∀ n, DqAll K H (List.replicate n vs).flatten (List.replicate n ds).flatten
  | 0 => .nil
  | n + 1 => by
    rw [List.replicate_succ, List.replicate_succ, List.flatten_cons, List.flatten_cons]
    exact h.append (h.rep n)
/-- from H0 on, te gives new data -/
def LqE (K : PySem.W.Frag) (m : List Addr) (te : TE) (σ : L2.St) (H0 : Hp) (d : PyData) : Prop := ∀ H, Keep [] H0 H → ∀ Q : VK, (∀ v H', Keep [] H H' → Dq K (off m H') v d → Q v H') → te σ H Q
def LqA (K : PySem.W.Frag) (m : List Addr) (ta : TA) (σ : L2.St) (H0 : Hp) (ds : List PyData) : Prop := ∀ H, Keep [] H0 H → ∀ Q : List V → Hp → Prop, (∀ xs H', Keep [] H H' → DqAll K (off m H') xs ds → Q xs H') → ta σ H Q
theorem LqA.nil : LqA K m tNil σ H0 [] := fun H _ Q k => k [] H Keep.refl .nil
theorem LqA.cons {te : TE} {ta : TA} {d : PyData} {ds : List PyData} (h : LqE K m te σ H0 d) (t : LqA K m ta σ H0 ds) : LqA K m (tCons te ta) σ H0 (d :: ds) :=
  fun H k0 Q k => h H k0 _ fun v H1 k1 d1 => t H1 (k0.trans k1) _ fun xs H2 k2 d2 => k _ _ (k1.trans k2) (.cons (d1.mono k2.off0) d2)
theorem LqE.str {x : Str} : LqE K m (tC (.str x)) σ H0 (.str x) := fun H _ Q k => k _ _ Keep.refl (.str x)
theorem LqE.bl {x : Bool} : LqE K m (tC (.bl x)) σ H0 (.bool x) := fun H _ Q k => k _ _ Keep.refl (.bl x)
theorem LqE.int {x : Int} : LqE K m (tC (.int x)) σ H0 (.int x) := fun H _ Q k => k _ _ Keep.refl (.int x)
theorem LqE.non : LqE K m (tC .non) σ H0 .none := fun H _ Q k => k _ _ Keep.refl .non
theorem LqE.var {i : Nat} {v : V} {d : PyData} (dv : Dq K (off m H0) v d) (h : σ[i]? = some (some v)) : LqE K m (tVar i) σ H0 d := fun H k0 Q k => ⟨_, h, k _ _ Keep.refl (dv.mono k0.off0)⟩
theorem LqE.tup {ta : TA} {ds : List PyData} (l : Live m H0) (h : LqA K m ta σ H0 ds) (n : Nat.ble ds.length 100 = true := by rfl) : LqE K m (tTup ta) σ H0 (.tuple ds) :=
  fun H k0 Q k => h H k0 _ fun xs H1 k1 d1 => ⟨by rw [d1.length]; exact Nat.le_trans (Nat.le_of_ble_eq_true n) (by decide), fun p hp => k _ _ (k1.trans (Keep.new hp)) (.tup (SqT.of (off_new ((l.keep k0).keep k1) hp)) (d1.mono (Keep.new hp).off0))⟩
theorem LqE.lst {ta : TA} {ds : List PyData} (l : Live m H0) (h : LqA K m ta σ H0 ds) (n : Nat.ble ds.length 100 = true := by rfl) : LqE K m (tLst ta) σ H0 (.list ds) :=
  fun H k0 Q k => h H k0 _ fun xs H1 k1 d1 => ⟨by rw [d1.length]; exact Nat.le_trans (Nat.le_of_ble_eq_true n) (by decide), fun p hp => k _ _ (k1.trans (Keep.new hp)) (.lst (SqL.of (off_new ((l.keep k0).keep k1) hp)) (d1.mono (Keep.new hp).off0))⟩
theorem LqE.dic (l : Live m H0) : LqE K m tDNewK σ H0 (.dict []) := fun H k0 Q k p hp => k _ _ (Keep.new hp) (.dic (kvs := []) (ds := []) (off_new (l.keep k0) hp) .nil)
theorem LqE.rep {ta : TA} {d : PyData} {ds : List PyData} {n : Nat} (l : Live m H0) (h : LqA K m ta σ H0 (d :: ds)) (n1 : Nat.ble (ds.length + 1) 100 = true := by rfl) (n2 : Nat.ble 2 n = true := by rfl) (n3 : Nat.ble n 1000 = true := by rfl) : LqE K m (tOp (rRepT K) (tTup ta) (tC (.int (n : Int)))) σ H0 (.tuple (List.replicate n (d :: ds)).flatten) :=
  fun H k0 Q k => h H k0 _ fun xs H1 k1 d1 => by
    have len : xs.length = ds.length + 1 := d1.length
    have a1 := Nat.le_of_ble_eq_true n1
    have a2 := Nat.le_of_ble_eq_true n2
    have a3 := Nat.le_of_ble_eq_true n3
    refine ⟨by rw [len]; exact Nat.le_trans a1 (by decide), fun p hp => ⟨p, (n : Int), xs, rfl, rfl, SqT.of upd_same, fun e => ?_, by omega, by omega, by omega, fun q hq => ?_⟩⟩
    · rw [e] at len
      cases len
    · have kk := (Keep.new (m := []) (o := .tup xs) hp).trans (Keep.new (o := .tup (List.replicate (n : Int).toNat xs).flatten) hq)
      refine k _ _ (k1.trans kk) (.tup (SqT.of (off_new (((l.keep k0).keep k1).keep (Keep.new hp)) hq)) ?_)
      rw [Int.toNat_natCast]
      exact (d1.mono kk.off0).rep n
theorem off_less {m : List Addr} {q : Addr} {H : Hp} : Same (off (q :: m) H) (off m H) := fun b o e => by
  obtain ⟨n, e⟩ := off_some e
  rw [off_out (fun z => n (List.mem_cons_of_mem _ z))]
  exact e
theorem off_fresh {m : List Addr} {q : Addr} {H : Hp} {o : HO} (h : H q = none) : Same (off m H) (off (q :: m) (upd H q o)) := fun b u e => by
  obtain ⟨n, e⟩ := off_some e
  have nb : b ≠ q := fun z => by
    rw [z, h] at e
    cases e
  rw [off_out (by
    intro z
    rcases List.mem_cons.mp z with z | z
    · exact nb z
    · exact n z), upd_ne nb]
  exact e
theorem off_past {m : List Addr} {q : Addr} {H H' : Hp} (k : Keep [] H H') (h : H q = none) : Same (off m H) (off (q :: m) H') := fun b u e => by
  obtain ⟨n, e⟩ := off_some e
  rw [off_out (by
    intro z
    rcases List.mem_cons.mp z with z | z
    · rw [z, h] at e
      cases e
    · exact n z)]
  exact k b u (by simp) e
theorem off_self {m : List Addr} {q : Addr} {H : Hp} {o : HO} : Same (off (q :: m) H) (off (q :: m) (upd H q o)) := fun b u e => by
  obtain ⟨n, e⟩ := off_some e
  have nb : b ≠ q := fun z => n (by rw [z]; exact List.mem_cons_self)
  rw [off_out n, upd_ne nb]
  exact e
/-- a list display of such -/
theorem LqA.lst {ta : TA} {ds : List PyData} {H : Hp} {Q : VK} (h : LqA K m ta σ H0 ds) (k0 : Keep [] H0 H) (n : Nat.ble ds.length 100 = true) (k : ∀ p xs H', H p = none → Keep [] H H' → H' p = some (.lst xs) → DqAll K (off (p :: m) H') xs ds → Q (.ref p) H') : tLst ta σ H Q :=
  h H k0 _ fun xs H1 k1 d1 => ⟨by rw [d1.length]; exact Nat.le_trans (Nat.le_of_ble_eq_true n) (by decide), fun p hp => k p xs _ (k1.free (by simp) hp) (k1.trans (Keep.new hp)) upd_same (d1.mono (off_fresh hp))⟩
/-- x + [..], x a list of such -/
theorem LqA.cat {i : Nat} {ta : TA} {p : Addr} {xs : List V} {ds es : List PyData} {H : Hp} {Q : VK} (hv : σ[i]? = some (some (.ref p))) (hp : H p = some (.lst xs)) (hd : DqAll K (off m H) xs ds) (dl : ds.length ≤ 400) (h : LqA K m ta σ H es) (n : Nat.ble es.length 100 = true)
    (k : ∀ q ys H', H q = none → Keep [] H H' → H' q = some (.lst ys) → DqAll K (off (q :: m) H') ys (ds ++ es) → Q (.ref q) H') : tOp rCat (tVar i) (tLst ta) σ H Q := by
  refine ⟨_, hv, LqA.lst h Keep.refl n fun r zs H1 nr k1 e1 d1 => ?_⟩
  refine ⟨p, r, xs, zs, rfl, rfl, k1.to hp, e1, ?_, fun q hq => ?_⟩
  · rw [hd.length, d1.length]
    have := Nat.le_of_ble_eq_true n
    exact Nat.le_trans (show ds.length + es.length ≤ 500 by omega) (by decide)
  · exact k q _ _ (k1.free (by simp) hq) (k1.trans (Keep.new hq)) upd_same (((hd.mono k1.off0).append (d1.mono off_less)).mono (off_fresh hq))
theorem DqAll.at_ {H : Hp} {vs : List V} {ds : List PyData} (h : DqAll K H vs ds) {i : Nat} {v : V} (e : vs[i]? = some v) : ∃ d ∈ ds, Dq K H v d := by
  obtain ⟨d, e1, h1⟩ := h.get e
  exact ⟨d, List.mem_of_getElem? e1, h1⟩
/-! ### a datum, and if it is a list: what it holds stands without it -/
def isLs : PyData → Bool
  | .list _ => true
  | _ => false
def isTu : PyData → Bool
  | .tuple _ => true
  | _ => false
def Dn (K : PySem.W.Frag) (m : List Addr) (H : Hp) (v : V) (d : PyData) : Prop := Dq K (off m H) v d ∧ (isLs d = false ∨ ∃ l xs ds, v = .ref l ∧ d = .list ds ∧ l ∉ m ∧ H l = some (.lst xs) ∧ DqAll K (off (l :: m) H) xs ds) ∧ (isTu d = true → ∃ a xs, v = .ref a ∧ a ∉ m ∧ H a = some (.tup xs))
theorem Dn.of {H : Hp} {v : V} {d : PyData} (h : Dq K (off m H) v d) (n : isLs d = false) (t : isTu d = false) : Dn K m H v d := ⟨h, .inl n, fun z => by rw [t] at z; cases z⟩
theorem Dn.tup {H : Hp} {a : Addr} {xs : List V} {ds : List PyData} (n : a ∉ m) (e : H a = some (.tup xs)) (h : DqAll K (off m H) xs ds) : Dn K m H (.ref a) (.tuple ds) :=
  ⟨.tup (SqT.of (by rw [off_out n]; exact e)) h, .inl rfl, fun _ => ⟨a, xs, rfl, n, e⟩⟩
theorem Dn.keep {H H' : Hp} {v : V} {d : PyData} (h : Dn K m H v d) (k : Keep m H H') : Dn K m H' v d := by
  obtain ⟨a, b, c⟩ := h
  refine ⟨a.mono k.off, ?_, fun z => ?_⟩
  · rcases b with b | ⟨l, xs, ds, e1, e2, e3, e4, e5⟩
    · exact .inl b
    · exact .inr ⟨l, xs, ds, e1, e2, e3, k _ _ e3 e4, e5.mono (k.up (fun a z => List.mem_cons_of_mem _ z)).off⟩
  · obtain ⟨t, xs, e1, e2, e3⟩ := c z
    exact ⟨t, xs, e1, e2, k _ _ e2 e3⟩
theorem Dn.k0 {H H' : Hp} {v : V} {d : PyData} (h : Dn K m H v d) (k : Keep [] H H') : Dn K m H' v d := h.keep (Keep.of_nil k)
theorem Dn.lst {H : Hp} {l : Addr} {xs : List V} {ds : List PyData} (n : l ∉ m) (e : H l = some (.lst xs)) (h : DqAll K (off (l :: m) H) xs ds) : Dn K m H (.ref l) (.list ds) :=
  ⟨.lst (SqL.of (by rw [off_out n]; exact e)) (h.mono off_less), .inr ⟨l, xs, ds, rfl, rfl, n, e, h⟩, fun z => by cases z⟩
inductive DnAll (K : PySem.W.Frag) (m : List Addr) (H : Hp) : List V → List PyData → Prop
  | nil : DnAll K m H [] []
  | cons {v : V} {vs : List V} {d : PyData} {ds : List PyData} : Dn K m H v d → DnAll K m H vs ds → DnAll K m H (v :: vs) (d :: ds)
theorem DnAll.keep {H H' : Hp} (k : Keep m H H') : ∀ {vs : List V} {ds : List PyData}, DnAll K m H vs ds → DnAll K m H' vs ds
  | _, _, .nil => .nil
  | _, _, .cons h t => .cons (h.keep k) (DnAll.keep k t)
theorem DnAll.k0 {H H' : Hp} {vs : List V} {ds : List PyData} (h : DnAll K m H vs ds) (k : Keep [] H H') : DnAll K m H' vs ds := h.keep (Keep.of_nil k)
theorem DnAll.length {H : Hp} : ∀ {vs : List V} {ds : List PyData}, DnAll K m H vs ds → vs.length = ds.length
  | _, _, .nil => rfl
  | _, _, .cons _ t => congrArg (· + 1) t.length
theorem DnAll.append {H : Hp} : ∀ {vs us : List V} {ds es : List PyData}, DnAll K m H vs ds → DnAll K m H us es → DnAll K m H (vs ++ us) (ds ++ es)
  | _, _, _, _, .nil, h => h
  | _, _, _, _, .cons h t, z => .cons h (DnAll.append t z)
theorem DnAll.at_ {H : Hp} : ∀ {vs : List V} {ds : List PyData}, DnAll K m H vs ds → ∀ {i : Nat} {v : V}, vs[i]? = some v → ∃ d, ds[i]? = some d ∧ Dn K m H v d
  | _, _, .nil, i, v, e => by simp at e
  | _, _, .cons h t, 0, v, e => by
    simp at e
    subst e
    exact ⟨_, rfl, h⟩
  | _, _, .cons h t, i + 1, v, e => by
    obtain ⟨d, e1, h1⟩ := t.at_ (i := i) (v := v) (by simpa using e)
    exact ⟨d, by simpa using e1, h1⟩
def LnE (K : PySem.W.Frag) (m : List Addr) (te : TE) (σ : L2.St) (H0 : Hp) (d : PyData) : Prop := ∀ H, Keep [] H0 H → ∀ Q : VK, (∀ v H', Keep [] H H' → Dn K m H' v d → Q v H') → te σ H Q
def LnA (K : PySem.W.Frag) (m : List Addr) (ta : TA) (σ : L2.St) (H0 : Hp) (ds : List PyData) : Prop := ∀ H, Keep [] H0 H → ∀ Q : List V → Hp → Prop, (∀ xs H', Keep [] H H' → DnAll K m H' xs ds → Q xs H') → ta σ H Q
theorem LnA.nil : LnA K m tNil σ H0 [] := fun H _ Q k => k [] H Keep.refl .nil
theorem LnA.cons {te : TE} {ta : TA} {d : PyData} {ds : List PyData} (h : LnE K m te σ H0 d) (t : LnA K m ta σ H0 ds) : LnA K m (tCons te ta) σ H0 (d :: ds) :=
  fun H k0 Q k => h H k0 _ fun v H1 k1 d1 => t H1 (k0.trans k1) _ fun xs H2 k2 d2 => k _ _ (k1.trans k2) (.cons (d1.k0 k2) d2)
theorem LnE.of {te : TE} {d : PyData} (h : LqE K m te σ H0 d) (n : isLs d = false := by rfl) (t : isTu d = false := by rfl) : LnE K m te σ H0 d := fun H k0 Q k => h H k0 _ fun v H1 k1 d1 => k v H1 k1 (.of d1 n t)
theorem LnE.tup {ta : TA} {ds : List PyData} (l : Live m H0) (h : LqA K m ta σ H0 ds) (n : Nat.ble ds.length 100 = true := by rfl) : LnE K m (tTup ta) σ H0 (.tuple ds) :=
  fun H k0 Q k => h H k0 _ fun xs H1 k1 d1 => ⟨by rw [d1.length]; exact Nat.le_trans (Nat.le_of_ble_eq_true n) (by decide), fun p hp =>
    k _ _ (k1.trans (Keep.new hp)) (.tup (((l.keep k0).keep k1).out hp) upd_same (d1.mono (Keep.new hp).off0))⟩
theorem LnE.lst {ta : TA} {ds : List PyData} (l : Live m H0) (h : LqA K m ta σ H0 ds) (n : Nat.ble ds.length 100 = true := by rfl) : LnE K m (tLst ta) σ H0 (.list ds) :=
  fun H k0 Q k => h H k0 _ fun xs H1 k1 d1 => ⟨by rw [d1.length]; exact Nat.le_trans (Nat.le_of_ble_eq_true n) (by decide), fun p hp =>
    k _ _ (k1.trans (Keep.new hp)) (.lst (((l.keep k0).keep k1).out hp) upd_same (d1.mono (off_fresh hp)))⟩
theorem LnA.lst {ta : TA} {ds : List PyData} {H : Hp} {Q : VK} (h : LnA K m ta σ H0 ds) (k0 : Keep [] H0 H) (n : Nat.ble ds.length 100 = true) (k : ∀ p xs H', H p = none → Keep [] H H' → H' p = some (.lst xs) → DnAll K m H' xs ds → Q (.ref p) H') : tLst ta σ H Q :=
  h H k0 _ fun xs H1 k1 d1 => ⟨by rw [d1.length]; exact Nat.le_trans (Nat.le_of_ble_eq_true n) (by decide), fun p hp => k p xs _ (k1.free (by simp) hp) (k1.trans (Keep.new hp)) upd_same (d1.k0 (Keep.new hp))⟩
theorem LnA.cat {i : Nat} {ta : TA} {p : Addr} {xs : List V} {ds es : List PyData} {H : Hp} {Q : VK} (hv : σ[i]? = some (some (.ref p))) (hp : H p = some (.lst xs)) (hd : DnAll K m H xs ds) (dl : ds.length ≤ 400) (h : LnA K m ta σ H es) (n : Nat.ble es.length 100 = true)
    (k : ∀ q ys H', H q = none → Keep [] H H' → H' q = some (.lst ys) → DnAll K m H' ys (ds ++ es) → Q (.ref q) H') : tOp rCat (tVar i) (tLst ta) σ H Q := by
  refine ⟨_, hv, LnA.lst h Keep.refl n fun r zs H1 nr k1 e1 d1 => ?_⟩
  refine ⟨p, r, xs, zs, rfl, rfl, k1.to hp, e1, ?_, fun q hq => ?_⟩
  · rw [hd.length, d1.length]
    have := Nat.le_of_ble_eq_true n
    exact Nat.le_trans (show ds.length + es.length ≤ 500 by omega) (by decide)
  · exact k q _ _ (k1.free (by simp) hq) (k1.trans (Keep.new hq)) upd_same (((hd.k0 k1).append d1).k0 (Keep.new hq))
theorem Dn.less {H : Hp} {D : Addr} {v : V} {d : PyData} (h : Dn K (D :: m) H v d) : Dn K m H v d := by
  obtain ⟨a, b, c⟩ := h
  refine ⟨a.mono off_less, ?_, fun z => ?_⟩
  · rcases b with b | ⟨l, xs, ds, e1, e2, e3, e4, e5⟩
    · exact .inl b
    · refine .inr ⟨l, xs, ds, e1, e2, fun z => e3 (List.mem_cons_of_mem _ z), e4, e5.mono fun b o e => ?_⟩
      obtain ⟨n, e⟩ := off_some e
      rw [off_out (by
        intro z
        rcases List.mem_cons.mp z with z | z
        · exact n (by rw [z]; exact List.mem_cons_self)
        · exact n (List.mem_cons_of_mem _ (List.mem_cons_of_mem _ z)))]
      exact e
  · obtain ⟨t, xs, e1, e2, e3⟩ := c z
    exact ⟨t, xs, e1, fun z => e2 (List.mem_cons_of_mem _ z), e3⟩
theorem DnAll.less {H : Hp} {D : Addr} : ∀ {vs : List V} {ds : List PyData}, DnAll K (D :: m) H vs ds → DnAll K m H vs ds
  | _, _, .nil => .nil
  | _, _, .cons h t => .cons h.less (DnAll.less t)
/-- a comprehension over a list of such, its elements new data -/
theorem lcN {j : Nat} {σ : L2.St} {H : Hp} {t : Addr} {xs : List V} {ds : List PyData} {f : PyData → PyData} {te : TE} {D : Addr} {Qd : Hp → Prop} (lv : Live m H) (hq : SqL K H t xs) (hd : DqAll K (off m H) xs ds) (hl : ds.length ≤ 100)
    (he : ∀ H2, Keep [] H H2 → Live (D :: m) H2 → ∀ v d, d ∈ ds → Dq K (off (D :: m) H2) v d → LnE K (D :: m) te ((σ.set j none).set j (some v)) H2 (f d)) (hD : H D = none)
    (k : ∀ ys H', Keep [] H H' → H' D = some (.lst ys) → DnAll K m H' ys (ds.map f) → Qd H') :
    ∃ W : Nat → Nat → Hp → Prop, (∃ m, W 0 m (upd H D (.lst []))) ∧ ∀ i m H, W i m H →
      ((Itl K t).stop i H ∧ Qd H) ∨ ((Itl K t).go i H ∧ ∃ Nx : Hp → Prop, (∀ H', Nx H' → ∃ m', m' < m ∧ W (i + 1) m' H') ∧ ∀ x H', (Itl K t).yld i H x H' → gName j x (wipe σ [j]) H' fun σ2 H2 => wipe σ2 [j] = wipe σ [j] ∧ tYes σ2 H2 fun b H3 =>
        if b = true then te σ2 H3 fun y H4 => ∃ acc, H4 D = some (.lst acc) ∧ acc.length < sizeLine ∧ Nx (upd H4 D (.lst (acc ++ [y]))) else Nx H3) := by
  have len := hd.length
  refine lc_list (xs := xs) (Qd := Qd) (fun i H' => ∃ acc, Keep [] H H' ∧ H' D = some (.lst acc) ∧ acc.length = i ∧ DnAll K (D :: m) H' acc ((ds.take i).map f)) ⟨[], Keep.new hD, upd_same, rfl, by simpa using DnAll.nil⟩ ?_ ?_ ?_
  · rintro n H' _ ⟨acc, k1, _⟩
    exact k1.same.seq hq
  · rintro n x H' hx ⟨acc, k1, e1, en, da⟩
    obtain ⟨d, hd', dx⟩ := hd.get hx
    have hn : n < ds.length := by
      rcases Nat.lt_or_ge n ds.length with h | h
      · exact h
      · rw [List.getElem?_eq_none h] at hd'
        cases hd'
    refine ⟨?_, ?_⟩
    · show ((σ.set j none).set j (some x)).set j none = σ.set j none
      rw [List.set_set, List.set_set]
    · show te _ H' _
      refine he H' k1 (Live.cons e1 (lv.keep k1)) x d (List.mem_of_getElem? hd') (dx.mono (off_past k1 hD)) H' Keep.refl _ fun y H2 k2 dy => ?_
      refine ⟨acc, k2.to e1, ?_, acc ++ [y], Keep.own (k1.trans k2) hD, upd_same, by rw [List.length_append, en]; rfl, ?_⟩
      · rw [en]
        exact Nat.lt_of_lt_of_le (show n < 101 by omega) (by decide)
      · rw [List.take_succ, hd', Option.toList_some, List.map_append]
        exact ((da.k0 k2).append (.cons dy .nil)).keep (Keep.at_ (by simp))
  · rintro H' ⟨acc, k1, e1, en, da⟩
    rw [len, List.take_length] at da
    exact k acc H' k1 e1 da.less
/-! ### how large data are -/
structure Fit (w n : Nat) (d : PyData) : Prop where
  sh : d.showable = true
  lv : d.leavesShort 13 = true
  wt : d.weight ≤ w
  dp : d.depth ≤ n
theorem Fit.mono {w n w' n' : Nat} {d : PyData} (h : Fit w n d) (hw : w ≤ w') (hn : n ≤ n') : Fit w' n' d := ⟨h.sh, h.lv, Nat.le_trans h.wt hw, Nat.le_trans h.dp hn⟩
def fitB (w n : Nat) (d : PyData) : Bool := d.showable && (d.leavesShort 13 && (decide (d.weight ≤ w) && decide (d.depth ≤ n)))
theorem Fit.ofB {w n : Nat} {d : PyData} (f : fitB w n d = true) : Fit w n d := by
  obtain ⟨h1, f⟩ := He.ba f
  obtain ⟨h2, f⟩ := He.ba f
  obtain ⟨h3, h4⟩ := He.ba f
  exact ⟨h1, h2, of_decide_eq_true h3, of_decide_eq_true h4⟩
theorem Fit.fits {d : PyData} (h : Fit 1048576 60 d) : fits d = true := by
  unfold SM.fits
  rw [h.sh, h.lv, decide_eq_true h.wt, decide_eq_true h.dp]
  rfl
theorem fitAll {w n : Nat} : ∀ (ds : List PyData), (∀ d ∈ ds, Fit w n d) → PyData.showableAll ds = true ∧ PyData.leavesShortAll 13 ds = true ∧ PyData.weightAll ds ≤ ds.length * (w + 1) ∧ PyData.depthAll ds ≤ n
  | [], _ => ⟨by rw [PyData.showableAll], by rw [PyData.leavesShortAll], by rw [PyData.weightAll]; exact Nat.zero_le _, by rw [PyData.depthAll]; exact Nat.zero_le _⟩
  | d :: ds, h => by
    obtain ⟨a, b, c, e⟩ := fitAll ds fun z hz => h z (List.mem_cons_of_mem _ hz)
    obtain ⟨a1, b1, c1, e1⟩ := h d List.mem_cons_self
    refine ⟨by rw [PyData.showableAll, a, a1]; rfl, by rw [PyData.leavesShortAll, b, b1]; rfl, ?_, ?_⟩
    · rw [PyData.weightAll, List.length_cons, Nat.succ_mul]
      omega
    · rw [PyData.depthAll]
      exact Nat.max_le.mpr ⟨e1, e⟩
theorem Fit.list {w n k : Nat} {ds : List PyData} (h : ∀ d ∈ ds, Fit w n d) (l : ds.length ≤ k) : Fit (k * (w + 1)) (n + 1) (.list ds) := by
  obtain ⟨a, b, c, e⟩ := fitAll ds h
  refine ⟨by rw [PyData.showable]; exact a, by rw [PyData.leavesShort]; exact b, ?_, ?_⟩
  · rw [PyData.weight]
    exact Nat.le_trans c (Nat.mul_le_mul_right _ l)
  · rw [PyData.depth]
    omega
theorem Fit.tuple {w n k : Nat} {ds : List PyData} (h : ∀ d ∈ ds, Fit w n d) (l : ds.length ≤ k) : Fit (k * (w + 1)) (n + 1) (.tuple ds) := by
  obtain ⟨a, b, c, e⟩ := fitAll ds h
  refine ⟨by rw [PyData.showable]; exact a, by rw [PyData.leavesShort]; exact b, ?_, ?_⟩
  · rw [PyData.weight]
    exact Nat.le_trans c (Nat.mul_le_mul_right _ l)
  · rw [PyData.depth]
    omega
theorem Fit.bool {w n : Nat} (b : Bool) : Fit w n (.bool b) := ⟨by rw [PyData.showable], by rw [PyData.leavesShort], by rw [PyData.weight]; exact Nat.zero_le _, by rw [PyData.depth]; exact Nat.zero_le _⟩
theorem Fit.str {w n : Nat} {x : Str} (h : PyData.strOk x = true) (l : x.length ≤ w) : Fit w n (.str x) := by
  refine ⟨by rw [PyData.showable], ?_, ?_, by rw [PyData.depth]; exact Nat.zero_le _⟩
  · rw [PyData.leavesShort, List.all_eq_true]
    intro c hc
    have h1 : (x.cps.all (· < 0x110000)) = true := h
    rw [Array.all_eq_true'] at h1
    have := of_decide_eq_true (h1 c (Array.mem_toList_iff.mp hc))
    exact decide_eq_true (Nat.lt_trans this (by decide))
  · rw [PyData.weight]
    exact l
end SM
set_option Elab.async false
set_option linter.all false
set_option maxRecDepth 100000
set_option maxHeartbeats 2000000
/-! {k: i for i, k in enumerate(tuple)}; comprehensions of which only what stays is told. -/
namespace SM
open PySem PySem.Spec PyProof.Rows L2
theorem dc_enumT {K : PySem.W.Frag} {a : Addr} {xs : List V} {g : TG} {tt : TT} {tk tv : TE} {vs : List Nat} {σ : L2.St} {H1 : Hp} {D : Addr} {Qd : Hp → Prop} (Pv : Nat → Hp → Prop) (h0 : Pv 0 (upd H1 D (.dK []))) (hl : ∀ i H, i ≤ xs.length → Pv i H → SqT K H a xs)
    (hs : ∀ (i : Nat) x T H, xs[i]? = some x → Pv i H → H T = none → g (.ref T) (wipe σ vs) (upd H T (.tup [.int (i : Int), x])) fun σ2 H2 => wipe σ2 vs = wipe σ vs ∧ tt σ2 H2 fun b H3 =>
      if b = true then tk σ2 H3 fun y H4 => tv σ2 H4 fun z H5 => ∃ kvs k, y = kV k ∧ H5 D = some (.dK kvs) ∧ kvs.length < sizeLine ∧ Pv (i + 1) (upd H5 D (.dK (putK kvs k z))) else Pv (i + 1) H3) (hd : ∀ H, Pv xs.length H → Qd H) :
    ∃ W : Nat → Nat → Hp → Prop, (∃ m, W 0 m (upd H1 D (.dK []))) ∧ ∀ i m H, W i m H →
      ((ItT K a).stop i H ∧ Qd H) ∨ ((ItT K a).go i H ∧ ∃ Nx : Hp → Prop, (∀ H', Nx H' → ∃ m', m' < m ∧ W (i + 1) m' H') ∧ ∀ x H', (ItT K a).yld i H x H' → g x (wipe σ vs) H' fun σ2 H2 => wipe σ2 vs = wipe σ vs ∧ tt σ2 H2 fun b H3 =>
        if b = true then tk σ2 H3 fun y H4 => tv σ2 H4 fun z H5 => ∃ kvs k, y = kV k ∧ H5 D = some (.dK kvs) ∧ kvs.length < sizeLine ∧ Nx (upd H5 D (.dK (putK kvs k z))) else Nx H3) := by
  refine ⟨fun i m H => m + i = xs.length ∧ Pv i H, ⟨xs.length, rfl, h0⟩, ?_⟩
  intro i m H w
  obtain ⟨em, p⟩ := w
  have sq := hl i H (by omega) p
  by_cases c : i < xs.length
  · right
    refine ⟨⟨xs, xs[i], sq, List.getElem?_eq_getElem c⟩, Pv (i + 1), fun H' q => ⟨m - 1, by omega, by omega, q⟩, fun v H' y => ?_⟩
    obtain ⟨T, x, rfl, hT, rfl, hx⟩ := y
    exact hs i x T H (hx xs sq) p hT
  · left
    have e : i = xs.length := by omega
    subst e
    exact ⟨⟨xs, sq, rfl⟩, hd H p⟩
variable {K : PySem.W.Frag} {σ : L2.St} {H0 : Hp}
/-- from H0 on, te has a value and leaves what stands -/
def LaE (te : TE) (σ : L2.St) (H0 : Hp) : Prop := ∀ H, Keep [] H0 H → ∀ Q : VK, (∀ v H', Keep [] H H' → Q v H') → te σ H Q
def LaA (ta : TA) (σ : L2.St) (H0 : Hp) (n : Nat) : Prop := ∀ H, Keep [] H0 H → ∀ Q : List V → Hp → Prop, (∀ vs H', Keep [] H H' → vs.length = n → Q vs H') → ta σ H Q
theorem LaA.nil : LaA tNil σ H0 0 := fun H _ Q k => k [] H Keep.refl rfl
theorem LaA.cons {te : TE} {ta : TA} {n : Nat} (h : LaE te σ H0) (t : LaA ta σ H0 n) : LaA (tCons te ta) σ H0 (n + 1) :=
  fun H k0 Q k => h H k0 _ fun v H1 k1 => t H1 (k0.trans k1) _ fun vs H2 k2 e => k (v :: vs) H2 (k1.trans k2) (by rw [List.length_cons, e])
theorem LaE.tup {ta : TA} {n : Nat} (h : LaA ta σ H0 n) (l : Nat.ble n 100 = true := by rfl) : LaE (tTup ta) σ H0 :=
  fun H k0 Q k => h H k0 _ fun vs H1 k1 e => ⟨by rw [e]; exact Nat.le_trans (Nat.le_of_ble_eq_true l) (by decide), fun p hp => k _ _ (k1.trans (Keep.new hp))⟩
theorem LaE.var {i : Nat} {v : V} (h : σ[i]? = some (some v)) : LaE (tVar i) σ H0 := fun H _ Q k => ⟨v, h, k _ _ Keep.refl⟩
/-- d[x] -/
theorem LaE.dget {i j : Nat} {d : Addr} {kvs : List (Key × V)} {x : Str} {v : V} (hi : σ[i]? = some (some (.ref d))) (hj : σ[j]? = some (some (.str x))) (hd : H0 d = some (.dK kvs)) (hv : valV kvs (.inr x) = some v) : LaE (tDGet (tVar i) (tVar j)) σ H0 :=
  fun H k0 Q k => ⟨_, hi, _, hj, d, v, rfl, by rw [← hv]; exact DGet.k (k := .inr x) (k0.to hd), k v H Keep.refl⟩
/-- tuple([.. for .. in a tuple]) -/
theorem LaE.tupLc {tx : TE} {g : TG} {te : TE} {vs : List Nat} {xs : List V} (hl : xs.length ≤ 100)
    (hx : ∀ H, Keep [] H0 H → ∀ Q : VK, (∀ t H', Keep [] H H' → SqT K H' t xs → Q (.ref t) H') → tx σ H Q)
    (he : ∀ (i : Nat) x H2, xs[i]? = some x → Keep [] H0 H2 → ∀ Q' : VK, (∀ y H', Keep [] H2 H' → Q' y H') → g x (wipe σ vs) H2 fun σ2 H3 => wipe σ2 vs = wipe σ vs ∧ te σ2 H3 Q') : LaE (teTup K (tLc (iTup K tx) g tYes te vs)) σ H0 := by
  intro H k0 Q k
  refine hx H k0 _ fun t H1 k1 hq => ⟨t, rfl, ⟨xs, hq⟩, fun D hD => ?_⟩
  refine lc_tup (xs := xs) (Qd := fun H' => ∃ p ys, [V.ref D] = [.ref p] ∧ ((SqL K H' p ys ∧ ∀ l, H' l = none → Q (.ref l) (upd H' l (.tup ys))) ∨ (SqT K H' p ys ∧ Q (.ref p) H'))) (fun i H' => ∃ acc, Keep [] H1 H' ∧ H' D = some (.lst acc) ∧ acc.length = i) ⟨[], Keep.new hD, upd_same, rfl⟩ ?_ ?_ ?_
  · rintro n H' _ ⟨acc, k2, _⟩
    exact seqT_keep k2 Soft.nil hq
  · rintro n x H' hx' ⟨acc, k2, e2, en⟩
    have hn : n < xs.length := (List.getElem?_eq_some_iff.mp hx').1
    refine he n x H' hx' (k0.trans (k1.trans k2)) _ fun y H2 k3 => ?_
    refine ⟨acc, k3.to e2, ?_, acc ++ [y], Keep.own (k2.trans k3) hD, upd_same, by rw [List.length_append, en]; rfl⟩
    rw [en]
    exact Nat.lt_of_lt_of_le (show n < 101 by omega) (by decide)
  · rintro H' ⟨acc, k2, e2, en⟩
    exact ⟨D, acc, rfl, .inl ⟨SqL.of e2, fun l hl => k _ _ (k1.trans (k2.trans (Keep.new hl)))⟩⟩
/-- [x for x in a tuple of texts if ..] -/
theorem lcF {j : Nat} {σ : L2.St} {H : Hp} {t : Addr} {ns : List Str} {f : Str → Bool} {tt : TT} {D : Addr} {Qd : Hp → Prop} (hj : j < σ.length) (hq : SqT K H t (ns.map V.str)) (hl : ns.length ≤ 1000) (hD : H D = none)
    (ht : ∀ H2, Keep [] H H2 → ∀ s, s ∈ ns → ∀ Q : Bool → Hp → Prop, (∀ H', Keep [] H2 H' → Q (f s) H') → tt ((σ.set j none).set j (some (.str s))) H2 Q)
    (k : ∀ H', Keep [] H H' → H' D = some (.lst ((ns.filter f).map V.str)) → Qd H') :
    ∃ W : Nat → Nat → Hp → Prop, (∃ m, W 0 m (upd H D (.lst []))) ∧ ∀ i m H, W i m H →
      ((Itt K t).stop i H ∧ Qd H) ∨ ((Itt K t).go i H ∧ ∃ Nx : Hp → Prop, (∀ H', Nx H' → ∃ m', m' < m ∧ W (i + 1) m' H') ∧ ∀ x H', (Itt K t).yld i H x H' → gName j x (wipe σ [j]) H' fun σ2 H2 => wipe σ2 [j] = wipe σ [j] ∧ tt σ2 H2 fun b H3 =>
        if b = true then tVar j σ2 H3 fun y H4 => ∃ acc, H4 D = some (.lst acc) ∧ acc.length < sizeLine ∧ Nx (upd H4 D (.lst (acc ++ [y]))) else Nx H3) := by
  refine lc_tup (xs := ns.map V.str) (Qd := Qd) (fun i H' => Keep [] H H' ∧ H' D = some (.lst (((ns.take i).filter f).map V.str))) ⟨Keep.new hD, upd_same⟩ ?_ ?_ ?_
  · rintro n H' _ ⟨k1, _⟩
    exact seqT_keep k1 Soft.nil hq
  · rintro n x H' hx ⟨k1, e1⟩
    rw [List.getElem?_map] at hx
    cases e : ns[n]? with
    | none =>
      rw [e] at hx
      cases hx
    | some s =>
      rw [e] at hx
      cases hx
      have hn : n < ns.length := (List.getElem?_eq_some_iff.mp e).1
      refine ⟨?_, ?_⟩
      · show ((σ.set j none).set j (some (.str s))).set j none = σ.set j none
        rw [List.set_set, List.set_set]
      · show tt _ H' _
        refine ht H' k1 s (List.mem_of_getElem? e) _ fun H2 k2 => ?_
        have few : ((ns.take n).filter f).length ≤ n := Nat.le_trans (List.length_filter_le _ _) (by rw [List.length_take]; omega)
        cases c : f s with
        | true =>
          rw [if_pos rfl]
          refine ⟨.str s, by simp [wipe, hj], _, k2.to e1, ?_, Keep.own (k1.trans k2) hD, ?_⟩
          · rw [List.length_map]
            exact Nat.lt_of_lt_of_le (show _ < 1001 by omega) (by decide)
          · rw [upd_same, List.take_succ, e, Option.toList_some, List.filter_append, List.map_append]
            rw [List.filter_cons, if_pos c, List.filter_nil]
            rfl
        | false =>
          rw [if_neg Bool.false_ne_true]
          refine ⟨k1.trans k2, ?_⟩
          rw [k2.to e1, List.take_succ, e, Option.toList_some, List.filter_append, List.filter_cons, c, List.filter_nil, if_neg Bool.false_ne_true, List.append_nil]
  · rintro H' ⟨k1, e1⟩
    rw [List.length_map, List.take_length] at e1
    exact k H' k1 e1
/-- [x for x in a list of texts if ..] -/
theorem lcFL {j : Nat} {σ : L2.St} {H : Hp} {t : Addr} {ns : List Str} {f : Str → Bool} {tt : TT} {D : Addr} {Qd : Hp → Prop} (hj : j < σ.length) (hq : SqL K H t (ns.map V.str)) (hl : ns.length ≤ 1000) (hD : H D = none)
    (ht : ∀ H2, Keep [] H H2 → ∀ s, s ∈ ns → ∀ Q : Bool → Hp → Prop, (∀ H', Keep [] H2 H' → Q (f s) H') → tt ((σ.set j none).set j (some (.str s))) H2 Q)
    (k : ∀ H', Keep [] H H' → H' D = some (.lst ((ns.filter f).map V.str)) → Qd H') :
    ∃ W : Nat → Nat → Hp → Prop, (∃ m, W 0 m (upd H D (.lst []))) ∧ ∀ i m H, W i m H →
      ((Itl K t).stop i H ∧ Qd H) ∨ ((Itl K t).go i H ∧ ∃ Nx : Hp → Prop, (∀ H', Nx H' → ∃ m', m' < m ∧ W (i + 1) m' H') ∧ ∀ x H', (Itl K t).yld i H x H' → gName j x (wipe σ [j]) H' fun σ2 H2 => wipe σ2 [j] = wipe σ [j] ∧ tt σ2 H2 fun b H3 =>
        if b = true then tVar j σ2 H3 fun y H4 => ∃ acc, H4 D = some (.lst acc) ∧ acc.length < sizeLine ∧ Nx (upd H4 D (.lst (acc ++ [y]))) else Nx H3) := by
  refine lc_list (xs := ns.map V.str) (Qd := Qd) (fun i H' => Keep [] H H' ∧ H' D = some (.lst (((ns.take i).filter f).map V.str))) ⟨Keep.new hD, upd_same⟩ ?_ ?_ ?_
  · rintro n H' _ ⟨k1, _⟩
    exact k1.same.seq hq
  · rintro n x H' hx ⟨k1, e1⟩
    rw [List.getElem?_map] at hx
    cases e : ns[n]? with
    | none =>
      rw [e] at hx
      cases hx
    | some s =>
      rw [e] at hx
      cases hx
      have hn : n < ns.length := (List.getElem?_eq_some_iff.mp e).1
      refine ⟨?_, ?_⟩
      · show ((σ.set j none).set j (some (.str s))).set j none = σ.set j none
        rw [List.set_set, List.set_set]
      · show tt _ H' _
        refine ht H' k1 s (List.mem_of_getElem? e) _ fun H2 k2 => ?_
        have few : ((ns.take n).filter f).length ≤ n := Nat.le_trans (List.length_filter_le _ _) (by rw [List.length_take]; omega)
        cases c : f s with
        | true =>
          rw [if_pos rfl]
          refine ⟨.str s, by simp [wipe, hj], _, k2.to e1, ?_, Keep.own (k1.trans k2) hD, ?_⟩
          · rw [List.length_map]
            exact Nat.lt_of_lt_of_le (show _ < 1001 by omega) (by decide)
          · rw [upd_same, List.take_succ, e, Option.toList_some, List.filter_append, List.map_append]
            rw [List.filter_cons, if_pos c, List.filter_nil]
            rfl
        | false =>
          rw [if_neg Bool.false_ne_true]
          refine ⟨k1.trans k2, ?_⟩
          rw [k2.to e1, List.take_succ, e, Option.toList_some, List.filter_append, List.filter_cons, c, List.filter_nil, if_neg Bool.false_ne_true, List.append_nil]
  · rintro H' ⟨k1, e1⟩
    rw [List.length_map, List.take_length] at e1
    exact k H' k1 e1
end SM
set_option Elab.async false
set_option linter.all false
set_option maxRecDepth 100000
set_option maxHeartbeats 4000000
/-! try with more than one clause, each with a name for what is caught -/
namespace SM
open PySem PySem.Spec PyProof.Rows L2
/-- behind a suite the name in slot i is gone -/
def endsOff (D : Ends) (i : Nat) : Ends :=
  { nx := fun τ G => D.nx (τ.set i none) G
    rt := D.rt
    bk := fun τ G => D.bk (τ.set i none) G
    ct := fun τ G => D.ct (τ.set i none) G }
abbrev SuiteT := Addr → Value → Option Addr → TS
/-- what the clauses ask of what the body raises -/
def wNamed (K : PySem.W.Frag) (W0 : WX) (D : Ends) (i : Nat) : List (Value × SuiteT) → WX
  | [] => W0
  | (k, u) :: more => fun cl dd τ G => ∃ y, PySem.W.exmOne K cl k = some y ∧
      (y = true → ∀ p, G p = none → u p cl dd (endsOff D i) (τ.set i (some (.ref p))) G) ∧
      (y = false → wNamed K W0 D i more cl dd τ G)
inductive Clauses (X : Cx) (n : Str) : List ExceptHandler → List (Value × SuiteT) → Prop
  | none : Clauses X n [] []
  | more {x : Str} {k : Value} {u : SuiteT} {b : Stmt} {bs : List Stmt} {p1 p2 : Pos} {hs : List ExceptHandler} {l : List (Value × SuiteT)}
      (nm : Names X x k)
      (su : ∀ (p : Addr) (o : Obj) (cl : Value) (dd : Option Addr) (pins : List (Addr × Obj)), Zc cl dd o → (∃ fs, o.data = .fields fs) →
        PSs (X.suite p ((p, o) :: pins)) (b :: bs) (u p cl dd))
      (rest : Clauses X n hs l) : Clauses X n (.ExceptHandler (some (.Name x p1)) (some n) (b :: bs) p2 :: hs) ((k, u) :: l)
section
variable {X : Cx} {n : Str} {i : Nat} {body : List Stmt} {h1 : ExceptHandler} {hs : List ExceptHandler} {l : List (Value × SuiteT)} {tp : Pos} {tb : WX → TS} {W0 : WX}
theorem ps_tryNamed (e0 : X.stack = X.env :: X.outer) (e1 : X.env.frame = some X.env.locals) (nd : X.N.Nodup) (at_ : X.N[i]? = some n)
    (lo : X.env.kindOf n = some .local) (tk : Takes X W0)
    (hb : ∀ (W : WX) (pn : List (Addr × Obj)) (xe : Value → Shared → Prop), Takes (X.tr pn xe) W →
      PassesOwn (model X.prog X.w) X.A X.env xe → PSs (X.tr pn xe) body (tb W))
    (cs : Clauses X n (h1 :: hs) l) : PS X (.Try body (h1 :: hs) [] [] tp) (fun D τ G => tb (wNamed X.K W0 D i l) D τ G) := by
  refine ⟨fun pins st τ G D J0 q0 => ?_⟩
  have okx := J0.ok
  have frame : X.A.frames = some (X.env :: X.outer) := by
    rw [okx.frames, e0]
  have hloc : Loc X.env.scope n := .inl lo
  refine wpAny_Try_except ?_
  let landing : Value → Shared → Prop := fun v sa =>
    wpAny (model X.prog X.w) X.A (noteFrame v X.env) (fun _ sb =>
      wpAny (model X.prog X.w) X.A (setFlight v none) (fun _ sc =>
        wpAny (model X.prog X.w) X.A (handleBy v X.env (h1 :: hs)) (SP X pins D) X.xe sc) X.xe sb) X.xe sa
  have walked := (hb (wNamed X.K W0 D i l) (X.pn ++ pins) landing (fun u sx caught => ?_) PassesOwn.looking).run [] st τ G D (J0.toTry _) q0
  · refine wpAny_mono walked (fun fl sz z => ?_) (fun v sz z => z)
    cases fl with
    | next =>
      obtain ⟨τ1, G1, Jz, q⟩ := z
      exact wpAny_execs_nil ⟨τ1, G1, Jz.ofTry okx, q⟩
    | brk =>
      obtain ⟨τ1, G1, Jz, q⟩ := z
      exact ⟨τ1, G1, Jz.ofTry okx, q⟩
    | cont =>
      obtain ⟨τ1, G1, Jz, q⟩ := z
      exact ⟨τ1, G1, Jz.ofTry okx, q⟩
    | ret u =>
      obtain ⟨v, τ1, G1, Jz, r, q⟩ := z
      exact ⟨v, τ1, G1, Jz.ofTry okx, r, q⟩
  · obtain ⟨p, B, sB, pins1, τ1, G1, cl, dd, rfl, Jb, nb, up, sk, np, os, ag, wish⟩ := caught
    have J1 : Inv X pins τ1 G1 sB := Jb.ofTry okx
    have sk1 : Sky B (X.env :: X.outer) p (Zc cl dd) X.env.locals sx.heap := by
      rw [← e0]
      exact sk
    show wpAny (model X.prog X.w) X.A (noteFrame (.ref p) X.env) _ _ _
    refine Sky.land Zc.steady frame e1 sk1 fun hA flA upA => ?_
    have JA : Inv X pins τ1 G1 { sx with heap := hA } := J1.landed nb flA.1 (up.trans upA) os ag
    obtain ⟨oA, fA, atA, zA, dA⟩ := flA.there
    have away : p ∉ frs (X.env :: X.outer) := fun hm => by
      obtain ⟨_, o', e', nf⟩ := flA.2.2.1.mem hm
      rw [atA] at e'
      cases e'
      exact nf _ dA
    have offL : p ≠ X.env.locals := fun z => away (List.mem_filterMap.mpr ⟨X.env, List.mem_cons_self, by rw [e1, z]⟩)
    have offF : p ∉ X.fs := fun hm => by
      obtain ⟨ev, hev, q⟩ := List.mem_filterMap.mp hm
      exact away (List.mem_filterMap.mpr ⟨ev, List.mem_cons_of_mem _ hev, q⟩)
    have SA := JA.suite atA dA np offL offF
    have each : ∀ {hs' : List ExceptHandler} {l' : List (Value × SuiteT)}, Clauses X n hs' l' → wNamed X.K W0 D i l' cl dd τ1 G1 →
        wpAny (model X.prog X.w) X.A (handleBy (.ref p) X.env hs') (SP X pins D) X.xe { sx with heap := hA } := by
      intro hs' l' ck
      induction ck with
      | none =>
        intro wish
        refine wpAny_handleBy_nil ?_
        obtain ⟨_, _, _, o2, f2, T2, oT2, t2, at2, _, d2, s2, _⟩ := id flA
        unfold PySem.passOn
        refine wpAny_bind (wpAny_field at2 d2 s2 ?_)
        rw [if_neg (show ¬ ((Value.ref T2 == Value.none) = true) from by simp)]
        have out : wpAny (model X.prog X.w) X.A (setFlight (.ref p) X.env.frame) (fun _ sq =>
            wpAny (model X.prog X.w) X.A (throw (.ref p) : Sem Flow) (SP X pins D) X.xe sq) X.xe { sx with heap := hA } := by
          rw [e1]
          refine HandSPX.setFlight_upZ flA fun hB hhB upB => wpAny_throw (tk _ _ ?_)
          exact ⟨p, B, sB, pins, τ1, G1, cl, dd, rfl, J1, nb, (up.trans upA).trans upB, .inr (.inr (by rw [e0]; exact hhB)), np, os, ag, wish⟩
        first
          | exact wpAny_bind (wpAny_pure (wpAny_bind out))
          | exact wpAny_bind out
      | @more x k u b bs p1 p2 hs2 l2 nm su rest ih =>
        intro wish
        obtain ⟨y, hy, yes, no⟩ := wish
        refine wpAny_handleBy_cons (codeAny_handlers_test ?_) (by intro q; cases q)
        have kindOf : PySem.W.Looks (model X.prog X.w) hA (typeOf (.ref p)) cl := fun A' Q' E' s' kp q' =>
          wpAny_typeOf_ref (kp _ _ atA) (by rw [zA.1]; exact q')
        have match_ := PySem.W.exm_one (M := model X.prog X.w) (JA.kIn) kindOf hy
        have read : ∀ {Q' : Value → Shared → Prop} {E' : Value → Shared → Prop}, Q' k { sx with heap := hA } →
            wpAny (model X.prog X.w) (X.A.mark (some (.ref p))) (eval (.Name x p1) X.env) Q' E' { sx with heap := hA } := fun {Q' E'} q' => by
          obtain ⟨g1, g2, g3 | ⟨g3, g4, g5⟩⟩ := nm
          · exact ld_glob (X := X.suite p ((p, oA) :: (X.pn ++ pins))) SA g1 g3 q' g2
          · exact ld_blt (X := X.suite p ((p, oA) :: (X.pn ++ pins))) SA g1 g3 g4 q' g5 g2
        refine read (match_.here ?_)
        cases y with
        | false =>
          show wpAny _ X.A (handleBy (.ref p) X.env hs2) _ _ _
          exact ih (no rfl)
        | true =>
          refine codeAny_handlers_suite_as ?_
          refine HandSPX.lands_againZ flA fun hB flB upB => ?_
          have JB : Inv X pins τ1 G1 { sx with heap := hB } := J1.landed nb flB.1 ((up.trans upA).trans upB) os ag
          obtain ⟨oB, fB, atB, zB, dB⟩ := flB.there
          have SB := JB.suite atB dB np offL offF
          refine store_ok (X := X.suite p ((p, oB) :: (X.pn ++ pins))) (v := .ref p) SB nd at_ hloc rfl (fun sC SC => ?_) (.inr lo)
          refine wpAny_mono ((su p oB cl dd (X.pn ++ pins) zB ⟨_, dB⟩).run [] sC _ G1 _ SC (yes rfl p np)) (fun fl sD z => ?_) (fun _ _ z => False.elim z)
          have gone : ∀ {τ2 : L2.St} {G2 : Hp} {Q' : Shared → Prop}, Inv (X.suite p ((p, oB) :: (X.pn ++ pins))) [] τ2 G2 sD →
              (∀ sE, Inv X pins (τ2.set i none) G2 sE → Q' sE) →
              wpAny (model X.prog X.w) X.A (do bindName X.env n .none; unbindBehindTheSuite X.env n p2) (fun _ sE => Q' sE) X.xe sD :=
            fun {τ2 G2 Q'} S2 q' => gone_ok (S2.unsuite okx) nd at_ lo q'
          cases fl with
          | next =>
            obtain ⟨τ2, G2, S2, q⟩ := z
            exact gone S2 fun sE JE => ⟨_, _, JE, q⟩
          | brk =>
            obtain ⟨τ2, G2, S2, q⟩ := z
            exact gone S2 fun sE JE => ⟨_, _, JE, q⟩
          | cont =>
            obtain ⟨τ2, G2, S2, q⟩ := z
            exact gone S2 fun sE JE => ⟨_, _, JE, q⟩
          | ret u2 =>
            obtain ⟨v, τ2, G2, S2, r, q⟩ := z
            exact gone S2 fun sE JE => ⟨_, _, _, JE, r, q⟩
    exact each cs wish
end
/-! ### an instance made where its __init__ may raise -/
def tMakeS (C : Addr) (sp : Sp) (E : L2.St → XK) (t : TA) : TE := fun τ G Q => t τ G fun vs G1 =>
  ∀ x dx, G1 x = none → G1 dx = none → dx ≠ x → sp (.ref x :: vs) (upd (upd G1 dx (.own x)) x (.ins C dx [])) (fun v G2 => v = .non ∧ Q (.ref x) G2) (E τ)
section
variable {X : Cx} {CX : CXT} {j : Nat} {fi C : Addr} {fd : FuncData} {ps : List Str} {sp : Sp} {E : L2.St → XK} {x : Str} {p pos : Pos} {e : Expr} {es : List Expr} {t : TA}
theorem pe_makeS (M : Mk X.K C fi) (F : FnOk X.prog X.w X.K X.mg X.base CX j fi fd ps sp) (hr : Room (j + 1) X.A) (hg : Gl X x) (hm : X.mg x = some (.ref C))
    (bd : Binds X.K fd ps []) (hx : ∀ τ, PassesAt CX X τ (E τ)) (ha : PA X (e :: es) t) (hdb : (x == ("__debug__" : Str)) = false := by decide)
    (st : starEach (e :: es) X.env = (false, eval e X.env) :: starEach es X.env := by rfl) (pl : (backTo pos (starEach es X.env)).any (·.1) = false := by rfl) :
    PE X (.Call (.Name x p) (e :: es) [] pos) (tMakeS C sp E t) := by
  refine ⟨fun pins sh τ G Q J q => ?_⟩
  refine wpAny_Call_Name_kw (ld_glob J hg hm ?_ hdb)
  refine PySem.W.callWith_K (h₀ := X.base) J.ok.mod.kin M.kp (thn (ha.run pos pins sh τ G _ J q) fun us s1 got => ?_) st pl
  obtain ⟨vs, G1, J1, rv, want⟩ := got
  refine ⟨J1.kIn, ?_⟩
  have here := want (s1.heap.objs.size + 1) s1.heap.objs.size (J1.hok.fresh (Nat.le_succ _)) (J1.hok.fresh (Nat.le_refl _)) (Nat.ne_of_lt (Nat.lt_succ_self _))
  have J2 := Inv.made (C := C) J1
  have rall : Vals (V.ref (s1.heap.objs.size + 1) :: vs) (Value.ref (s1.heap.objs.size + 1) :: us) := .cons rfl rv
  have many : (Value.ref (s1.heap.objs.size + 1) :: us ++ []).length = ps.length := by
    rw [List.append_nil, ← rall.length]
    exact F.len _ _ _ _ here
  have bound := bd _ (Value.ref (s1.heap.objs.size + 1) :: us) J2.kIn many
  rw [List.append_nil] at bound
  refine wpAny_call (make_map (f := fi) J1.kIn M.makes M.init (beq_iff_eq.mp M.fn) ?_)
  refine codeAny_mono (F.run _ X.stack _ _ ⟨Value.ref (s1.heap.objs.size + 1) :: us, []⟩ _ _ _ (E τ) (hr.make C us []) (J2.env0.make C us []) bound rall here) fun res sz z => ?_
  match res, z with
  | .error er, z => exact hx τ pins _ _ er sz J2 z
  | .ok (.ret u), z =>
    obtain ⟨v, G3, J3, ru, ev, q3⟩ := J2.after z
    subst ev
    exact ⟨ru, ⟨V.ref (s1.heap.objs.size + 1), G3, J3, rfl, q3⟩⟩
  | .ok .next, z => exact False.elim z
  | .ok .brk, z => exact False.elim z
  | .ok .cont, z => exact False.elim z
end
end SM
set_option Elab.async false
set_option linter.all false
set_option maxRecDepth 100000
set_option maxHeartbeats 2000000
/-! New data out of data that stand: displays, cats, slices, items. -/
namespace SM
open PySem PySem.Spec PyProof.Rows L2
variable {K : PySem.W.Frag} {σ : L2.St} {H : Hp}
/-- LtH of an argument list -/
def LtL (K : PySem.W.Frag) (ta : TA) (σ : L2.St) (H : Hp) (ds : List PyData) : Prop := ∀ H1, Keep [] H H1 → ∀ Q, (∀ xs H', Keep [] H1 H' → DtAll K H' xs ds → Q xs H') → ta σ H1 Q
theorem LtL.nil : LtL K tNil σ H [] := fun H1 _ Q k => k [] H1 Keep.refl .nil
theorem LtL.cons {te : TE} {ta : TA} {d : PyData} {ds : List PyData} (h : LtH K te σ H d) (t : LtL K ta σ H ds) : LtL K (tCons te ta) σ H (d :: ds) :=
  fun H1 k1 Q k => h H1 k1 _ fun v H2 k2 d2 => t H2 (k1.trans k2) _ fun xs H3 k3 d3 => k _ _ (k2.trans k3) (.cons (d2.k0 k3) d3)
theorem LtH.str {x : Str} : LtH K (tC (.str x)) σ H (.str x) := fun H1 _ Q k => k _ _ Keep.refl (.str x)
theorem LtH.bl {x : Bool} : LtH K (tC (.bl x)) σ H (.bool x) := fun H1 _ Q k => k _ _ Keep.refl (.bl x)
theorem LtH.var {i : Nat} {v : V} {d : PyData} (h : σ[i]? = some (some v)) (hd : Dt K H v d) : LtH K (tVar i) σ H d := fun H1 k1 Q k => ⟨_, h, k _ _ Keep.refl (hd.k0 k1)⟩
theorem LtH.disp {ta : TA} {ds : List PyData} (h : LtL K ta σ H ds) (n : ds.length ≤ 100) : LtH K (tTup ta) σ H (.tuple ds) :=
  fun H1 k1 Q k => h H1 k1 _ fun xs H2 k2 d2 => ⟨by rw [d2.length]; exact Nat.le_trans n (by decide), fun p hp => k _ _ (k2.trans (Keep.new hp)) (.tup (SqT.of upd_same) (d2.k0 (Keep.new hp)))⟩
theorem LtH.cat {ta tb : TE} {ds es : List PyData} (h : LtH K ta σ H (.tuple ds)) (t : LtH K tb σ H (.tuple es)) (n : ds.length + es.length ≤ 100) : LtH K (tOp (rCatA K) ta tb) σ H (.tuple (ds ++ es)) := by
  intro H1 k1 Q k
  refine h H1 k1 _ fun v H2 k2 d2 => t H2 (k1.trans k2) _ fun u H3 k3 d3 => ?_
  have d2' := d2.k0 k3
  obtain ⟨a, xs, rfl, ha, da⟩ := d2'.items
  obtain ⟨b, ys, rfl, hb, db⟩ := d3.items
  have kk := k2.trans k3
  refine ⟨a, b, xs, ys, rfl, rfl, ha, hb, ?_, fun e => ?_, fun _ e => ?_, fun _ _ p hp => ?_⟩
  · rw [da.length, db.length]
    exact Nat.le_trans n (by decide)
  · subst e
    cases da
    exact k _ _ kk d3
  · subst e
    cases db
    rw [List.append_nil] at k
    exact k _ _ kk d2'
  · exact k _ _ (kk.trans (Keep.new hp)) (.tup (SqT.of upd_same) ((da.append db).k0 (Keep.new hp)))
theorem LtH.rev {ta : TE} {ds : List PyData} (h : LtH K ta σ H (.tuple ds)) : LtH K (tRevT K ta) σ H (.tuple ds.reverse) := by
  intro H1 k1 Q k
  refine h H1 k1 _ fun v H2 k2 d2 => ?_
  obtain ⟨a, xs, rfl, ha, da⟩ := d2.items
  exact ⟨a, xs, rfl, ha, fun p hp => k _ _ (k2.trans (Keep.new hp)) (.tup (SqT.of upd_same) (da.rev.k0 (Keep.new hp)))⟩
theorem sIx_n (n d k : Nat) : HT.sIx n d (some (k : Int)) = min k n := HT.sIx_nat n d k
theorem LtH.take {ta : TE} {tn : TO} {ds : List PyData} {n : Nat} (h : LtH K ta σ H (.tuple ds)) (hn : ∀ H1 (Q : Option Int → Hp → Prop), Q (some (n : Int)) H1 → tn σ H1 Q) : LtH K (tSl (SM.rSlA K) ta tNoPart tn) σ H (.tuple (ds.take n)) := by
  intro H1 k1 Q k
  refine h H1 k1 _ fun v H2 k2 d2 => ?_
  refine hn H2 _ ?_
  obtain ⟨a, xs, rfl, ha, da⟩ := d2.items
  by_cases hw : HT.sIx xs.length 0 none = 0 ∧ HT.sIx xs.length xs.length (some (n : Int)) = xs.length
  · refine .inr ⟨a, xs, rfl, ha, hw, ?_⟩
    have e : n ≥ ds.length := by
      have := hw.2
      rw [sIx_n, da.length] at this
      omega
    rw [List.take_of_length_le e] at k
    exact k _ _ k2 d2
  · refine .inl ⟨a, xs, rfl, ha, hw, fun p hp => ?_⟩
    have e : cutV xs none (some (n : Int)) = xs.take n := by
      unfold cutV
      rw [sIx_n, HT.sIx_none, List.drop_zero, Nat.sub_zero, List.take_eq_take_iff]
      omega
    refine k _ _ (k2.trans (Keep.new hp)) (.tup (SqT.of upd_same) ?_)
    rw [e]
    exact (da.take n).k0 (Keep.new hp)
theorem LtH.drop {ta : TE} {tn : TO} {ds : List PyData} {n : Nat} (h : LtH K ta σ H (.tuple ds)) (hn : ∀ H1 (Q : Option Int → Hp → Prop), Q (some (n : Int)) H1 → tn σ H1 Q) : LtH K (tSl (SM.rSlA K) ta tn tNoPart) σ H (.tuple (ds.drop n)) := by
  intro H1 k1 Q k
  refine h H1 k1 _ fun v H2 k2 d2 => ?_
  refine hn H2 _ ?_
  obtain ⟨a, xs, rfl, ha, da⟩ := d2.items
  by_cases hw : HT.sIx xs.length 0 (some (n : Int)) = 0 ∧ HT.sIx xs.length xs.length none = xs.length
  · refine .inr ⟨a, xs, rfl, ha, hw, ?_⟩
    have e := hw.1
    rw [sIx_n, da.length] at e
    rcases Nat.eq_zero_or_pos n with z | z
    · subst z
      exact k _ _ k2 d2
    · have e2 : ds = [] := List.eq_nil_of_length_eq_zero (by omega)
      subst e2
      rw [List.drop_nil] at k
      exact k _ _ k2 d2
  · refine .inl ⟨a, xs, rfl, ha, hw, fun p hp => ?_⟩
    have e : cutV xs (some (n : Int)) none = xs.drop n := by
      unfold cutV
      rw [sIx_n, HT.sIx_none, List.take_of_length_le (by rw [List.length_drop]; exact Nat.le_refl _)]
      rcases Nat.le_total n xs.length with z | z
      · rw [Nat.min_eq_left z]
      · rw [Nat.min_eq_right z, List.drop_length, List.drop_of_length_le z]
    refine k _ _ (k2.trans (Keep.new hp)) (.tup (SqT.of upd_same) ?_)
    rw [e]
    exact (da.drop n).k0 (Keep.new hp)
theorem atI_n {xs : List V} {n : Nat} {v : V} (h : xs[n]? = some v) : atI xs (n : Int) = some v := by
  have hn : n < xs.length := by
    rcases Nat.lt_or_ge n xs.length with z | z
    · exact z
    · rw [List.getElem?_eq_none z] at h
      cases h
  have e : (n : Int) < xs.length := by omega
  simp [atI, ixN, e, h]
theorem LtH.ix {ta ti : TE} {ds : List PyData} {d : PyData} {n : Nat} (h : LtH K ta σ H (.tuple ds)) (hn : ∀ H1 (Q : VK), Q (.int (n : Int)) H1 → ti σ H1 Q) (e : ds[n]? = some d) : LtH K (tOp (rIx K) ta ti) σ H d := by
  intro H1 k1 Q k
  refine h H1 k1 _ fun v H2 k2 d2 => ?_
  refine hn H2 _ ?_
  obtain ⟨a, xs, rfl, ha, da⟩ := d2.items
  obtain ⟨v, hv, dv⟩ := da.getD e
  exact .inr (.inl ⟨a, xs, _, v, rfl, rfl, ha, atI_n hv, k _ _ k2 dv⟩)
/-- not x -/
theorem LtH.notV {ta : TE} {b : Bool} (h : LtH K ta σ H (.bool b)) : LtH K (tNotV ta) σ H (.bool (!b)) := by
  intro H1 k1 Q k
  refine h H1 k1 _ fun v H2 k2 d2 => ?_
  cases d2
  exact ⟨b, rfl, k _ _ k2 (.bl _)⟩
/-- len(t) -/
theorem LtH.len {ta : TE} {ds : List PyData} {H1 : Hp} {Q : VK} (h : LtH K ta σ H (.tuple ds)) (k1 : Keep [] H H1) (k : ∀ H2, Keep [] H1 H2 → Q (.int (ds.length : Int)) H2) : tCB (fun xs H Q => ∃ p ys, xs = [V.ref p] ∧ (SqL K H p ys ∨ SqT K H p ys) ∧ Q (.int (ys.length : Int)) H) (tCons ta tNil) σ H1 Q := by
  refine h H1 k1 _ fun v H2 k2 d2 => ?_
  obtain ⟨a, xs, rfl, ha, da⟩ := d2.items
  exact ⟨a, xs, rfl, .inr ha, by rw [da.length]; exact k _ k2⟩
/-! ### data of texts, truths and tuples: equal is the same -/
mutual
inductive Pl : PyData → Prop
  | str (x : Str) : Pl (.str x)
  | bl (b : Bool) : Pl (.bool b)
  | tup {ds : List PyData} : PlA ds → Pl (.tuple ds)
inductive PlA : List PyData → Prop
  | nil : PlA []
  | cons {d : PyData} {ds : List PyData} : Pl d → PlA ds → PlA (d :: ds)
end
mutual
theorem Pl.eqv : ∀ {d e : PyData}, Pl d → Pl e → (PyData.eqv d e = true ↔ d = e)
  | _, _, .str x, .str y => by
    rw [PyData.eqv]
    exact ⟨fun h => by rw [eq_of_beq h], fun h => by cases h; exact beq_self_eq_true _⟩
  | _, _, .bl x, .bl y => by
    rw [PyData.eqv]
    cases x <;> cases y <;> simp
  | _, _, .tup x, .tup y => by
    rw [PyData.eqv, PlA.eqv x y]
    exact ⟨fun h => by rw [h], fun h => by cases h; rfl⟩
  | _, _, .str x, .bl y => by
    rw [PyData.eqv]
    simp
  | _, _, .str x, .tup y => by
    rw [PyData.eqv]
    simp
  | _, _, .bl x, .str y => by
    rw [PyData.eqv]
    simp
  | _, _, .bl x, .tup y => by
    rw [PyData.eqv]
    simp
  | _, _, .tup x, .str y => by
    rw [PyData.eqv]
    simp
  | _, _, .tup x, .bl y => by
    rw [PyData.eqv]
    simp
theorem PlA.eqv : ∀ {d e : List PyData}, PlA d → PlA e → (PyData.eqvAll d e = true ↔ d = e)
  | _, _, .nil, .nil => by
    rw [PyData.eqvAll]
    simp
  | _, _, .nil, .cons x y => by
    rw [PyData.eqvAll]
    simp
  | _, _, .cons x y, .nil => by
    rw [PyData.eqvAll]
    simp
  | _, _, .cons x y, .cons z u => by
    rw [PyData.eqvAll, Bool.and_eq_true, Pl.eqv x z, PlA.eqv y u]
    exact ⟨fun h => by rw [h.1, h.2], fun h => by cases h; exact ⟨rfl, rfl⟩⟩
end
theorem PlA.of : ∀ {ds : List PyData}, (∀ d ∈ ds, Pl d) → PlA ds
  | [], _ => .nil
  | d :: ds, h => .cons (h d List.mem_cons_self) (PlA.of fun e z => h e (List.mem_cons_of_mem _ z))
theorem pl_names (ns : List Str) : Pl (.tuple (ns.map .str)) := .tup (.of fun d z => by
  obtain ⟨x, _, rfl⟩ := List.mem_map.mp z
  exact .str x)
theorem pl_steps (l : List (Str × Str)) : Pl (stepsD l) := .tup (.of fun d z => by
  obtain ⟨x, _, rfl⟩ := List.mem_map.mp z
  exact .tup (.cons (.str _) (.cons (.str _) .nil)))
theorem pl_tests (l : List (Str × Str × Bool)) : Pl (testsD l) := .tup (.of fun d z => by
  obtain ⟨x, _, rfl⟩ := List.mem_map.mp z
  exact .tup (.cons (.str _) (.cons (.str _) (.cons (.bl _) .nil))))
theorem pl_line (l : Ln) : Pl (lnD l) := by
  obtain ⟨t, s, k⟩ := l
  cases k with
  | none => exact .tup (.cons (pl_tests _) (.cons (pl_steps _) .nil))
  | some k => exact .tup (.cons (pl_tests _) (.cons (pl_steps _) (.cons (pl_steps _) .nil)))
theorem pl_lines (ls : List Ln) : Pl (.tuple (linesD ls)) := .tup (.of fun d z => by
  obtain ⟨x, _, rfl⟩ := List.mem_map.mp z
  exact pl_line x)
theorem pl_plan (ns : List Str) (ls : List Ln) : Pl (planD ns ls) := .tup (.cons (pl_names ns) (.cons (pl_lines ls) .nil))
theorem map_inj {α : Type} {f : α → PyData} (h : ∀ a b, f a = f b → a = b) : ∀ {xs ys : List α}, xs.map f = ys.map f → xs = ys
  | [], [], _ => rfl
  | [], y :: ys, e => by simp at e
  | x :: xs, [], e => by simp at e
  | x :: xs, y :: ys, e => by
    rw [List.map_cons, List.map_cons] at e
    injection e with e1 e2
    rw [h _ _ e1, map_inj h e2]
theorem names_inj {a b : List Str} (h : PyData.tuple (a.map .str) = .tuple (b.map .str)) : a = b := by
  injection h with h
  exact map_inj (fun x y e => by injection e) h
theorem steps_inj {a b : List (Str × Str)} (h : stepsD a = stepsD b) : a = b := by
  injection h with h
  refine map_inj (fun x y e => ?_) h
  obtain ⟨x1, x2⟩ := x
  obtain ⟨y1, y2⟩ := y
  simp only [stepD] at e
  injection e with e
  injection e with e1 e
  injection e with e2 e
  injection e1 with e1
  injection e2 with e2
  rw [e1, e2]
theorem tests_inj {a b : List (Str × Str × Bool)} (h : testsD a = testsD b) : a = b := by
  injection h with h
  refine map_inj (fun x y e => ?_) h
  obtain ⟨x1, x2, x3⟩ := x
  obtain ⟨y1, y2, y3⟩ := y
  simp only [testD] at e
  injection e with e
  injection e with e1 e
  injection e with e2 e
  injection e with e3 e
  injection e1 with e1
  injection e2 with e2
  injection e3 with e3
  rw [e1, e2, e3]
theorem line_inj {a b : Ln} (h : lnD a = lnD b) : a = b := by
  obtain ⟨t, s, k⟩ := a
  obtain ⟨t', s', k'⟩ := b
  simp only [lnD] at h
  injection h with h
  injection h with h1 h
  injection h with h2 h
  rw [tests_inj h1, steps_inj h2]
  cases k with
  | none =>
    cases k' with
    | none => rfl
    | some k' => simp [keepD] at h
  | some k =>
    cases k' with
    | none => simp [keepD] at h
    | some k' =>
      simp only [keepD] at h
      injection h with h
      rw [steps_inj h]
theorem lines_inj {a b : List Ln} (h : PyData.tuple (linesD a) = .tuple (linesD b)) : a = b := by
  injection h with h
  exact map_inj (fun _ _ => line_inj) h
theorem plan_eqv {ns ms : List Str} {ls ks : List Ln} : PyData.eqv (planD ns ls) (planD ms ks) = true ↔ ns = ms ∧ ls = ks := by
  rw [(pl_plan ns ls).eqv (pl_plan ms ks)]
  refine ⟨fun h => ?_, fun h => by rw [h.1, h.2]⟩
  simp only [planD] at h
  injection h with h
  injection h with h1 h
  injection h with h2 h
  exact ⟨names_inj h1, lines_inj h2⟩
end SM
set_option Elab.async false
set_option linter.all false
set_option maxRecDepth 100000
set_option maxHeartbeats 2000000
/-! thing == x: the built-in's __eq__ declines, the own one of x's class answers -/
namespace SN
open PySem PySem.Spec PyProof.Rows PySem.SeqAt
section
variable {prog : Program} {w : World} {A : Around} {E : Value → Shared → Prop} {s : Shared} {K : PySem.W.Frag} {x C f : Addr} {ox : Obj} {od : Option Obj}
theorem inst_no {M : Model} {n : String} (X : K.In s.heap) (I : PySem.W.InstAt s.heap x ox C od) (e : PySem.W.subIn K (.ref C) (.type n) = some false) : PySem.W.Looks M s.heap (isInstance (.ref x) (.type n)) false := I.type.andThen (PySem.W.looks_subIn X e)
theorem list_no {l : Addr} {Q : Fin → Shared → Prop} (X : K.In s.heap) (I : PySem.W.InstAt s.heap x ox C od) (e : PySem.W.subIn K (.ref C) (.type "list") = some false) (hq : Q (.done (.ret .notImplemented)) s) : wpAny (model prog w) A (Builtin.«list.__eq__» ⟨[.ref l, .ref x], []⟩) Q E s := by
  unfold Builtin.«list.__eq__»
  repeat (first | with_reducible refine wpAny_bind ((inst_no X I e).here ?_) | wp_step)
  exact hq
theorem tuple_no {l : Addr} {Q : Fin → Shared → Prop} (X : K.In s.heap) (I : PySem.W.InstAt s.heap x ox C od) (e : PySem.W.subIn K (.ref C) (.type "tuple") = some false) (hq : Q (.done (.ret .notImplemented)) s) : wpAny (model prog w) A (Builtin.«tuple.__eq__» ⟨[.ref l, .ref x], []⟩) Q E s := by
  unfold Builtin.«tuple.__eq__»
  repeat (first | with_reducible refine wpAny_bind ((inst_no X I e).here ?_) | wp_step)
  exact hq
theorem dict_no {l : Addr} {Q : Fin → Shared → Prop} (X : K.In s.heap) (I : PySem.W.InstAt s.heap x ox C od) (e : PySem.W.subIn K (.ref C) (.type "dict") = some false) (hq : Q (.done (.ret .notImplemented)) s) : wpAny (model prog w) A (Builtin.«dict.__eq__» ⟨[.ref l, .ref x], []⟩) Q E s := by
  unfold Builtin.«dict.__eq__»
  repeat (first | with_reducible refine wpAny_bind ((inst_no X I e).here ?_) | wp_step)
  exact hq
theorem int_no {u : Value} {i : Int} {t : Tok} {Q : Fin → Shared → Prop} (hu : u = .int i t ∨ ∃ c, u = .bool c) (ho : s.heap.get? x = some ox) (np : ∀ v, ox.data ≠ .prim v) (hq : Q (.done (.ret .notImplemented)) s) : wpAny (model prog w) A (Builtin.«int.__eq__» ⟨[u, .ref x], []⟩) Q E s := by
  obtain ⟨hp, g, d, tk, os⟩ := s
  rcases hu with rfl | ⟨c, rfl⟩
  · unfold Builtin.«int.__eq__»
    repeat (first | with_reducible refine wpAny_loadPart_at ho ?_ | wp_step)
    split
    · rename_i q
      exact absurd q (np _)
    · repeat wp_step
      exact hq
  · unfold Builtin.«int.__eq__»
    repeat (first | with_reducible refine wpAny_loadPart_at ho ?_ | wp_step)
    split
    · rename_i q
      exact absurd q (np _)
    · repeat wp_step
      exact hq
theorem str_no {i : Str} {t : Tok} {Q : Fin → Shared → Prop} (ho : s.heap.get? x = some ox) (np : ∀ v, ox.data ≠ .prim v) (hq : Q (.done (.ret .notImplemented)) s) : wpAny (model prog w) A (Builtin.«str.__eq__» ⟨[.str i t, .ref x], []⟩) Q E s := by
  obtain ⟨hp, g, d, tk, os⟩ := s
  unfold Builtin.«str.__eq__»
  repeat (first | with_reducible refine wpAny_loadPart_at ho ?_ | wp_step)
  split
  · rename_i q
    exact absurd q (np _)
  · repeat wp_step
    exact hq
theorem rc_late {u : Value} {T id : String} {Q : Value → Shared → Prop} (hu : A.units < cLine) (X : K.In s.heap) (I : PySem.W.InstAt s.heap x ox C od) (hT : s.TypeIs u T) (hsub : PySem.W.subIn K (.ref C) (.type T) = some false) (slot : Slot T "__eq__" id)
    (dec : ∀ Q' : Value → Shared → Prop, Q' .notImplemented s → wpAny (model prog w) A (call (.builtin id) [u, .ref x]) Q' E s) (hs : PySem.W.findIn K (.ref C) "__eq__" = some (some (.ref f))) (hf : PySem.W.isFn K (.ref f) = true)
    (h : wpAny (model prog w) A (call (.ref f) [.ref x, u]) (PySem.W.CmpBack Q) E s) : wpAny (model prog w) A (richCompare .Eq u (.ref x)) Q E s := by
  have two : wpAny (model prog w) A (tryCompare (.ref x) "__eq__" u) (fun r s' => ∃ v, r = some v ∧ Q v s') E s := by
    unfold tryCompare
    refine wpAny_bind (PySem.W.ifBound_K X I hs hf (wpAny_mono h (fun v s' hv => ?_) fun _ _ e => e))
    cases v <;> first | exact hv.elim | exact wpAny_pure ⟨_, rfl, hv⟩
  simp only [richCompare, cmpInfo_Eq, hT.oneThing_none]
  refine wpAny_holding (wpAny_bind (wpAny_cRoomFor hu ?_))
  refine wpAny_bind (wpAny_typeOf hT ?_)
  refine wpAny_bind (I.type.here ?_)
  split
  · refine wpAny_bind ((PySem.W.looks_subIn X hsub).here ?_)
    simp only [Bool.false_eq_true, if_false, Bool.not_false, if_true]
    refine wpAny_bind (m := tryCompare u _ (.ref x)) (wpAny_tryCompare_declines hT slot (dec _ ⟨rfl, ?_⟩))
    refine wpAny_bind (m := tryCompare (.ref x) _ u) (wpAny_mono two (fun r s1 z => ?_) fun _ _ e => e)
    obtain ⟨v, rfl, q⟩ := z
    exact wpAny_pure q
  · rename_i q
    exact absurd (by simp) q
end
end SN
namespace SM
open PySem PySem.Spec PyProof.Rows L2
section
variable {X : Cx} {CX : CXT} {j : Nat} {C fe : Addr} {fd : FuncData} {ps : List Str} {sp : Sp} {E : XK}
/-- a built-in's value, by kind -/
inductive LateV (K : PySem.W.Frag) (G : Hp) : V → String → Prop where
  | non : LateV K G .non "NoneType"
  | bl (b : Bool) : LateV K G (.bl b) "bool"
  | int (i : Int) : LateV K G (.int i) "int"
  | str (x : Str) : LateV K G (.str x) "str"
  | lst {a : Addr} {xs : List V} : SqL K G a xs → LateV K G (.ref a) "list"
  | tup {a : Addr} {xs : List V} : SqT K G a xs → LateV K G (.ref a) "tuple"
  | dic {a : Addr} {kvs : List (Key × V)} : G a = some (.dK kvs) → LateV K G (.ref a) "dict"
/-- a built-in's value on the left, an instance of C on the right -/
def rEqLate (K : PySem.W.Frag) (C : Addr) (sp : Sp) (E : XK) : R2 := fun x y G Q => ∃ (a dx : Addr) (fs : List (Str × V)) (T : String),
  y = .ref a ∧ G a = some (.ins C dx fs) ∧ LateV K G x T ∧ PySem.W.subIn K (.ref C) (.type T) = some false ∧ sp [y, x] G (fun v G' => (∃ b, v = .bl b) ∧ Q v G') E
theorem op_eqLate (Fo : FnOk X.prog X.w X.K X.mg X.base CX j fe fd ps sp) (at_ : PySem.W.findIn X.K (.ref C) "__eq__" = some (some (.ref fe)))
    (fn : PySem.W.isFn X.K (.ref fe) = true) (bd : Binds X.K fd ps []) (hx : Passes CX X E) (hr : Room j X.A) : OpR X (compareOp .Eq) (rEqLate X.K C sp E) := by
  intro pins sh τ G x y u v Q J rx ry q
  obtain ⟨a, dx, fs, T, rfl, ha, hk, hsub, want⟩ := q
  obtain rfl : v = Value.ref a := ry
  obtain ⟨mA, JA, _⟩ := ins_get J.hok ha
  obtain ⟨od, JA, _⟩ := JA.look
  have X0 := J.kIn
  have many := Fo.len _ _ _ _ want
  have rr : Vals [V.ref a, x] [Value.ref a, u] := .cons rfl (.cons rx .nil)
  have bound : BindsTo sh fd ⟨[.ref a, u], []⟩ (ps.zip [.ref a, u]) := by
    have b := bd sh [.ref a, u] J.kIn (by simpa using many)
    simpa using b
  have own : wpAny (model X.prog X.w) X.A (call (.ref fe) [.ref a, u]) (PySem.W.CmpBack (EP X pins τ Q)) X.xe sh := by
    refine wpAny_call (codeAny_mono (Fo.run X.A X.stack sh G ⟨[.ref a, u], []⟩ _ _ _ E hr J.env0 bound rr want) fun res sz z => ?_)
    match res, z with
    | .error er, z => exact hx pins τ G sh er sz J z
    | .ok (.ret w), z =>
      obtain ⟨z1, G1, J1, rz, ⟨b, rfl⟩, q1⟩ := J.after z
      obtain rfl : w = Value.bool b := rz
      exact ⟨.bl b, G1, J1, rfl, q1⟩
    | .ok .next, z => exact False.elim z
    | .ok .brk, z => exact False.elim z
    | .ok .cont, z => exact False.elim z
  show wpAny (model X.prog X.w) X.A (richCompare .Eq u (.ref a)) (EP X pins τ Q) X.xe sh
  have np : ∀ z, (PySem.W.instObj C dx).data ≠ .prim z := fun z h => by cases h
  cases hk with
  | non =>
    cases (show u = Value.none from rx)
    exact SN.rc_late hr.units0 X0 JA (T := "NoneType") rfl hsub PySem.F.slot_NoneType_eq (fun Q' hq => call_gives PySem.F.slot_NoneType_eq rfl PySem.F.entry_NoneType_eq (PySem.F.args_NoneType_eq_2 _ _) (PySem.SeqAt.NoneType___eq___none_ref_0 _) hq) at_ fn own
  | bl b =>
    cases (show u = Value.bool b from rx)
    exact SN.rc_late hr.units0 X0 JA (T := "bool") rfl hsub PySem.F.slot_bool_eq (fun Q' hq => wpAny_call_entry PySem.F.slot_bool_eq rfl PySem.F.entry_int_eq (SN.int_no (i := 0) (t := 0) (.inr ⟨b, rfl⟩) JA.at_ np ⟨_, rfl, hq⟩) (PySem.F.args_int_eq_2 _ _)) at_ fn own
  | int i =>
    obtain ⟨t, e⟩ := (show ∃ t, u = Value.int i t from rx)
    cases e
    exact SN.rc_late hr.units0 X0 JA (T := "int") rfl hsub PySem.F.slot_int_eq (fun Q' hq => wpAny_call_entry PySem.F.slot_int_eq rfl PySem.F.entry_int_eq (SN.int_no (.inl rfl) JA.at_ np ⟨_, rfl, hq⟩) (PySem.F.args_int_eq_2 _ _)) at_ fn own
  | str z =>
    obtain ⟨t, e⟩ := (show ∃ t, u = Value.str z t from rx)
    cases e
    exact SN.rc_late hr.units0 X0 JA (T := "str") rfl hsub PySem.F.slot_str_eq (fun Q' hq => wpAny_call_entry PySem.F.slot_str_eq rfl PySem.F.entry_str_eq (SN.str_no JA.at_ np ⟨_, rfl, hq⟩) (PySem.F.args_str_eq_2 _ _)) at_ fn own
  | lst hs =>
    cases (show u = Value.ref _ from rx)
    obtain ⟨its, r, pl, hz⟩ := J.list hs
    exact SN.rc_late hr.units0 X0 JA (T := "list") pl.isList.typeIs hsub PySem.F.slot_list_eq (fun Q' hq => wpAny_call_entry PySem.F.slot_list_eq pl.isList.typeIs PySem.F.entry_list_eq (SN.list_no X0 JA hsub ⟨_, rfl, hq⟩) (PySem.F.args_list_eq_2 _ _)) at_ fn own
  | tup hs =>
    cases (show u = Value.ref _ from rx)
    obtain ⟨its, r, ht, hz⟩ := J.tuple hs
    exact SN.rc_late hr.units0 X0 JA (T := "tuple") ht.typeIs hsub PySem.F.slot_tuple_eq (fun Q' hq => wpAny_call_entry PySem.F.slot_tuple_eq ht.typeIs PySem.F.entry_tuple_eq (SN.tuple_no X0 JA hsub ⟨_, rfl, hq⟩) (PySem.F.args_tuple_eq_2 _ _)) at_ fn own
  | @dic b kvs hs =>
    cases (show u = Value.ref b from rx)
    have hT : sh.TypeIs (.ref b) "dict" := by
      obtain ⟨_, _, vs, _, o, es, ep, h1, h2, _⟩ := (show ObjOk X.prog X.w G sh.heap b (.dK kvs) from J.hok b _ hs)
      exact ⟨o, h1, h2.1⟩
    exact SN.rc_late hr.units0 X0 JA (T := "dict") hT hsub PySem.F.slot_dict_eq (fun Q' hq => wpAny_call_entry PySem.F.slot_dict_eq hT PySem.F.entry_dict_eq (SN.dict_no X0 JA hsub ⟨_, rfl, hq⟩) (PySem.F.args_dict_eq_2 _ _)) at_ fn own
end
end SM
set_option Elab.async false
set_option linter.all false
set_option maxRecDepth 100000
set_option maxHeartbeats 2000000
/-! t * 1 is t itself -/
namespace SN
open PySem PySem.Spec PyProof.Rows L2
theorem tuple_mul1 (l : Addr) (items : Array Value) (n : Nat) (dd : Option Addr) (sl : Array (Option Value)) (u : Tok) :
    Meets (Builtin.«tuple.__mul__» ⟨[.ref l, .int 1 u], []⟩) (fun _ R s => s.heap.get? l = some { cls := .type "tuple", dict := dd, data := .seq items n, slots := sl } ∧
      R (.ok (.ret (Value.ref l))) s) :=
  .of_wp fun prog w A R s h => by
    obtain ⟨hp, g, d, tk, os⟩ := s
    obtain ⟨hl, h⟩ := h
    have f1 := AutoSeq1.idx_int
    have c1 : (items.isEmpty || (1 : Int) == 1) = true := by rw [show ((1 : Int) == 1) = true from rfl, Bool.or_true]
    wp_walk using wpAny_loadPart' hl
    repeat (first
      | (refine wpAny_ite_true (by rw [c1]) ?_; wp_walk using wpAny_loadPart' hl)
      | (refine wpAny_ite_false (by decide) ?_; wp_walk using wpAny_loadPart' hl))
    exact ⟨_, rfl, h⟩
end SN
namespace SM
open PySem PySem.Spec PyProof.Rows L2
section
variable {X : Cx}
def rRep1 (K : PySem.W.Frag) : R2 := fun x y H Q => ∃ l xs, x = .ref l ∧ y = .int 1 ∧ SqT K H l xs ∧ Q (.ref l) H
theorem op_rep1 : OpR X (binaryOp .Mult) (rRep1 X.K) := by
  intro pins s σ H x y v u Q I rx ry h
  obtain ⟨l, xs, rfl, rfl, hT, q⟩ := h
  cases rx
  obtain ⟨t, rfl⟩ := ry
  obtain ⟨its, r, ⟨⟨cls, dd, data, sl⟩, ho, hc, n, hd⟩, hs⟩ := I.tuple hT
  simp only at hc hd
  subst hc hd
  refine wpAny_binaryOp_repeat_ref (T := "tuple") (U := "int") (by decide) ⟨_, ho, rfl⟩ (fun s' => typeIs_int s' 1 t) noFill_tuple_mul PySem.F.fills_int_mul PySem.F.slot_int_rmul repeat_tuple PySem.F.slot_int_index.lookup
    (call_meets PySem.F.slot_int_rmul (typeIs_int s 1 t) PySem.F.entry_int_rmul (PySem.F.args_int_rmul_2 _ _) (int_rmul_tuple 1 t l its.toArray n dd sl)
      ⟨ho, rfl, ⟨_, ho, rfl⟩, call_meets PySem.F.slot_tuple_mul ⟨_, ho, rfl⟩ PySem.F.entry_tuple_mul (PySem.F.args_tuple_mul_2 _ _) (SN.tuple_mul1 l its.toArray n dd sl t) ⟨ho, ?_⟩⟩)
  exact ⟨.ref l, H, I, rfl, q⟩
def rRepA (K : PySem.W.Frag) : R2 := fun x y H Q => rRepT K x y H Q ∨ rRep1 K x y H Q
theorem op_repA : OpR X (binaryOp .Mult) (rRepA X.K) := op_repT.or op_rep1
end
end SM
set_option Elab.async false
set_option linter.all false
set_option maxRecDepth 100000
set_option maxHeartbeats 2000000
/-! A def that raises at once; isinstance of what is caught; lists that are not different; a dict that is none of some texts. -/
namespace SM
open PySem PySem.Spec PyProof.Rows L2 PySem.HandSPX
/-- statements that are not reached -/
theorem pss_off {X : Cx} {sts : List Stmt} : PSs X sts (fun _ _ _ => False) := ⟨fun _ _ _ _ _ _ h => h.elim⟩
theorem pss_raise {X : Cx} {st : Stmt} {sts : List Stmt} {t : TS} (h : PS X st t) : PSs X (st :: sts) (tSeq t fun _ _ _ => False) := pss_cons h pss_off
/-- isinstance(e, c), e the error that is caught -/
def rCaI (K : PySem.W.Frag) (a : Addr) (cls : Value) (d : Option Addr) (C : Addr) : List V → Hp → VK → Prop := fun xs H Q => ∃ (c : V) (cv : Value) (b : Bool), xs = [.ref a, c] ∧ cls = .ref C ∧ (∃ (dd : Addr) (fs : List (Str × V)), d = some dd ∧ H dd = some (.xd fs)) ∧ (∀ u, RelV c u → u = cv) ∧ PySem.W.kitOne K (.ref C) cv = some b ∧ Q (.bl b) H
theorem call_caI {X : Cx} {a C : Addr} {oe : Obj} {cls : Value} {d : Option Addr} {pn : List (Addr × Obj)} (T : ExcC X.K C) (hz : Zc cls d oe) (hf : ∃ vs, oe.data = .fields vs) : CallR (X.suite a ((a, oe) :: pn)) (.builtin "isinstance") (rCaI X.K a cls d C) := by
  intro pins s σ H xs us Q I r h
  obtain ⟨c, cv, b, rfl, ec, ⟨dd, fs, ed, ea⟩, hcv, hk, q⟩ := h
  match us, r with
  | [_, uc], .cons ra (.cons rc .nil) =>
    obtain rfl := ra
    have e := hcv _ rc
    subst e
    subst ec
    subst ed
    obtain ⟨ha, _⟩ := I.pin (a, oe) (List.mem_append_left _ List.mem_cons_self)
    obtain ⟨vs, hd⟩ := hf
    have hx : ObjOk X.prog X.w H s.heap dd (.xd fs) := I.hok dd _ ea
    obtain ⟨mA, hns, hr⟩ := hx
    obtain ⟨od, ho, hl⟩ := lookIn_ns hns
    have J : PySem.W.InstAt s.heap a oe C (some od) := ⟨ha, hz.1, by unfold PySem.W.notCls; rw [hd] <;> rfl, by rw [hz.2]; exact ho⟩
    have cl : (PySem.W.clsIn X.K C).isSome = true := by
      obtain ⟨cd, hc, _⟩ := PySem.W.any_some T.hd
      rw [hc]
      rfl
    exact PySem.W.kia_one (PySem.W.kitx_exc cl T.hg T.hk T.hs T.ha T.hn T.ht T.hm) I.kIn J hk (fun z => nomatch z) fun tk => ⟨.bl b, H, I.tok tk, rfl, q⟩
/-! ### a dict is none of some texts -/
section
open PySem.SeqAt
variable {A : Around} {s : Shared}
theorem dict_no_str (l : Addr) (b : Str) (u : Tok) (ob : Obj) (es : Array DictEntry) (n : Nat) :
    Meets (Builtin.«dict.__eq__» ⟨[.ref l, .str b u], []⟩) (fun _ R s => s.heap.get? l = some ob ∧ ob.cls = .type "dict" ∧ ob.data = .dict es n ∧ R (.ok (.ret .notImplemented)) s) :=
  .of_wp fun prog w A R s h => by
    obtain ⟨hp, g, d, tk, os⟩ := s
    obtain ⟨hl, hc, hd, h⟩ := h
    have f1 := PySem.F.sub_str_dict
    unfold Builtin.«dict.__eq__»
    wp_walk
    exact ⟨_, rfl, h⟩
theorem eqAt_str_dict {l : Addr} {ob : Obj} {es : Array DictEntry} {n : Nat} (b : Str) (u : Tok) (hl : s.heap.get? l = some ob) (hc : ob.cls = .type "dict") (hd : ob.data = .dict es n) (hu : A.units < cLine) : EqAt A s (.str b u) (.ref l) false := fun prog w E Q h => by
  unfold eqBool
  refine wpAny_holding ?_
  refine wpAny_ite_split (fun hab => absurd (eq_of_beq hab) nofun) (fun _ => ?_)
  have td : s.TypeIs (.ref l) "dict" := ⟨_, hl, hc⟩
  have np : ∀ v, ob.data ≠ .prim v := fun v z => by rw [hd] at z; cases z
  refine wpAny_bind (rc_eq_decline_or (k := false) (typeIs_str s b u) td (by decide) PySem.F.sub_dict_str F.slot_str_eq F.slot_dict_eq_refl
    (fun Q' hq => wpAny_call_entry F.slot_str_eq (typeIs_str s b u) F.entry_str_eq (SN.str_no hl np ⟨_, rfl, hq⟩) (F.args_str_eq_2 _ _))
    (fun _ hq => call_meets F.slot_dict_eq_refl td F.entry_dict_eq (F.args_dict_eq_2 _ _) (dict_no_str l b u ob es n) ⟨hl, hc, hd, hq⟩)
    (fun _ hq => wpAny_of_eq (rfl : isSame (.str b u) (.ref l) = pure false) hq) (.inr hu) (wpAny_truthy_bool h))
end
section
variable {X : Cx}
/-- a dict, a tuple of texts -/
def rNotInDic (K : PySem.W.Frag) : R2 := fun x y H Q => ∃ (p t : Addr) (ks : List (Key × V)) (ws : List Str), x = .ref p ∧ y = .ref t ∧ H p = some (.dK ks) ∧ SqT K H t (ws.map V.str) ∧ Q (.bl true) H
theorem op_notInDic (hu : X.A.units + 65 < cLine) : OpR X (compareOp .NotIn) (rNotInDic X.K) := by
  intro pins s σ H x y v u Q I rx ry h
  obtain ⟨p, t, ks, ws, rfl, rfl, hp, ht, q⟩ := h
  obtain rfl : v = Value.ref p := rx
  obtain rfl : u = Value.ref t := ry
  obtain ⟨its, r, ht', _⟩ := I.tuple ht
  obtain ⟨_, ya, va, ra, da⟩ := (show ObjOk X.prog X.w H s.heap p (.dK ks) from I.hok p _ hp)
  obtain ⟨ob, es, n, e1, e2, e3⟩ : ∃ ob es n, s.heap.get? p = some ob ∧ ob.cls = .type "dict" ∧ ob.data = .dict es n := by
    obtain ⟨ob, es, n, e1, e2, e3, _⟩ := da
    exact ⟨ob, es, n, e1, e2.1, e3⟩
  obtain ⟨o, ho, hc, n2, hd⟩ := ht'
  refine PySem.SeqAt.notIn_tupleAt (fun _ => false) ⟨o, ho, hc, n2, hd⟩ (fun z hz => ?_) ?_
  · have hz' : z ∈ its := by simpa using hz
    obtain ⟨i, hi, ez⟩ := List.getElem_of_mem hz'
    obtain ⟨b, hb⟩ : ∃ b t', z = .str b t' := by
      have : ∀ {ws : List Str} {us : List Value}, Vals (ws.map V.str) us → ∀ z ∈ us, ∃ b t', z = .str b t' := by
        intro ws
        induction ws with
        | nil =>
          intro us r z hz
          cases r
          cases hz
        | cons w ws ih =>
          intro us r z hz
          cases r with
          | cons r1 r2 =>
            rcases List.mem_cons.mp hz with rfl | hz
            · obtain ⟨t', rfl⟩ := r1
              exact ⟨_, _, rfl⟩
            · exact ih r2 z hz
      exact this r z hz'
    obtain ⟨t', rfl⟩ := hb
    exact eqAt_str_dict b t' e1 e2 e3 (by show X.A.units + 1 < cLine; omega)
  · rw [show (its.toArray.any fun _ => false) = false by simp]
    exact ⟨.bl true, H, I, rfl, q⟩
/-- two lists of the very same things -/
def rNeSame (K : PySem.W.Frag) : R2 := fun x y H Q => ∃ (a b : Addr) (xs : List V), x = .ref a ∧ y = .ref b ∧ SqL K H a xs ∧ SqL K H b xs ∧ (∀ v ∈ xs, flatB v = true ∨ ∃ p, v = .ref p) ∧ Q (.bl false) H
theorem op_neSame (hu : X.A.units < cLine) : OpR X (compareOp .NotEq) (rNeSame X.K) := by
  intro pins s σ H x y v u Q I rx ry h
  obtain ⟨a, b, xs, rfl, rfl, ha, hb, hk, q⟩ := h
  obtain rfl : v = Value.ref a := rx
  obtain rfl : u = Value.ref b := ry
  obtain ⟨us, r1, p1, _⟩ := I.list ha
  obtain ⟨ws, r2, p2, _⟩ := I.list hb
  have hsz : us.toArray.size = ws.toArray.size := by
    rw [List.size_toArray, List.size_toArray, ← r1.length, ← r2.length]
  refine PySem.SeqAt.RcNeAt.lists (e := fun _ => true) p1.isList p2.isList hsz hu (fun j h1 h2 => ?_) X.prog X.w _ _ ?_
  · have each : ∀ {xs : List V} {us ws : List Value}, Vals xs us → Vals xs ws → (∀ v ∈ xs, flatB v = true ∨ ∃ p, v = .ref p) → ∀ j (h1 : j < us.length) (h2 : j < ws.length), PySem.SeqAt.EqAt X.A.in1 s us[j] ws[j] true := by
      intro xs
      induction xs with
      | nil =>
        intro us ws r1 r2 _ j h1 _
        cases r1
        exact absurd h1 (Nat.not_lt_zero j)
      | cons x xs ih =>
        intro us ws r1 r2 hk j h1 h2
        cases r1 with
        | cons a1 b1 =>
          cases r2 with
          | cons a2 b2 =>
            cases j with
            | zero =>
              rcases hk x List.mem_cons_self with f | ⟨p, rfl⟩
              · exact eqAt_same a1 a2 f
              · cases a1
                cases a2
                exact PySem.SeqAt.EqAt.same _
            | succ j => exact ih b1 b2 (fun v hv => hk v (List.mem_cons_of_mem _ hv)) j (Nat.lt_of_succ_lt_succ h1) (Nat.lt_of_succ_lt_succ h2)
    have k := each r1 r2 hk j (by simpa using h1) (by simpa using h2)
    simpa using k
  · rw [show ((List.range us.toArray.size).all fun _ => true) = true from List.all_eq_true.mpr fun _ _ => rfl]
    exact ⟨.bl false, H, I, rfl, q⟩
end
end SM
set_option Elab.async false
set_option linter.all false
set_option maxRecDepth 100000
set_option maxHeartbeats 2000000
/-! Data whose lists are tracked, told in the heap without what changes; expressions that make such data. -/
namespace SM
open PySem PySem.Spec PyProof.Rows L2
mutual
inductive Dl (K : PySem.W.Frag) (H : Hp) : V → PyData → Prop
  | non : Dl K H .non .none
  | bl (b : Bool) : Dl K H (.bl b) (.bool b)
  | int (i : Int) : Dl K H (.int i) (.int i)
  | str (x : Str) : Dl K H (.str x) (.str x)
  | lst {a : Addr} {xs : List V} {ds : List PyData} : H a = some (.lst xs) → DlAll K H xs ds → Dl K H (.ref a) (.list ds)
  | tup {a : Addr} {xs : List V} {ds : List PyData} : SqT K H a xs → DlAll K H xs ds → Dl K H (.ref a) (.tuple ds)
  | dic {a : Addr} : H a = some (.dK []) → Dl K H (.ref a) (.dict [])
inductive DlAll (K : PySem.W.Frag) (H : Hp) : List V → List PyData → Prop
  | nil : DlAll K H [] []
  | cons {v : V} {vs : List V} {d : PyData} {ds : List PyData} : Dl K H v d → DlAll K H vs ds → DlAll K H (v :: vs) (d :: ds)
end
variable {K : PySem.W.Frag}
theorem sqT_same {H H' : Hp} (e : Same H H') {a : Addr} {xs : List V} (s : SqT K H a xs) : SqT K H' a xs := by
  rcases s with (s | ⟨o, s⟩) | s
  · exact .inl (.inl (e _ _ s))
  · exact .inl (.inr ⟨o, e _ _ s⟩)
  · exact .inr s
mutual
theorem Dl.mono {H H' : Hp} (e : Same H H') : ∀ {v : V} {d : PyData}, Dl K H v d → Dl K H' v d
  | _, _, .non => .non
  | _, _, .bl b => .bl b
  | _, _, .int i => .int i
  | _, _, .str x => .str x
  | _, _, .lst s t => .lst (e _ _ s) (DlAll.mono e t)
  | _, _, .tup s t => .tup (sqT_same e s) (DlAll.mono e t)
  | _, _, .dic s => .dic (e _ _ s)
theorem DlAll.mono {H H' : Hp} (e : Same H H') : ∀ {vs : List V} {ds : List PyData}, DlAll K H vs ds → DlAll K H' vs ds
  | _, _, .nil => .nil
  | _, _, .cons s t => .cons (Dl.mono e s) (DlAll.mono e t)
end
mutual
theorem Dl.dq {H : Hp} : ∀ {v : V} {d : PyData}, Dl K H v d → Dq K H v d
  | _, _, .non => .non
  | _, _, .bl b => .bl b
  | _, _, .int i => .int i
  | _, _, .str x => .str x
  | _, _, .lst s t => .lst (SqL.of s) (DlAll.dq t)
  | _, _, .tup s t => .tup s (DlAll.dq t)
  | _, _, .dic s => .dic (kvs := []) (ds := []) s .nil
theorem DlAll.dq {H : Hp} : ∀ {vs : List V} {ds : List PyData}, DlAll K H vs ds → DqAll K H vs ds
  | _, _, .nil => .nil
  | _, _, .cons s t => .cons (Dl.dq s) (DlAll.dq t)
end
mutual
theorem Dt.dl {H : Hp} : ∀ {v : V} {d : PyData}, Dt K H v d → Dl K H v d
  | _, _, .non => .non
  | _, _, .bl b => .bl b
  | _, _, .int i => .int i
  | _, _, .str x => .str x
  | _, _, .tup s t => .tup s (DtAll.dl t)
theorem DtAll.dl {H : Hp} : ∀ {vs : List V} {ds : List PyData}, DtAll K H vs ds → DlAll K H vs ds
  | _, _, .nil => .nil
  | _, _, .cons s t => .cons (Dt.dl s) (DtAll.dl t)
end
theorem DlAll.length {H : Hp} : ∀ {vs : List V} {ds : List PyData}, DlAll K H vs ds → vs.length = ds.length
  | _, _, .nil => rfl
  | _, _, .cons _ t => congrArg (· + 1) t.length
theorem DlAll.append {H : Hp} : ∀ {vs us : List V} {ds es : List PyData}, DlAll K H vs ds → DlAll K H us es → DlAll K H (vs ++ us) (ds ++ es)
  | _, _, _, _, .nil, h => h
  | _, _, _, _, .cons h t, z => .cons h (DlAll.append t z)
theorem DlAll.take {H : Hp} : ∀ (n : Nat) {vs : List V} {ds : List PyData}, DlAll K H vs ds → DlAll K H (vs.take n) (ds.take n)
  | 0, _, _, _ => .nil
  | _ + 1, _, _, .nil => .nil
  | n + 1, _, _, .cons h t => .cons h (DlAll.take n t)
theorem DlAll.drop {H : Hp} : ∀ (n : Nat) {vs : List V} {ds : List PyData}, DlAll K H vs ds → DlAll K H (vs.drop n) (ds.drop n)
  | 0, _, _, h => h
  | _ + 1, _, _, .nil => .nil
  | n + 1, _, _, .cons _ t => DlAll.drop n t
theorem DlAll.rev {H : Hp} : ∀ {vs : List V} {ds : List PyData}, DlAll K H vs ds → DlAll K H vs.reverse ds.reverse
  | _, _, .nil => .nil
  | v :: vs, d :: ds, .cons h t => by
    rw [List.reverse_cons, List.reverse_cons]
    exact DlAll.append (DlAll.rev t) (.cons h .nil)
theorem DlAll.rep {H : Hp} {vs : List V} {ds : List PyData} (h : DlAll K H vs ds) : ∀ n, DlAll K H (List.replicate n vs).flatten (List.replicate n ds).flatten
  | 0 => .nil
  | n + 1 => by
    rw [List.replicate_succ, List.replicate_succ, List.flatten_cons, List.flatten_cons]
    exact h.append (h.rep n)
theorem DlAll.strs {H : Hp} : ∀ (xs : List Str), DlAll K H (xs.map V.str) (xs.map PyData.str)
  | [] => .nil
  | x :: xs => .cons (.str x) (DlAll.strs xs)
theorem DlAll.get {H : Hp} : ∀ {vs : List V} {ds : List PyData}, DlAll K H vs ds → ∀ {i : Nat} {v : V}, vs[i]? = some v → ∃ d, ds[i]? = some d ∧ Dl K H v d
  | _, _, .nil, i, v, e => by simp at e
  | _, _, .cons h t, 0, v, e => by
    simp at e
    subst e
    exact ⟨_, rfl, h⟩
  | _, _, .cons h t, i + 1, v, e => by
    obtain ⟨d, e1, h1⟩ := t.get (i := i) (v := v) (by simpa using e)
    exact ⟨d, by simpa using e1, h1⟩
theorem DlAll.getD {H : Hp} : ∀ {vs : List V} {ds : List PyData}, DlAll K H vs ds → ∀ {i : Nat} {d : PyData}, ds[i]? = some d → ∃ v, vs[i]? = some v ∧ Dl K H v d
  | _, _, .nil, i, v, e => by simp at e
  | _, _, .cons h t, 0, v, e => by
    simp at e
    subst e
    exact ⟨_, rfl, h⟩
  | _, _, .cons h t, i + 1, v, e => by
    obtain ⟨d, e1, h1⟩ := t.getD (i := i) (d := v) (by simpa using e)
    exact ⟨d, by simpa using e1, h1⟩
theorem DlAll.strs_eq {H : Hp} : ∀ {ns : List Str} {us : List V}, DlAll K H us (ns.map PyData.str) → us = ns.map V.str
  | [], _, .nil => rfl
  | n :: ns, _, .cons h t => by
    rw [DlAll.strs_eq t]
    cases h
    rfl
theorem Dl.lst_of {H : Hp} {v : V} {ds : List PyData} (h : Dl K H v (.list ds)) : ∃ a xs, v = .ref a ∧ H a = some (.lst xs) ∧ DlAll K H xs ds := by
  cases h with
  | lst s t => exact ⟨_, _, rfl, s, t⟩
theorem Dl.tup_of {H : Hp} {v : V} {ds : List PyData} (h : Dl K H v (.tuple ds)) : ∃ a xs, v = .ref a ∧ SqT K H a xs ∧ DlAll K H xs ds := by
  cases h with
  | tup s t => exact ⟨_, _, rfl, s, t⟩
/-- a list of texts -/
theorem Dl.names {H : Hp} {v : V} {ns : List Str} (h : Dl K H v (.list (ns.map .str))) : ∃ a, v = .ref a ∧ H a = some (.lst (ns.map .str)) := by
  obtain ⟨a, xs, rfl, ha, hx⟩ := h.lst_of
  rw [DlAll.strs_eq hx] at ha
  exact ⟨a, rfl, ha⟩
theorem Dl.ofNames {H : Hp} {a : Addr} {ns : List Str} (h : H a = some (.lst (ns.map .str))) : Dl K H (.ref a) (.list (ns.map .str)) := .lst h (DlAll.strs ns)
/-- in the whole heap -/
theorem Dl.whole {m : List Addr} {H : Hp} {v : V} {d : PyData} (h : Dl K (off m H) v d) : Dl K H v d := h.mono off_same
theorem DlAll.whole {m : List Addr} {H : Hp} {v : List V} {d : List PyData} (h : DlAll K (off m H) v d) : DlAll K H v d := h.mono off_same
theorem Dl.k {m : List Addr} {H H' : Hp} {v : V} {d : PyData} (h : Dl K (off m H) v d) (k : Keep m H H') : Dl K (off m H') v d := h.mono k.off
theorem DlAll.k {m : List Addr} {H H' : Hp} {v : List V} {d : List PyData} (h : DlAll K (off m H) v d) (k : Keep m H H') : DlAll K (off m H') v d := h.mono k.off
theorem Dl.k0 {m : List Addr} {H H' : Hp} {v : V} {d : PyData} (h : Dl K (off m H) v d) (k : Keep [] H H') : Dl K (off m H') v d := h.mono k.off0
theorem DlAll.k0 {m : List Addr} {H H' : Hp} {v : List V} {d : List PyData} (h : DlAll K (off m H) v d) (k : Keep [] H H') : DlAll K (off m H') v d := h.mono k.off0

/-! ### expressions: from H0 on, te gives the data d -/
variable {m : List Addr} {σ : L2.St} {H0 : Hp}
def LlE (K : PySem.W.Frag) (m : List Addr) (te : TE) (σ : L2.St) (H0 : Hp) (d : PyData) : Prop := ∀ H, Keep [] H0 H → ∀ Q : VK, (∀ v H', Keep [] H H' → Dl K (off m H') v d → Q v H') → te σ H Q
def LlA (K : PySem.W.Frag) (m : List Addr) (ta : TA) (σ : L2.St) (H0 : Hp) (ds : List PyData) : Prop := ∀ H, Keep [] H0 H → ∀ Q : List V → Hp → Prop, (∀ xs H', Keep [] H H' → DlAll K (off m H') xs ds → Q xs H') → ta σ H Q
theorem LlE.cast {te : TE} {d e : PyData} (h : LlE K m te σ H0 d) (q : d = e) : LlE K m te σ H0 e := q ▸ h
theorem LlE.later {te : TE} {d : PyData} {H1 : Hp} (h : LlE K m te σ H0 d) (k : Keep [] H0 H1) : LlE K m te σ H1 d := fun H k1 Q q => h H (k.trans k1) Q q
theorem LlA.nil : LlA K m tNil σ H0 [] := fun H _ Q k => k [] H Keep.refl .nil
theorem LlA.cons {te : TE} {ta : TA} {d : PyData} {ds : List PyData} (h : LlE K m te σ H0 d) (t : LlA K m ta σ H0 ds) : LlA K m (tCons te ta) σ H0 (d :: ds) :=
  fun H k0 Q k => h H k0 _ fun v H1 k1 d1 => t H1 (k0.trans k1) _ fun xs H2 k2 d2 => k _ _ (k1.trans k2) (.cons (d1.k0 k2) d2)
theorem LlE.str {x : Str} : LlE K m (tC (.str x)) σ H0 (.str x) := fun H _ Q k => k _ _ Keep.refl (.str x)
theorem LlE.bl {x : Bool} : LlE K m (tC (.bl x)) σ H0 (.bool x) := fun H _ Q k => k _ _ Keep.refl (.bl x)
theorem LlE.int {x : Int} : LlE K m (tC (.int x)) σ H0 (.int x) := fun H _ Q k => k _ _ Keep.refl (.int x)
theorem LlE.non : LlE K m (tC .non) σ H0 .none := fun H _ Q k => k _ _ Keep.refl .non
theorem LlE.var {i : Nat} {v : V} {d : PyData} (h : σ[i]? = some (some v)) (dv : Dl K (off m H0) v d) : LlE K m (tVar i) σ H0 d := fun H k0 Q k => ⟨_, h, k _ _ Keep.refl (dv.k0 k0)⟩
theorem LlE.dic (l : Live m H0) : LlE K m tDNewK σ H0 (.dict []) := fun H k0 Q k p hp => k _ _ (Keep.new hp) (.dic (off_new (l.keep k0) hp))
theorem LlE.tup {ta : TA} {ds : List PyData} (l : Live m H0) (h : LlA K m ta σ H0 ds) (n : Nat.ble ds.length 100 = true := by rfl) : LlE K m (tTup ta) σ H0 (.tuple ds) :=
  fun H k0 Q k => h H k0 _ fun xs H1 k1 d1 => ⟨by rw [d1.length]; exact Nat.le_trans (Nat.le_of_ble_eq_true n) (by decide), fun p hp => k _ _ (k1.trans (Keep.new hp)) (.tup (SqT.of (off_new ((l.keep k0).keep k1) hp)) (d1.k0 (Keep.new hp)))⟩
theorem LlE.lst {ta : TA} {ds : List PyData} (l : Live m H0) (h : LlA K m ta σ H0 ds) (n : Nat.ble ds.length 100 = true := by rfl) : LlE K m (tLst ta) σ H0 (.list ds) :=
  fun H k0 Q k => h H k0 _ fun xs H1 k1 d1 => ⟨by rw [d1.length]; exact Nat.le_trans (Nat.le_of_ble_eq_true n) (by decide), fun p hp => k _ _ (k1.trans (Keep.new hp)) (.lst (off_new ((l.keep k0).keep k1) hp) (d1.k0 (Keep.new hp)))⟩
/-- x + y of lists -/
theorem LlE.cat {ta tb : TE} {ds es : List PyData} (l : Live m H0) (h : LlE K m ta σ H0 (.list ds)) (t : LlE K m tb σ H0 (.list es)) (n : ds.length + es.length ≤ 100) : LlE K m (tOp rCat ta tb) σ H0 (.list (ds ++ es)) := by
  intro H k0 Q k
  refine h H k0 _ fun v H1 k1 d1 => t H1 (k0.trans k1) _ fun u H2 k2 d2 => ?_
  obtain ⟨a, xs, rfl, ha, da⟩ := (d1.k0 k2).lst_of
  obtain ⟨b, ys, rfl, hb, db⟩ := d2.lst_of
  refine ⟨a, b, xs, ys, rfl, rfl, (off_some ha).2, (off_some hb).2, ?_, fun p hp => ?_⟩
  · rw [da.length, db.length]
    exact Nat.le_trans n (by decide)
  · exact k _ _ ((k1.trans k2).trans (Keep.new hp)) (.lst (off_new (l.keep (k0.trans (k1.trans k2))) hp) ((da.append db).k0 (Keep.new hp)))
/-- x * n of lists -/
theorem LlE.rep {ta tn : TE} {ds : List PyData} {z : Int} (l : Live m H0) (h : LlE K m ta σ H0 (.list ds)) (hn : ∀ H1 (Q : VK), Q (.int z) H1 → tn σ H1 Q) (z0 : -100 ≤ z) (z1 : z ≤ 100) (n : ds.length ≤ 100) : LlE K m (tOp rRep ta tn) σ H0 (.list (List.replicate z.toNat ds).flatten) := by
  intro H k0 Q k
  refine h H k0 _ fun v H1 k1 d1 => ?_
  refine hn H1 _ ?_
  obtain ⟨a, xs, rfl, ha, da⟩ := d1.lst_of
  refine ⟨a, z, xs, rfl, rfl, (off_some ha).2, by omega, by omega, ?_, fun p hp => ?_⟩
  · rw [da.length]
    exact Nat.le_trans (Nat.mul_le_mul n (show z.toNat ≤ 100 by omega)) (by decide)
  · exact k _ _ (k1.trans (Keep.new hp)) (.lst (off_new (l.keep (k0.trans k1)) hp) ((da.rep _).k0 (Keep.new hp)))
/-- x + y of tuples -/
theorem LlE.catA {ta tb : TE} {ds es : List PyData} (l : Live m H0) (h : LlE K m ta σ H0 (.tuple ds)) (t : LlE K m tb σ H0 (.tuple es)) (n : ds.length + es.length ≤ 100) : LlE K m (tOp (rCatA K) ta tb) σ H0 (.tuple (ds ++ es)) := by
  intro H k0 Q k
  refine h H k0 _ fun v H1 k1 d1 => t H1 (k0.trans k1) _ fun u H2 k2 d2 => ?_
  have d1' := d1.k0 k2
  obtain ⟨a, xs, rfl, ha, da⟩ := d1'.tup_of
  obtain ⟨b, ys, rfl, hb, db⟩ := d2.tup_of
  have kk := k1.trans k2
  refine ⟨a, b, xs, ys, rfl, rfl, sqT_same off_same ha, sqT_same off_same hb, ?_, fun e => ?_, fun _ e => ?_, fun _ _ p hp => ?_⟩
  · rw [da.length, db.length]
    exact Nat.le_trans n (by decide)
  · subst e
    cases da
    exact k _ _ kk d2
  · subst e
    cases db
    rw [List.append_nil] at k
    exact k _ _ kk d1'
  · exact k _ _ (kk.trans (Keep.new hp)) (.tup (SqT.of (off_new (l.keep (k0.trans kk)) hp)) ((da.append db).k0 (Keep.new hp)))
theorem LlE.revT {ta : TE} {ds : List PyData} (l : Live m H0) (h : LlE K m ta σ H0 (.tuple ds)) : LlE K m (tRevT K ta) σ H0 (.tuple ds.reverse) := by
  intro H k0 Q k
  refine h H k0 _ fun v H1 k1 d1 => ?_
  obtain ⟨a, xs, rfl, ha, da⟩ := d1.tup_of
  exact ⟨a, xs, rfl, sqT_same off_same ha, fun p hp => k _ _ (k1.trans (Keep.new hp)) (.tup (SqT.of (off_new (l.keep (k0.trans k1)) hp)) (da.rev.k0 (Keep.new hp)))⟩
/-- t[n:] of a tuple -/
theorem LlE.dropT {ta : TE} {tn : TO} {ds : List PyData} {n : Nat} (l : Live m H0) (h : LlE K m ta σ H0 (.tuple ds)) (hn : ∀ H1 (Q : Option Int → Hp → Prop), Q (some (n : Int)) H1 → tn σ H1 Q) : LlE K m (tSl (SM.rSlA K) ta tn tNoPart) σ H0 (.tuple (ds.drop n)) := by
  intro H k0 Q k
  refine h H k0 _ fun v H2 k2 d2 => ?_
  refine hn H2 _ ?_
  obtain ⟨a, xs, rfl, ha, da⟩ := d2.tup_of
  have ha' := sqT_same off_same ha
  by_cases hw : HT.sIx xs.length 0 (some (n : Int)) = 0 ∧ HT.sIx xs.length xs.length none = xs.length
  · refine .inr ⟨a, xs, rfl, ha', hw, ?_⟩
    have e := hw.1
    rw [HT.sIx_nat, da.length] at e
    rcases Nat.eq_zero_or_pos n with z | z
    · subst z
      exact k _ _ k2 d2
    · have e2 : ds = [] := List.eq_nil_of_length_eq_zero (by omega)
      subst e2
      rw [List.drop_nil] at k
      exact k _ _ k2 d2
  · refine .inl ⟨a, xs, rfl, ha', hw, fun p hp => ?_⟩
    have e : cutV xs (some (n : Int)) none = xs.drop n := by
      unfold cutV
      rw [HT.sIx_nat, HT.sIx_none, List.take_of_length_le (by rw [List.length_drop]; exact Nat.le_refl _)]
      rcases Nat.le_total n xs.length with z | z
      · rw [Nat.min_eq_left z]
      · rw [Nat.min_eq_right z, List.drop_length, List.drop_of_length_le z]
    refine k _ _ (k2.trans (Keep.new hp)) (.tup (SqT.of (off_new (l.keep (k0.trans k2)) hp)) ?_)
    rw [e]
    exact (da.drop n).k0 (Keep.new hp)
/-- x[:n] of a list -/
theorem LlE.takeL {ta : TE} {tn : TO} {ds : List PyData} {n : Nat} (l : Live m H0) (h : LlE K m ta σ H0 (.list ds)) (hn : ∀ H1 (Q : Option Int → Hp → Prop), Q (some (n : Int)) H1 → tn σ H1 Q) : LlE K m (tSl (rSlL K) ta tNoPart tn) σ H0 (.list (ds.take n)) := by
  intro H k0 Q k
  refine h H k0 _ fun v H2 k2 d2 => ?_
  refine hn H2 _ ?_
  obtain ⟨a, xs, rfl, ha, da⟩ := d2.lst_of
  refine ⟨a, xs, rfl, SqL.of (off_some ha).2, fun p hp => ?_⟩
  have e : cutV xs none (some (n : Int)) = xs.take n := by
    unfold cutV
    rw [HT.sIx_nat, HT.sIx_none, List.drop_zero, Nat.sub_zero, List.take_eq_take_iff]
    omega
  refine k _ _ (k2.trans (Keep.new hp)) (.lst (off_new (l.keep (k0.trans k2)) hp) ?_)
  rw [e]
  exact (da.take n).k0 (Keep.new hp)
/-- x[:-1] of a list -/
theorem LlE.initL {ta : TE} {tn : TO} {ds : List PyData} (l : Live m H0) (h : LlE K m ta σ H0 (.list ds)) (hn : ∀ H1 (Q : Option Int → Hp → Prop), Q (some (-1)) H1 → tn σ H1 Q) : LlE K m (tSl (rSlL K) ta tNoPart tn) σ H0 (.list (ds.take (ds.length - 1))) := by
  intro H k0 Q k
  refine h H k0 _ fun v H2 k2 d2 => ?_
  refine hn H2 _ ?_
  obtain ⟨a, xs, rfl, ha, da⟩ := d2.lst_of
  refine ⟨a, xs, rfl, SqL.of (off_some ha).2, fun p hp => ?_⟩
  have e : cutV xs none (some (-1)) = xs.take (ds.length - 1) := by
    unfold cutV
    rw [HT.sIx_none, List.drop_zero, Nat.sub_zero, ← da.length]
    show xs.take (if (-1 : Int) < 0 then ((-1 : Int) + (xs.length : Int)).toNat else min (-1 : Int).toNat xs.length) = _
    rw [if_pos (by decide)]
    congr 1
    omega
  refine k _ _ (k2.trans (Keep.new hp)) (.lst (off_new (l.keep (k0.trans k2)) hp) ?_)
  rw [e]
  exact (da.take _).k0 (Keep.new hp)
/-- x[n:] of a list -/
theorem LlE.dropL {ta : TE} {tn : TO} {ds : List PyData} {n : Nat} (l : Live m H0) (h : LlE K m ta σ H0 (.list ds)) (hn : ∀ H1 (Q : Option Int → Hp → Prop), Q (some (n : Int)) H1 → tn σ H1 Q) : LlE K m (tSl (rSlL K) ta tn tNoPart) σ H0 (.list (ds.drop n)) := by
  intro H k0 Q k
  refine h H k0 _ fun v H2 k2 d2 => ?_
  refine hn H2 _ ?_
  obtain ⟨a, xs, rfl, ha, da⟩ := d2.lst_of
  refine ⟨a, xs, rfl, SqL.of (off_some ha).2, fun p hp => ?_⟩
  have e : cutV xs (some (n : Int)) none = xs.drop n := by
    unfold cutV
    rw [HT.sIx_nat, HT.sIx_none, List.take_of_length_le (by rw [List.length_drop]; exact Nat.le_refl _)]
    rcases Nat.le_total n xs.length with z | z
    · rw [Nat.min_eq_left z]
    · rw [Nat.min_eq_right z, List.drop_length, List.drop_of_length_le z]
  refine k _ _ (k2.trans (Keep.new hp)) (.lst (off_new (l.keep (k0.trans k2)) hp) ?_)
  rw [e]
  exact (da.drop n).k0 (Keep.new hp)
theorem at_neg {α : Type} {xs : List α} {v : α} (h : xs[xs.length - 1]? = some v) : atI xs (-1) = some v := by
  have hn : xs.length - 1 < xs.length := by
    rcases Nat.lt_or_ge (xs.length - 1) xs.length with z | z
    · exact z
    · rw [List.getElem?_eq_none z] at h
      cases h
  have e : (-(xs.length : Int)) ≤ -1 := by omega
  unfold atI ixN
  rw [if_neg (by decide), if_pos e, Option.bind_some]
  rw [show ((-1 : Int) + (xs.length : Int)).toNat = xs.length - 1 by omega]
  exact h
/-- x[i], i from the left, or the last one -/
theorem LlE.ixL {ta ti : TE} {ds : List PyData} {d : PyData} {i : Int} {n : Nat} (h : LlE K m ta σ H0 (.list ds)) (hn : ∀ H1 (Q : VK), Q (.int i) H1 → ti σ H1 Q) (e : ds[n]? = some d) (hi : i = n ∨ (i = -1 ∧ n = ds.length - 1)) : LlE K m (tOp (rIx K) ta ti) σ H0 d := by
  intro H k0 Q k
  refine h H k0 _ fun v H2 k2 d2 => ?_
  refine hn H2 _ ?_
  obtain ⟨a, xs, rfl, ha, da⟩ := d2.lst_of
  obtain ⟨v, hv, dv⟩ := da.getD e
  refine .inl ⟨a, xs, _, v, rfl, rfl, SqL.of (off_some ha).2, ?_, k _ _ k2 dv⟩
  rcases hi with rfl | ⟨rfl, rfl⟩
  · exact atI_n hv
  · rw [← da.length] at hv
    exact at_neg hv
theorem LlE.ixT {ta ti : TE} {ds : List PyData} {d : PyData} {i : Int} {n : Nat} (h : LlE K m ta σ H0 (.tuple ds)) (hn : ∀ H1 (Q : VK), Q (.int i) H1 → ti σ H1 Q) (e : ds[n]? = some d) (hi : i = n ∨ (i = -1 ∧ n = ds.length - 1)) : LlE K m (tOp (rIx K) ta ti) σ H0 d := by
  intro H k0 Q k
  refine h H k0 _ fun v H2 k2 d2 => ?_
  refine hn H2 _ ?_
  obtain ⟨a, xs, rfl, ha, da⟩ := d2.tup_of
  obtain ⟨v, hv, dv⟩ := da.getD e
  refine .inr (.inl ⟨a, xs, _, v, rfl, rfl, sqT_same off_same ha, ?_, k _ _ k2 dv⟩)
  rcases hi with rfl | ⟨rfl, rfl⟩
  · exact atI_n hv
  · rw [← da.length] at hv
    exact at_neg hv
/-- len(x) -/
theorem LlE.len {ta : TE} {ds : List PyData} {H : Hp} {Q : VK} (h : LlE K m ta σ H0 (.list ds) ∨ LlE K m ta σ H0 (.tuple ds)) (k0 : Keep [] H0 H) (k : ∀ H2, Keep [] H H2 → Q (.int (ds.length : Int)) H2) : tCB (fun xs H Q => ∃ p ys, xs = [V.ref p] ∧ (SqL K H p ys ∨ SqT K H p ys) ∧ Q (.int (ys.length : Int)) H) (tCons ta tNil) σ H Q := by
  rcases h with h | h
  · refine h H k0 _ fun v H2 k2 d2 => ?_
    obtain ⟨a, xs, rfl, ha, da⟩ := d2.lst_of
    exact ⟨a, xs, rfl, .inl (SqL.of (off_some ha).2), by rw [da.length]; exact k _ k2⟩
  · refine h H k0 _ fun v H2 k2 d2 => ?_
    obtain ⟨a, xs, rfl, ha, da⟩ := d2.tup_of
    exact ⟨a, xs, rfl, .inr (sqT_same off_same ha), by rw [da.length]; exact k _ k2⟩
/-- a list of such, the last step told: the new one is none of m -/
theorem LlE.fresh {te : TE} {ds : List PyData} {H : Hp} {Q : VK} (h : LlE K m te σ H0 (.list ds)) (k0 : Keep [] H0 H) (k : ∀ p xs H', p ∉ m → Keep [] H H' → H' p = some (.lst xs) → DlAll K (off m H') xs ds → Q (.ref p) H') : te σ H Q :=
  h H k0 _ fun v H1 k1 d1 => by
    obtain ⟨a, xs, rfl, ha, da⟩ := d1.lst_of
    exact k a xs H1 (off_some ha).1 k1 (off_some ha).2 da
end SM
namespace SM
open PySem PySem.Spec PyProof.Rows L2
variable {K : PySem.W.Frag} {m : List Addr} {σ : L2.St} {H0 : Hp}
/-- a list display of such; its items stand without it -/
theorem LlA.lst {ta : TA} {ds : List PyData} {H : Hp} {Q : VK} (h : LlA K m ta σ H0 ds) (k0 : Keep [] H0 H) (n : Nat.ble ds.length 100 = true) (k : ∀ p xs H', H p = none → Keep [] H H' → H' p = some (.lst xs) → DlAll K (off (p :: m) H') xs ds → Q (.ref p) H') : tLst ta σ H Q :=
  h H k0 _ fun xs H1 k1 d1 => ⟨by rw [d1.length]; exact Nat.le_trans (Nat.le_of_ble_eq_true n) (by decide), fun p hp => k p xs _ (k1.free (by simp) hp) (k1.trans (Keep.new hp)) upd_same (d1.mono (off_fresh hp))⟩
theorem rep_length {α : Type} (ds : List α) : ∀ n, ((List.replicate n ds).flatten).length = n * ds.length
  | 0 => by simp
  | n + 1 => by rw [List.replicate_succ, List.flatten_cons, List.length_append, rep_length ds n, Nat.succ_mul, Nat.add_comm]
theorem mem_rep {α : Type} {ds : List α} {d : α} : ∀ {n : Nat}, d ∈ (List.replicate n ds).flatten → d ∈ ds ∧ 0 < n
  | 0, h => by simp at h
  | n + 1, h => by
    rw [List.replicate_succ, List.flatten_cons] at h
    rcases List.mem_append.mp h with h | h
    · exact ⟨h, Nat.succ_pos _⟩
    · exact ⟨(mem_rep h).1, Nat.succ_pos _⟩
end SM
set_option Elab.async false
set_option linter.all false
set_option maxRecDepth 100000
set_option maxHeartbeats 2000000
/-! z[::-1] of a text -/
namespace SM
open PySem PySem.Spec PyProof.Rows L2
def revS (z : Str) : Str := ⟨((Builtin.Str.strSliceIndices none none (-1) z.length).filterMap (z.cps[·]?)).toArray⟩
def tRevS (te : TE) : TE := fun σ H Q => te σ H fun x H1 => ∃ z, x = .str z ∧ (revS z).length ≤ sizeLine ∧ Q (.str (revS z)) H1
theorem pe_revS {X : Cx} {e : Expr} {te : TE} {k : Nat} {p1 p2 p3 pos : Pos} (he : PE X e te) : PE X (.Subscript e (.Slice none none (some (.UnaryOp .USub (.Constant (.int 1) k p1) p2)) p3) pos) (tRevS te) := by
  refine ⟨fun pins s σ H Q I h => ?_⟩
  refine Subscript_ (thn (he.run pins s σ H _ I h) fun v s1 ⟨x, H1, I1, r1, q1⟩ => ?_)
  obtain ⟨z, ex, hz, q⟩ := q1
  subst ex
  obtain ⟨t, rfl⟩ := r1
  have hst : PO X (some (.UnaryOp .USub (.Constant (.int 1) k p1) p2)) (tPart (tUn (rU fun i => .int (-i)) (tC (.int 1)))) := po_some (pe_un un_neg pe_int)
  refine wpAny_Slice (thn (po_none.run pins s1 σ H1 (fun o H2 => o = none ∧ H2 = H1) I1 ⟨rfl, rfl⟩) fun vl s2 ⟨l, H2, I2, pl, el, e2⟩ => ?_)
  subst el e2
  refine thn (po_none.run pins s2 σ H2 (fun o H3 => o = none ∧ H3 = H2) I2 ⟨rfl, rfl⟩) fun vu s3 ⟨u, H3, I3, pu, eu, e3⟩ => ?_
  subst eu e3
  refine thn (hst.run pins s3 σ H3 (fun o H4 => o = some (-1) ∧ H4 = H3) I3 ⟨1, rfl, -1, rfl, rfl, rfl⟩) fun vs s4 ⟨o, H4, I4, ps, eo, e4⟩ => ?_
  subst eo e4
  cases pl
  cases pu
  obtain ⟨n, hn, hv⟩ := IsPart.raw ps
  obtain ⟨tk, rfl⟩ : ∃ tk, n = some (-1, tk) := by
    cases n with
    | none => cases hv
    | some w =>
      obtain ⟨i, tk⟩ := w
      have e : i = -1 := Option.some.inj hv
      subst e
      exact ⟨tk, rfl⟩
  subst hn
  have I5 : Inv X pins σ H4 { s4 with heap := s4.heap.push { cls := .type "slice", data := .fields #[.none, .none, partValue (some (-1, tk))] } } := I4.kept (t' := s4.toks) fun b ob q => Heap.get?_push_of_some _ q
  refine tail_any (ops := [.str z t, .ref s4.heap.objs.size]) (typeIs_str _ _ _) (F.slot_str_getitem.lookup) ?_ (by with_unfolding_all rfl)
  refine wpAny_getItem_str_slice (l := none) (u := none) (st := some (-1, tk)) ⟨_, Heap.get?_push_size _ rfl, rfl, rfl⟩ rfl ?_
  show Made.post (if ((-1 : Int) == 1 && (Builtin.Str.strSliceIndices none none (-1) z.length).length == z.length) = true then Made.val (.str z t)
    else Made.str ⟨((Builtin.Str.strSliceIndices none none (-1) z.length).filterMap (z.cps[·]?)).toArray⟩) (EP X pins σ Q) _
  rw [if_neg (by rw [show ((-1 : Int) == 1) = false from rfl, Bool.false_and]; decide)]
  exact ⟨hz, .str _, H4, I5.tok _, ⟨_, rfl⟩, q⟩
end SM
set_option Elab.async false
set_option linter.all false
set_option maxRecDepth 100000
set_option maxHeartbeats 2000000
/-! repr of any data, flat or not; numbers of any size. -/
namespace SM
open PySem PySem.Spec PyProof.Rows L2
section
variable {X : Cx} {pins : List Value} {s : SharedT} {H : Hp}
/-- repr(x), x any data -/
def rReprA (K : PySem.W.Frag) : List V → Hp → VK → Prop := fun xs H Q => ∃ (v : V) (d : PyData), xs = [v] ∧ Dq K H v d ∧ d.showable = true ∧ d.depth ≤ 60 ∧ d.shown.length ≤ sizeLine ∧ Q (.str d.shown) H
theorem call_reprA (sm : Sm X.base) (gd : X.A.guards = some []) (hu : X.A.units + 64 < cLine) : CallR X (.builtin "repr") (rReprA X.K) := by
  intro pins s σ H xs us Q I r h
  obtain ⟨v, d, rfl, hd, hs, hp, hz, q⟩ := h
  cases hd with
  | lst a b => exact call_repr sm gd hu pins s σ H _ us Q I r ⟨_, _, rfl, .lst a b, hs, hp, hz, q⟩
  | tup a b => exact call_repr sm gd hu pins s σ H _ us Q I r ⟨_, _, rfl, .tup a b, hs, hp, hz, q⟩
  | dic a b => exact call_repr sm gd hu pins s σ H _ us Q I r ⟨_, _, rfl, .dic a b, hs, hp, hz, q⟩
  | non =>
    obtain ⟨u, rfl, ru⟩ := vals1 r
    obtain rfl : u = Value.none := ru
    refine P.repr_of_none ?_
    exact ⟨.str _, H, I.kept (fun _ _ e => e), ⟨_, rfl⟩, q⟩
  | bl b =>
    obtain ⟨u, rfl, ru⟩ := vals1 r
    obtain rfl : u = Value.bool b := ru
    refine P.repr_of_bool ?_
    exact ⟨.str _, H, I.kept (fun _ _ e => e), ⟨_, rfl⟩, q⟩
  | int i =>
    obtain ⟨u, rfl, ⟨t, rfl⟩⟩ := vals1 r
    refine P.repr_of_int ?_ ?_
    · rw [PyData.showable] at hs
      exact of_decide_eq_true hs
    exact ⟨.str _, H, I.kept (fun _ _ e => e), ⟨_, rfl⟩, q⟩
  | str x =>
    obtain ⟨u, rfl, ⟨t, rfl⟩⟩ := vals1 r
    rw [PyData.shown] at hz q
    refine P.repr_of_str ?_ hz
    exact ⟨.str _, H, I.kept (fun _ _ e => e), ⟨_, rfl⟩, q⟩
end
end SM
set_option Elab.async false
set_option linter.all false
set_option maxRecDepth 100000
set_option maxHeartbeats 4000000
namespace La
open PySem PySem.Spec PyProof.Rows L2 SM
section
variable {P : Program} {w : World} {K : PySem.W.Frag} {mg : Str → Option Value} {base : Heap}
abbrev s__law_draw : Stmt := (top 62)
abbrev N__law_draw : List Str := ["source", "span", "found"]
abbrev P__law_draw : List Str := ["source", "span"]
theorem sc__law_draw : FnScope N__law_draw P__law_draw (defScope s__law_draw) := ⟨rfl, rfl, rfl, by decide +kernel, rfl, by decide +kernel, by decide +kernel⟩
theorem D_law_draw (W : Cw fas fns K mg) : DefOk P w K mg base CX0 1 "_law_draw" P__law_draw spDraw := by
  refine DefOk.of W 19 51 (st := s__law_draw) rfl rfl sc__law_draw (fun _ _ _ _ _ _ us hl => match us, hl with | [_, _], _ => rfl) (fun vs H Q E h => ?_) (fun cdv A outer s H vs Q E hr h => ?_)
  · obtain ⟨a, span, rfl, _⟩ := h
    rfl
  · obtain ⟨a, span, rfl, ⟨x, y, ea, hx, hy, hy2⟩, hs, hs2, k⟩ := h
    refine ⟨_, PSs.nox (pss_cons (ps_if (pt_cmpR op_ge (pe_ix ix_seq (pv 0) pe_int (fun _ _ => rfl)) (pv 1) (nomark _)) (pss_cons (ps_set (i := 2) sc__law_draw.nd rfl (by first | exact Or.inl rfl | exact Or.inr rfl) (pe_op op_modN (pe_callTy call_int1 (by rfl) (W.fre 72) (by decide +kernel) (pa_cons (pe_ix ix_seq (pv 0) pe_int (fun _ _ => rfl)) pa_nil)) (pv 1))) (pss_cons (ps_asg (pe_op op_fdivN (pe_ix ix_seq (pv 0) pe_int (fun _ _ => rfl)) (pv 1)) (pg_sub (pv 0) pe_int set_list)) (pss_one (ps_ret (pv 2))))) pss_nil) (pss_cons (ps_asg (pe_op op_modN (pe_callTy call_int1 (by rfl) (W.fre 72) (by decide +kernel) (pa_cons (pe_op op_add (pe_op op_mul (pe_ix ix_seq (pv 0) pe_int (fun _ _ => rfl)) pe_int) pe_int) pa_nil)) pe_int) (pg_sub (pv 0) pe_int set_list)) (pss_one (ps_ret (pe_op op_modN (pe_callTy call_int1 (by rfl) (W.fre 72) (by decide +kernel) (pa_cons (pe_op op_fdivN (pe_op op_modN (pe_callTy call_int1 (by rfl) (W.fre 72) (by decide +kernel) (pa_cons (pe_op op_pow (pe_callTy call_int1 (by rfl) (W.fre 72) (by decide +kernel) (pa_cons (pe_ix ix_seq (pv 0) pe_int (fun _ _ => rfl)) pa_nil)) pe_int) pa_nil)) pe_int) pe_int) pa_nil)) (pv 1)))))), ?_⟩
    have ix0 : ∀ {H : Hp} {x y : Int}, H a = some (.lst [.int x, .int y]) → ∀ {Q : VK}, Q (.int x) H → rIx K (.ref a) (.int 0) H Q := by
      intro H x y e Q q
      exact .inl ⟨a, _, 0, _, rfl, rfl, SqL.of e, rfl, q⟩
    have ix1 : ∀ {H : Hp} {x y : Int}, H a = some (.lst [.int x, .int y]) → ∀ {Q : VK}, Q (.int y) H → rIx K (.ref a) (.int 1) H Q := by
      intro H x y e Q q
      exact .inl ⟨a, _, 1, _, rfl, rfl, SqL.of e, rfl, q⟩
    refine ⟨_, rfl, ix0 ea ⟨_, rfl, _, _, rfl, rfl, _, rfl, ?_⟩⟩
    refine ite2 (fun c => ?_) (fun c => ?_)
    · refine ⟨_, rfl, ix0 ea (.inl ⟨_, rfl, _, rfl, _, _, rfl, rfl, by omega, ?_⟩)⟩
      refine ⟨_, rfl, ix0 ea ⟨_, rfl, _, _, rfl, rfl, ⟨by omega, by omega⟩, ?_⟩⟩
      refine ⟨_, rfl, a, _, 0, 0, rfl, rfl, ea, rfl, ?_⟩
      refine ⟨_, rfl, ?_⟩
      have m := fmod_pos (i := x) hs
      exact k _ _ m.1 m.2 (Keep.at_ (by simp)) ⟨_, _, upd_same, fdiv_nn hx hs, hy, hy2⟩
    · refine ⟨_, rfl, ix1 ea ⟨_, _, rfl, rfl, .inl ⟨by omega, by omega⟩, _, _, rfl, rfl, .inl ⟨_, rfl, _, _, rfl, rfl, (fun z => by cases z), ?_⟩⟩⟩
      refine ⟨_, rfl, a, _, 1, 1, rfl, rfl, ea, rfl, ?_⟩
      have m := fmod_pos (i := y * 40692 + 7919) (j := 2147483399) (by decide)
      refine ⟨_, rfl, .inl ⟨a, _, 1, _, rfl, rfl, SqL.of upd_same, rfl, ?_⟩⟩
      refine .inl ⟨_, rfl, _, _, rfl, rfl, ⟨by decide, by decide, by omega⟩, .inl ⟨_, rfl, _, _, rfl, rfl, (fun z => by cases z), _, _, rfl, rfl, ⟨(fun z => by cases z), (by show (11 : Int).natAbs < 1073741824; decide)⟩, .inl ⟨_, rfl, _, rfl, _, _, rfl, rfl, by omega, ?_⟩⟩⟩
      have m2 := fmod_pos (i := (((y * 40692 + 7919).fmod 2147483399) ^ (5 : Int).toNat).fmod 1000000007 |>.fdiv 11) hs
      exact k _ _ m2.1 m2.2 (Keep.at_ (by simp)) ⟨_, _, upd_same, hx, m.1, by omega⟩
end
section
variable {P : Program} {w : World} {K : PySem.W.Frag} {mg : Str → Option Value} {base : Heap}
abbrev s__law_source : Stmt := (top 61)
abbrev N__law_source : List Str := ["script", "start", "mixed", "cell", "rest"]
abbrev P__law_source : List Str := ["script", "start"]
theorem sc__law_source : FnScope N__law_source P__law_source (defScope s__law_source) := ⟨rfl, rfl, rfl, by decide +kernel, rfl, by decide +kernel, by decide +kernel⟩
theorem D_law_source (W : Cw fas fns K mg) : DefOk P w K mg base CX0 1 "_law_source" P__law_source (spSource K) := by
  refine DefOk.of W 18 50 (st := s__law_source) rfl rfl sc__law_source (fun _ _ _ _ _ _ us hl => match us, hl with | [_, _], _ => rfl) (fun vs H Q E h => ?_) (fun cdv A outer s H vs Q E hr h => ?_)
  · obtain ⟨a, ns, start, rfl, _⟩ := h
    rfl
  · obtain ⟨a, ns, start, rfl, hS, hl, hb, h0, h1, k⟩ := h
    refine ⟨_, PSs.nox (pss_cons (ps_set (i := 2) sc__law_source.nd rfl (by first | exact Or.inl rfl | exact Or.inr rfl) (pe_op op_add pe_int (pv 1))) (pss_cons (ps_for PassesOwn.never rfl (pi_list (pv 0)) (pg_name (i := 3) sc__law_source.nd rfl (by first | exact Or.inl rfl | exact Or.inr rfl)) (pss_one (ps_set (i := 2) sc__law_source.nd rfl (by first | exact Or.inl rfl | exact Or.inr rfl) (pe_op op_add (pe_op op_modN (pe_callTy call_int1 (by rfl) (W.fre 72) (by decide +kernel) (pa_cons (pe_op SM.op_powW (pe_callTy call_int1 (by rfl) (W.fre 72) (by decide +kernel) (pa_cons (pe_op op_add (pe_op op_mul (pv 2) pe_int) (pe_callTy call_int1 (by rfl) (W.fre 72) (by decide +kernel) (pa_cons (pv 3) pa_nil))) pa_nil)) pe_int) pa_nil)) pe_int) pe_int)))) (pss_cons (ps_set (i := 4) sc__law_source.nd rfl (by first | exact Or.inl rfl | exact Or.inr rfl) pe_int) (pss_cons (ps_if (PW.pt (pw_and (pt_cmpR op_lt (pv 1) (pe_callB call_len_seq (by rfl) (W.fre 74) (by decide +kernel) (pa_cons (pv 0) pa_nil)) (nomark _)) (pw_and1 (pt_cmpR op_ge (pe_ix ix_seq (pv 0) (pv 1) (fun _ _ => rfl)) (pe_op op_pow pe_int pe_int) (nomark _))))) (pss_one (ps_set (i := 4) sc__law_source.nd rfl (by first | exact Or.inl rfl | exact Or.inr rfl) (pe_op op_sub (pe_ix ix_seq (pv 0) (pv 1) (fun _ _ => rfl)) (pe_op op_pow pe_int pe_int)))) pss_nil) (pss_one (ps_ret (pe_lst (pa_cons (pv 4) (pa_cons (pv 2) pa_nil))))))))), ?_⟩
    refine ⟨_, rfl, _, _, rfl, rfl, ?_⟩
    refine ⟨_, rfl, a, rfl, ⟨_, hS⟩, for_list (K := K) (a := a) (xs := ns.map V.int) (fun i σ H' => ∃ (z : Int) (v : Option V), σ = [some (.ref a), some (.int start), some (.int z), v, none] ∧ 0 ≤ z ∧ z < 1099511627776 ∧ H' = H)
      ⟨_, none, rfl, by omega, by omega, rfl⟩ (fun i σ H' _ z => by obtain ⟨_, _, _, _, _, e⟩ := z; rw [e]; exact hS) ?_ ?_⟩
    · rintro i y σ H' hi ⟨z, v, rfl, z0, z1, rfl⟩
      obtain ⟨c, hc, rfl⟩ : ∃ c, ns[i]? = some c ∧ y = V.int c := by
        rw [List.getElem?_map] at hi
        cases e : ns[i]? with
        | none =>
          rw [e] at hi
          cases hi
        | some u =>
          rw [e] at hi
          exact ⟨u, rfl, (Option.some.inj hi).symm⟩
      have bc := hb c (List.mem_of_getElem? hc)
      have bs := bits_sum (N := 1048576) (by decide) (m := z * 30011) (c := c) (by omega) bc
      have m := fmod_pos (i := (z * 30011 + c) ^ (3 : Int).toNat) (j := 2147483563) (by decide)
      refine ⟨_, rfl, _, _, rfl, rfl, .inl ⟨by omega, by omega⟩, _, rfl, .inl ⟨_, rfl, _, _, rfl, rfl, .inl ⟨_, rfl, _, _, rfl, rfl, ⟨by decide, by decide, by omega⟩, .inl ⟨_, rfl, _, _, rfl, rfl, (fun z => by cases z), _, _, rfl, rfl, ?_⟩⟩⟩⟩
      exact ⟨_, _, rfl, by omega, by omega, rfl⟩
    · rintro σ H' ⟨z, v, rfl, z0, z1, rfl⟩
      have fin : ∀ (rest : Int), 0 ≤ rest → ∀ p, H' p = none → Q (.ref p) (upd H' p (.lst [.int rest, .int z])) := fun rest hr p hp =>
        k p _ hp (Keep.new hp) ⟨rest, z, upd_same, hr, z0, z1⟩
      refine ⟨_, rfl, _, rfl, a, _, rfl, .inl hS, _, _, rfl, rfl, _, rfl, ?_⟩
      refine ite2 (fun c => ?_) (fun c => ?_)
      · have c2 : start < ((ns.map V.int).length : Int) := of_decide_eq_true c
        rw [List.length_map] at c2
        obtain ⟨n, hn⟩ : ∃ n, ns[start.toNat]? = some n := ⟨ns[start.toNat]'(by omega), List.getElem?_eq_getElem _⟩
        have at_ : atI (ns.map V.int) start = some (V.int n) := at_of (j := start.toNat) (by omega) (by rw [List.getElem?_map, hn]; rfl)
        refine ⟨_, rfl, _, rfl, .inl ⟨a, _, start, _, rfl, rfl, hS, at_, _, _, rfl, rfl, ⟨by decide, by decide, by decide⟩, _, _, rfl, rfl, _, rfl, ?_⟩⟩
        refine ite2 (fun d => ?_) (fun d => ?_)
        · have d2 : (10 : Int) ^ (18 : Int).toNat ≤ n := of_decide_eq_true d
          refine ⟨_, rfl, _, rfl, .inl ⟨a, _, start, _, rfl, rfl, hS, at_, _, _, rfl, rfl, ⟨by decide, by decide, by decide⟩, _, _, rfl, rfl, ?_⟩⟩
          exact ⟨_, rfl, _, rfl, (by show 2 ≤ sizeLine; decide), fin _ (by omega)⟩
        · exact ⟨_, rfl, _, rfl, (by show 2 ≤ sizeLine; decide), fin 0 (by omega)⟩
      · exact ⟨_, rfl, _, rfl, (by show 2 ≤ sizeLine; decide), fin 0 (by omega)⟩
end
section
variable {P : Program} {w : World} {K : PySem.W.Frag} {mg : Str → Option Value} {base : Heap}
abbrev s__law_pick : Stmt := (top 63)
abbrev N__law_pick : List Str := ["source", "things"]
abbrev P__law_pick : List Str := ["source", "things"]
theorem sc__law_pick : FnScope N__law_pick P__law_pick (defScope s__law_pick) := ⟨rfl, rfl, rfl, by decide +kernel, rfl, by decide +kernel, by decide +kernel⟩
theorem D_law_pick (W : Cw fas fns K mg) (D_law_draw : DefOk P w K mg base CX0 1 "_law_draw" P__law_draw spDraw) : DefOk P w K mg base CX0 2 "_law_pick" P__law_pick (spPick K) := by
  refine DefOk.of W 20 52 (st := s__law_pick) rfl rfl sc__law_pick (fun _ _ _ _ _ _ us hl => match us, hl with | [_, _], _ => rfl) (fun vs H Q E h => ?_) (fun cdv A outer s H vs Q E hr h => ?_)
  · obtain ⟨a, l, xs, rfl, _⟩ := h
    rfl
  · obtain ⟨a, l, xs, rfl, hs, hx, ne, l0, l1, k⟩ := h
    refine ⟨_, PSs.nox (pss_one (ps_ret (pe_ix ix_seq (pv 1) (SM.pe_callD D_law_draw (hr.mono (by decide)) pass0 (pa_cons (pv 0) (pa_cons (pe_callB call_len_seq (by rfl) (W.fre 74) (by decide +kernel) (pa_cons (pv 1) pa_nil)) pa_nil))) (fun _ _ => rfl)))), ?_⟩
    refine ⟨_, rfl, _, rfl, _, rfl, l, xs, rfl, hx, a, _, rfl, hs, by omega, by omega, fun r H' r0 r1 kp hs' => ?_⟩
    obtain ⟨v, hv⟩ : ∃ v, xs[r.toNat]? = some v := ⟨xs[r.toNat]'(by omega), List.getElem?_eq_getElem _⟩
    have at_ : atI xs r = some v := at_of (j := r.toNat) (by omega) hv
    have nl : l ∉ [a] := by simpa using ne
    rcases hx with hx | hx
    · exact .inl ⟨l, xs, r, v, rfl, rfl, kp.seqL nl hx, at_, k _ v H' hv kp hs'⟩
    · exact .inr (.inl ⟨l, xs, r, v, rfl, rfl, kp.seqT nl hx, at_, k _ v H' hv kp hs'⟩)
end
end La
set_option Elab.async false
set_option linter.all false
set_option maxRecDepth 100000
set_option maxHeartbeats 4000000
namespace La
open PySem PySem.Spec PyProof.Rows L2 SM
/-- things[draw]: a text -/
def spPickS : Sp := fun vs H Q _ => ∃ (a : Addr) (x : Str), vs = [.ref a, .str x] ∧ Src H a ∧ 0 < x.length ∧ x.length < 1000 ∧
  ∀ c H', c ∈ x.cps.toList → Keep [a] H H' → Src H' a → Q (.str ⟨#[c]⟩) H'
section
variable {P : Program} {w : World} {K : PySem.W.Frag} {mg : Str → Option Value} {base : Heap}
theorem D_law_pickS (W : Cw fas fns K mg) (D_law_draw : DefOk P w K mg base CX0 1 "_law_draw" P__law_draw spDraw) : DefOk P w K mg base CX0 2 "_law_pick" P__law_pick spPickS := by
  refine DefOk.of W 20 52 (st := s__law_pick) rfl rfl sc__law_pick (fun _ _ _ _ _ _ us hl => match us, hl with | [_, _], _ => rfl) (fun vs H Q E h => ?_) (fun cdv A outer s H vs Q E hr h => ?_)
  · obtain ⟨a, x, rfl, _⟩ := h
    rfl
  · obtain ⟨a, x, rfl, hs, l0, l1, k⟩ := h
    refine ⟨_, PSs.nox (pss_one (ps_ret (pe_ix ix_seq (pv 1) (SM.pe_callD D_law_draw (hr.mono (by decide)) pass0 (pa_cons (pv 0) (pa_cons (pe_callB call_len_str (by rfl) (W.fre 74) (by decide +kernel) (pa_cons (pv 1) pa_nil)) pa_nil))) (fun _ _ => rfl)))), ?_⟩
    refine ⟨_, rfl, _, rfl, _, rfl, x, rfl, Nat.le_trans (Nat.le_of_lt l1) (by decide), a, _, rfl, hs, by omega, by omega, fun r H' r0 r1 kp hs' => ?_⟩
    have len : x.cps.toList.length = x.length := by simp [Str.length]
    obtain ⟨c, hc⟩ : ∃ c, x.cps.toList[r.toNat]? = some c := ⟨x.cps.toList[r.toNat]'(by omega), List.getElem?_eq_getElem _⟩
    have at_ : atI x.cps.toList r = some c := by
      have h0 : ixN x.cps.toList.length r = some r.toNat := by
        unfold ixN
        rw [if_pos r0, if_pos (by omega)]
      rw [atI, h0]
      exact hc
    exact .inr (.inr ⟨x, r, c, rfl, rfl, Nat.le_trans (Nat.le_of_lt l1) (by decide), at_, k c H' (List.mem_of_getElem? hc) kp hs'⟩)
end
end La
set_option Elab.async false
set_option linter.all false
set_option maxRecDepth 100000
set_option maxHeartbeats 4000000
namespace La
open PySem PySem.Spec PyProof.Rows L2 SM
theorem app_list (x y : Str) : (x ++ y).cps.toList = x.cps.toList ++ y.cps.toList := by
  show (x.cps ++ y.cps).toList = _
  rw [Array.toList_append]
theorem strLen (x : Str) : x.length = x.cps.toList.length := by simp [Str.length]
theorem app_len (x y : Str) : (x ++ y).length = x.length + y.length := by
  rw [strLen, strLen, strLen, app_list, List.length_append]
def alph : Str := "abcdefghijklmnopqrstuvwxyz"
theorem alph_ok : ∀ c ∈ alph.cps.toList, 97 ≤ c ∧ c ≤ 122 := by
  have h : alph.cps.toList.all (fun c => decide (97 ≤ c) && decide (c ≤ 122)) = true := by decide +kernel
  intro c hc
  have := List.all_eq_true.mp h c hc
  rw [Bool.and_eq_true, decide_eq_true_eq, decide_eq_true_eq] at this
  exact this
/-- a text, and up to seven letters behind it -/
def NoteOf (L x : Str) : Prop := ∃ cs : List Nat, x.cps.toList = L.cps.toList ++ cs ∧ cs.length ≤ 7 ∧ ∀ c ∈ cs, 97 ≤ c ∧ c ≤ 122
theorem NoteOf.len {L x : Str} (h : NoteOf L x) : x.length ≤ L.length + 7 := by
  obtain ⟨cs, e, l, _⟩ := h
  rw [strLen, strLen, e, List.length_append]
  omega
def spNote : Sp := fun vs H Q _ => ∃ (a : Addr) (L : Str), vs = [.ref a, .str L] ∧ Src H a ∧ L.length ≤ 1000 ∧ ∀ x H', NoteOf L x → Keep [a] H H' → Src H' a → Q (.str x) H'
section
variable {P : Program} {w : World} {K : PySem.W.Frag} {mg : Str → Option Value} {base : Heap}
abbrev s__law_note : Stmt := (top 64)
abbrev N__law_note : List Str := ["source", "letter", "found", "turn"]
abbrev P__law_note : List Str := ["source", "letter"]
theorem sc__law_note : FnScope N__law_note P__law_note (defScope s__law_note) := ⟨rfl, rfl, rfl, by decide +kernel, rfl, by decide +kernel, by decide +kernel⟩
theorem D_law_note (W : Cw fas fns K mg) (D_law_draw : DefOk P w K mg base CX0 1 "_law_draw" P__law_draw spDraw) (D_law_pickS : DefOk P w K mg base CX0 2 "_law_pick" P__law_pick spPickS) : DefOk P w K mg base CX0 3 "_law_note" P__law_note spNote := by
  refine DefOk.of W 21 53 (st := s__law_note) rfl rfl sc__law_note (fun _ _ _ _ _ _ us hl => match us, hl with | [_, _], _ => rfl) (fun vs H Q E h => ?_) (fun cdv A outer s H vs Q E hr h => ?_)
  · obtain ⟨a, L, rfl, _⟩ := h
    rfl
  · obtain ⟨a, L, rfl, hs, hl, k⟩ := h
    refine ⟨_, PSs.nox (Evl.pss_cut (ps_set (i := 2) sc__law_note.nd rfl (by first | exact Or.inl rfl | exact Or.inr rfl) (pv 1)) (Evl.pss_cut (ps_for PassesOwn.never rfl (pi_range1 (by rfl) (W.fre 79) (pa_cons (SM.pe_callD D_law_draw (hr.mono (by decide)) pass0 (pa_cons (pv 0) (pa_cons pe_int pa_nil))) pa_nil)) (pg_name (i := 3) sc__law_note.nd rfl (by first | exact Or.inl rfl | exact Or.inr rfl)) (pss_one (ps_set (i := 2) sc__law_note.nd rfl (by first | exact Or.inl rfl | exact Or.inr rfl) (pe_op op_add_str (pv 2) (SM.pe_callD D_law_pickS (hr.mono (by decide)) pass0 (pa_cons (pv 0) (pa_cons pe_str pa_nil))))))) (pss_one (ps_ret (pv 2))))), ?_⟩
    refine ⟨fun σ' H' => σ' = [some (.ref a), some (.str L), some (.str L), none] ∧ H' = H, ⟨_, rfl, rfl, rfl⟩, ?_⟩
    rintro σ' H1 ⟨rfl, rfl⟩
    let Pv : Nat → L2.St → Hp → Prop := fun i σ' H' => ∃ (x : Str) (t : Option V) (cs : List Nat), σ' = [some (.ref a), some (.str L), some (.str x), t] ∧ x.cps.toList = L.cps.toList ++ cs ∧ cs.length = i ∧ (∀ c ∈ cs, 97 ≤ c ∧ c ≤ 122) ∧ Keep [a] H1 H' ∧ Src H' a
    refine ⟨fun σ' H' => ∃ i, i ≤ 7 ∧ Pv i σ' H', ?_, ?_⟩
    · refine ⟨_, rfl, a, 8, rfl, hs, by decide, by decide, fun r H2 r0 r1 k2 s2 => ⟨r, rfl, by omega, by omega, for_range (lo := 0) Pv ⟨L, none, [], rfl, by simp, rfl, (fun c z => by cases z), k2, s2⟩ ?_ ?_⟩⟩
      · rintro i σ' H3 hi ⟨x, t, cs, rfl, ex, lc, hc, k3, s3⟩
        refine ⟨_, rfl, _, rfl, a, alph, rfl, s3, by decide +kernel, by decide +kernel, fun c H4 mc k4 s4 => ⟨x, ⟨#[c]⟩, rfl, rfl, ?_, ?_⟩⟩
        · have : x.length = L.length + i := by rw [strLen, strLen, ex, List.length_append, lc]
          have o : (⟨#[c]⟩ : Str).length = 1 := rfl
          rw [this, o]
          exact Nat.le_trans (show L.length + i + 1 ≤ 2000 by omega) (by decide)
        · refine ⟨x ++ ⟨#[c]⟩, _, cs ++ [c], rfl, ?_, by rw [List.length_append, lc]; rfl, ?_, k3.trans k4, s4⟩
          · rw [app_list, ex, List.append_assoc]
          · intro d hd
            rcases List.mem_append.mp hd with hd | hd
            · exact hc d hd
            · rw [List.mem_singleton.mp hd]
              exact alph_ok c mc
      · rintro σ' H3 ⟨x, t, cs, rfl, ex, lc, hc, k3, s3⟩
        exact ⟨r.toNat, by omega, x, t, cs, rfl, ex, lc, hc, k3, s3⟩
    rintro σ' H3 ⟨i, hi, x, t, cs, rfl, ex, lc, hc, k3, s3⟩
    exact ⟨_, rfl, k x H3 ⟨cs, ex, by omega, hc⟩ k3 s3⟩
end
end La
set_option Elab.async false
set_option linter.all false
set_option maxRecDepth 100000
set_option maxHeartbeats 4000000
namespace La
open PySem PySem.Spec PyProof.Rows L2 SM
def errs01 : List (Str × Str) := [("BadRegisters", "value"), ("BadLines", "value"), ("BadLine", "position")]
def words01 : List Str := ["here", "new", "nothing", "is", "not", "from", "or", "ask", "do", "otherwise"]
/-! ### the error classes, the words at the top -/
theorem err01 {K : PySem.W.Frag} (h : exB K = true) (e : Str × Str) (he : e ∈ errs01) : ErrC K (He.ga K e.1) (He.ma K (He.ga K e.1) "__init__") ∧ PySem.W.findIn K (.ref (He.ga K e.1)) e.2 = some none := by
  obtain ⟨_, h⟩ := He.ba (show (_ && errs01.all _) = true from h)
  obtain ⟨ab, _⟩ := He.ba (List.all_eq_true.mp h e he)
  obtain ⟨a, b⟩ := He.ba ab
  exact ⟨err_ok a, He.eqO_ok b⟩
theorem xf01 {K : PySem.W.Frag} (h : exB K = true) (e : Str × Str) (he : e ∈ errs01) : XfC K (He.ga K e.1) := by
  obtain ⟨_, h⟩ := He.ba (show (_ && errs01.all _) = true from h)
  obtain ⟨_, c⟩ := He.ba (List.all_eq_true.mp h e he)
  exact xfB_ok c
theorem words_at {K : PySem.W.Frag} (h : exB K = true) (H : Hp) : SqT K H (He.ga K "WORDS_OF_TEXTS") (words01.map V.str) := by
  obtain ⟨h, _⟩ := He.ba (show (_ && errs01.all _) = true from h)
  obtain ⟨h, _⟩ := He.ba h
  exact kTup_ok h rfl H
theorem places_at {K : PySem.W.Frag} (h : exB K = true) (H : Hp) : SqT K H (He.ga K "PLACES") ((["beside", "elder"] : List Str).map V.str) := by
  obtain ⟨h, _⟩ := He.ba (show (_ && errs01.all _) = true from h)
  obtain ⟨_, h⟩ := He.ba h
  exact kTup_ok h rfl H
section
variable {P : Program} {w : World} {K : PySem.W.Frag} {mg : Str → Option Value} {base : Heap}
abbrev s_BadRegisters___init__ : Stmt := (inClass (top 3) 0)
abbrev N_BadRegisters___init__ : List Str := ["self", "value"]
abbrev P_BadRegisters___init__ : List Str := ["self", "value"]
theorem sc_BadRegisters___init__ : FnScope N_BadRegisters___init__ P_BadRegisters___init__ (defScope s_BadRegisters___init__) := ⟨rfl, rfl, rfl, by decide +kernel, rfl, by decide +kernel, by decide +kernel⟩
theorem R_BadRegisters (W : Cw fas fns K mg) (hx : exB K = true) : RaiseOk P w K mg base "BadRegisters" "value" := by
  obtain ⟨fd, F⟩ := W.says.def_ 0 (d := d_BadRegisters___init__) rfl
  obtain ⟨h1, h2⟩ := err01 hx ("BadRegisters", "value") (by decide +kernel)
  refine ⟨h1, h2, ⟨fd, FunD.ok F sc_BadRegisters___init__ (fun vs H Q E h => ?_) (fun cdv A outer s H vs Q E hr h => ?_), FunD.bindsN F (fun _ _ _ _ _ _ us hl => match us, hl with | [_, _], _ => rfl)⟩, W.glo 2⟩
  · obtain ⟨a, C, v, rfl, _⟩ := h
    rfl
  · obtain ⟨a, C, v, rfl, T, hn, ha, k⟩ := h
    refine ⟨_, PSs.nox (pss_one (ps_ost (pv 0) (pv 1))), ?_⟩
    exact ⟨_, rfl, _, rfl, a, C, rfl, T, hn, .inl ⟨ha, fun dx n ne => k dx n ne⟩⟩
abbrev s_BadLines___init__ : Stmt := (inClass (top 4) 0)
abbrev N_BadLines___init__ : List Str := ["self", "value"]
abbrev P_BadLines___init__ : List Str := ["self", "value"]
theorem sc_BadLines___init__ : FnScope N_BadLines___init__ P_BadLines___init__ (defScope s_BadLines___init__) := ⟨rfl, rfl, rfl, by decide +kernel, rfl, by decide +kernel, by decide +kernel⟩
theorem R_BadLines (W : Cw fas fns K mg) (hx : exB K = true) : RaiseOk P w K mg base "BadLines" "value" := by
  obtain ⟨fd, F⟩ := W.says.def_ 1 (d := d_BadLines___init__) rfl
  obtain ⟨h1, h2⟩ := err01 hx ("BadLines", "value") (by decide +kernel)
  refine ⟨h1, h2, ⟨fd, FunD.ok F sc_BadLines___init__ (fun vs H Q E h => ?_) (fun cdv A outer s H vs Q E hr h => ?_), FunD.bindsN F (fun _ _ _ _ _ _ us hl => match us, hl with | [_, _], _ => rfl)⟩, W.glo 3⟩
  · obtain ⟨a, C, v, rfl, _⟩ := h
    rfl
  · obtain ⟨a, C, v, rfl, T, hn, ha, k⟩ := h
    refine ⟨_, PSs.nox (pss_one (ps_ost (pv 0) (pv 1))), ?_⟩
    exact ⟨_, rfl, _, rfl, a, C, rfl, T, hn, .inl ⟨ha, fun dx n ne => k dx n ne⟩⟩
abbrev s_BadLine___init__ : Stmt := (inClass (top 5) 0)
abbrev N_BadLine___init__ : List Str := ["self", "position"]
abbrev P_BadLine___init__ : List Str := ["self", "position"]
theorem sc_BadLine___init__ : FnScope N_BadLine___init__ P_BadLine___init__ (defScope s_BadLine___init__) := ⟨rfl, rfl, rfl, by decide +kernel, rfl, by decide +kernel, by decide +kernel⟩
theorem R_BadLine (W : Cw fas fns K mg) (hx : exB K = true) : RaiseOk P w K mg base "BadLine" "position" := by
  obtain ⟨fd, F⟩ := W.says.def_ 2 (d := d_BadLine___init__) rfl
  obtain ⟨h1, h2⟩ := err01 hx ("BadLine", "position") (by decide +kernel)
  refine ⟨h1, h2, ⟨fd, FunD.ok F sc_BadLine___init__ (fun vs H Q E h => ?_) (fun cdv A outer s H vs Q E hr h => ?_), FunD.bindsN F (fun _ _ _ _ _ _ us hl => match us, hl with | [_, _], _ => rfl)⟩, W.glo 4⟩
  · obtain ⟨a, C, v, rfl, _⟩ := h
    rfl
  · obtain ⟨a, C, v, rfl, T, hn, ha, k⟩ := h
    refine ⟨_, PSs.nox (pss_one (ps_ost (pv 0) (pv 1))), ?_⟩
    exact ⟨_, rfl, _, rfl, a, C, rfl, T, hn, .inl ⟨ha, fun dx n ne => k dx n ne⟩⟩
end
theorem strs_of {K : PySem.W.Frag} {H : Hp} : ∀ {ns : List Str} {us : List V}, DtAll K H us (ns.map PyData.str) → us = ns.map V.str
  | [], _, .nil => rfl
  | n :: ns, _, .cons h t => by
    rw [strs_of t]
    cases h
    rfl
theorem shaped_strs {ns : List Str} (h : OkN ns) : SeqAt.shaped (.tuple (ns.map PyData.str)) = true := by
  refine (Lay.tuple (n := 0) fun d z => ?_).shaped (by decide)
  obtain ⟨s, hs, rfl⟩ := List.mem_map.mp z
  exact .str (h s hs)
theorem shaped_str {x : Str} (h : PyData.strOk x = true) : SeqAt.shaped (.str x) = true := (Lay.str (n := 0) h).shaped (by decide)
theorem at0 (x : V) (xs : List V) : atI (x :: xs) 0 = some x := by
  simp [atI, ixN]
theorem at1 (x y : V) (xs : List V) : atI (x :: y :: xs) 1 = some y := by
  have h : (1 : Int) < (xs.length : Int) + 1 + 1 := by omega
  simp [atI, ixN, h]
end La
set_option Elab.async false
set_option linter.all false
set_option maxRecDepth 100000
set_option maxHeartbeats 4000000
namespace La
open PySem PySem.Spec PyProof.Rows L2 SM
/-- any value over which nothing is hidden: no dict, not deep -/
structure AnyV (K : PySem.W.Frag) (H : Hp) (v : V) (d : PyData) : Prop where
  dq : Dq K H v d
  lay : Lay 60 d
theorem AnyV.keep {K : PySem.W.Frag} {H H' : Hp} {v : V} {d : PyData} (h : AnyV K H v d) (k : Keep [] H H') : AnyV K H' v d := ⟨h.dq.mono k.same, h.lay⟩
/-- of a part of a line: over its entries nothing is hidden -/
def LayP (d : PyData) : Prop := ∀ es, d = .tuple es → ∀ e ∈ es, Lay 57 e
/-- of a line -/
def LayL (d : PyData) : Prop := ∀ ps, d = .tuple ps → ∀ p ∈ ps, LayP p
theorem LayP.of {d : PyData} (h : Lay 58 d) : LayP d := fun es e => by
  subst e
  exact h.items
theorem LayL.of {d : PyData} (h : Lay 59 d) : LayL d := fun ps e p hp => by
  subst e
  exact .of (h.items p hp)
/-- some registers' names, as they stand -/
structure NamesT (K : PySem.W.Frag) (H : Hp) (r : Addr) (ns : List Str) : Prop where
  sq : SqT K H r (ns.map V.str)
  few : ns.length ≤ 3
  ok : OkN ns
theorem NamesT.keep {K : PySem.W.Frag} {m : List Addr} {H H' : Hp} {r : Addr} {ns : List Str} (h : NamesT K H r ns) (k : Keep m H H') (s : Soft m H) : NamesT K H' r ns := ⟨seqT_keep k s h.sq, h.few, h.ok⟩
theorem dpStrs {K : PySem.W.Frag} {H : Hp} (ns : List Str) : DpAll K H (ns.map V.str) (ns.map PyData.str) := (DtAll.strs ns).dp
theorem anyIn {K : PySem.W.Frag} {H : Hp} {v : V} {d : PyData} {r : Addr} {ns : List Str} (h : AnyV K H v d) (hr : SqT K H r (ns.map V.str)) (ok : OkN ns) :
    Dp K H v d ∧ Dp K H (.ref r) (.tuple (ns.map PyData.str)) ∧ SeqAt.shaped d = true ∧ SeqAt.shaped (.tuple (ns.map PyData.str)) = true := by
  refine ⟨h.dq.toDp h.lay.1, .tup hr (dpStrs ns), h.lay.shaped (by decide), (Lay.tuple (n := 0) fun d z => ?_).shaped (by decide)⟩
  obtain ⟨s, hs, rfl⟩ := List.mem_map.mp z
  exact .str (ok s hs)
theorem any_in {K : PySem.W.Frag} {H : Hp} {v : V} {d : PyData} {r : Addr} {ns : List Str} {Q : VK} (h : AnyV K H v d) (hr : SqT K H r (ns.map V.str)) (ok : OkN ns) (q : Q (.bl (memS ns d)) H) : rInA K v (.ref r) H Q := by
  refine .inr ⟨d, ns.map PyData.str, h.dq.toDp h.lay.1, .tup hr (dpStrs ns), h.lay.shaped (by decide), ?_, q⟩
  refine (Lay.tuple (n := 0) fun d z => ?_).shaped (by decide)
  obtain ⟨s, hs, rfl⟩ := List.mem_map.mp z
  exact .str (ok s hs)
def isStep (ns : List Str) : PyData → Bool
  | .tuple [t, s] => memS ("here" :: ns) t && (memS ("here" :: ns) s || memS ["new", "nothing"] s)
  | _ => false
theorem isStep_len {ns : List Str} {ds : List PyData} (h : ds.length ≠ 2) : isStep ns (.tuple ds) = false := by
  match ds, h with
  | [], _ => rfl
  | [_], _ => rfl
  | [_, _], h => exact absurd rfl h
  | _ :: _ :: _ :: _, _ => rfl
theorem lenNe {n : Nat} {m : Int} (h : ¬ ((!decide (V.int (n : Int) = V.int m)) = true)) : (n : Int) = m := by
  by_cases e : V.int (n : Int) = V.int m
  · exact V.int.inj e
  · simp [e] at h
def upTo4 : PyData → Bool
  | .tuple ds => decide (ds.length ≤ 4)
  | _ => false
def spCheckL (K : PySem.W.Frag) (ok : PyData → Prop) (f : List Str → PyData → Bool) : Sp := fun vs H Q _ => ∃ (v : V) (r : Addr) (d : PyData) (ns : List Str), vs = [v, .ref r] ∧ Dq K H v d ∧ ok d ∧ NamesT K H r ns ∧ ∀ H', Keep [] H H' → Q (.bl (f ns d)) H'
def spCheck (K : PySem.W.Frag) (f : List Str → PyData → Bool) : Sp := fun vs H Q _ => ∃ (v : V) (r : Addr) (d : PyData) (ns : List Str), vs = [v, .ref r] ∧ AnyV K H v d ∧ NamesT K H r ns ∧ ∀ H', Keep [] H H' → Q (.bl (f ns d)) H'
section
variable {P : Program} {w : World} {K : PySem.W.Frag} {mg : Str → Option Value} {base : Heap}
abbrev s_are_at_most_four : Stmt := (top 54)
abbrev N_are_at_most_four : List Str := ["value"]
abbrev P_are_at_most_four : List Str := ["value"]
theorem sc_are_at_most_four : FnScope N_are_at_most_four P_are_at_most_four (defScope s_are_at_most_four) := ⟨rfl, rfl, rfl, by decide +kernel, rfl, by decide +kernel, by decide +kernel⟩
theorem Dare_at_most_four (W : Cw fas fns K mg) : DefOk P w K mg base CX0 1 "are_at_most_four" P_are_at_most_four (fun vs H Q _ => ∃ v d, vs = [v] ∧ Dq K H v d ∧ Q (.bl (upTo4 d)) H) := by
  refine DefOk.of W 13 45 (st := s_are_at_most_four) rfl rfl sc_are_at_most_four (fun _ _ _ _ _ _ us hl => match us, hl with | [_], _ => rfl) (fun vs H Q E h => ?_) (fun cdv A outer s H vs Q E hr h => ?_)
  · obtain ⟨v, d, rfl, _⟩ := h
    rfl
  · obtain ⟨v, d, rfl, hv, k⟩ := h
    refine ⟨_, PSs.nox (pss_one (ps_ret (pe_and (pe_callB call_isi (by rfl) (W.fre 73) (by decide +kernel) (pa_cons (pv 0) (pa_cons (pe_bltn (v := .ty "tuple") (by rfl) (W.fre 83) (show bootBuiltins "tuple" = some (.type "tuple") by decide +kernel) rfl) pa_nil))) (pe_one (pe_cmpR op_le (pe_callB call_len_seq (by rfl) (W.fre 74) (by decide +kernel) (pa_cons (pv 0) pa_nil)) pe_int (nomark _)))))), ?_⟩
    refine ⟨_, rfl, _, _, _, _, _, rfl, .ty _, hv.ty, kit_tup d, _, rfl, ?_⟩
    cases hv with
    | @tup a xs ds s t =>
      refine iteT ⟨_, rfl, _, _, rfl, .inr s, _, _, rfl, rfl, ?_⟩
      have e : upTo4 (.tuple ds) = decide ((xs.length : Int) ≤ 4) := by
        rw [upTo4, ← t.length]
        exact decide_eq_decide.mpr (by omega)
      rw [e] at k
      exact k
    | non => exact iteF k
    | bl b => exact iteF k
    | int b => exact iteF k
    | str b => exact iteF k
    | lst s t => exact iteF k
    | dic s t => exact iteF k
abbrev s_is_step : Stmt := (top 57)
abbrev N_is_step : List Str := ["value", "registers", "target", "source", "targets"]
abbrev P_is_step : List Str := ["value", "registers"]
theorem sc_is_step : FnScope N_is_step P_is_step (defScope s_is_step) := ⟨rfl, rfl, rfl, by decide +kernel, rfl, by decide +kernel, by decide +kernel⟩
theorem Dis_step (W : Cw fas fns K mg) : DefOk P w K mg base CX0 1 "is_step" P_is_step (spCheck K isStep) := by
  refine DefOk.of W 16 48 (st := s_is_step) rfl rfl sc_is_step (fun _ _ _ _ _ _ us hl => match us, hl with | [_, _], _ => rfl) (fun vs H Q E h => ?_) (fun cdv A outer s H vs Q E hr h => ?_)
  · obtain ⟨v, r, d, ns, rfl, _⟩ := h
    rfl
  · obtain ⟨v, r, d, ns, rfl, hv, hn, k⟩ := h
    refine ⟨_, PSs.nox (Evl.pss_cut (ps_if (PW.pt (pw_or (pt_not (pt_val (pe_callB call_isi (by rfl) (W.fre 73) (by decide +kernel) (pa_cons (pv 0) (pa_cons (pe_bltn (v := .ty "tuple") (by rfl) (W.fre 83) (show bootBuiltins "tuple" = some (.type "tuple") by decide +kernel) rfl) pa_nil))))) (pw_or1 (pt_cmpR op_ne (pe_callB call_len_seq (by rfl) (W.fre 74) (by decide +kernel) (pa_cons (pv 0) pa_nil)) pe_int (nomark _))))) (pss_one (ps_ret pe_bl)) pss_nil) (Evl.pss_cut (ps_asg (pv 0) (pg_tup (by rfl) (pgs_cons (pg_name (i := 2) sc_is_step.nd rfl (by first | exact Or.inl rfl | exact Or.inr rfl)) (pgs_cons (pg_name (i := 3) sc_is_step.nd rfl (by first | exact Or.inl rfl | exact Or.inr rfl)) pgs_nil)))) (Evl.pss_cut (ps_set (i := 4) sc_is_step.nd rfl (by first | exact Or.inl rfl | exact Or.inr rfl) (pe_op op_catA (pe_tup (pa_cons pe_str pa_nil)) (pv 1))) (pss_one (ps_ret (pe_and (pe_cmpR (SM.op_inA (SM.units65 hr)) (pv 2) (pv 4) (by rfl)) (pe_one (pe_or (pe_cmpR (SM.op_inA (SM.units65 hr)) (pv 3) (pv 4) (by rfl)) (pe_one (pe_cmpR (SM.op_inA (SM.units65 hr)) (pv 3) (pe_tup (pa_cons pe_str (pa_cons pe_str pa_nil))) (by rfl))))))))))), ?_⟩
    refine ⟨fun σ' H' => σ' = [some v, some (.ref r), none, none, none] ∧ H' = H ∧ ∃ a x0 x1 d0 d1, v = .ref a ∧ SqT K H a [x0, x1] ∧ d = .tuple [d0, d1] ∧ AnyV K H x0 d0 ∧ AnyV K H x1 d1, ?_, ?_⟩
    · refine ⟨_, rfl, _, _, _, _, _, rfl, .ty _, hv.dq.ty, kit_tup d, _, rfl, ?_⟩
      have k0 := k H Keep.refl
      obtain ⟨hq, hl⟩ := hv
      cases hq with
      | @tup a xs ds s t =>
        refine iteF ⟨_, rfl, _, _, rfl, .inr s, rfl, _, rfl, ite2 (fun h => ?_) (fun h => ?_)⟩
        · rw [isStep_len fun z => by rw [t.length, z] at h; exact absurd h (by decide)] at k0
          exact k0
        · have l2 := lenNe h
          rw [t.length] at l2
          obtain ⟨d0, d1, rfl⟩ : ∃ d0 d1, ds = [d0, d1] := by
            match ds, l2 with
            | [d0, d1], _ => exact ⟨d0, d1, rfl⟩
          cases t with
          | cons t0 t =>
            cases t with
            | cons t1 t =>
              cases t
              exact ⟨rfl, rfl, a, _, _, d0, d1, rfl, s, rfl, ⟨t0, (hl.items d0 (by simp)).mono (by decide)⟩, ⟨t1, (hl.items d1 (by simp)).mono (by decide)⟩⟩
      | non => exact iteT k0
      | bl b => exact iteT k0
      | int b => exact iteT k0
      | str b => exact iteT k0
      | lst s t => exact iteT k0
      | dic s t => exact iteT k0
    rintro σ' H1 ⟨rfl, rfl, a, x0, x1, d0, d1, rfl, sq, rfl, h0, h1⟩
    refine ⟨fun σ' H' => σ' = [some (.ref a), some (.ref r), some x0, some x1, none] ∧ H' = H1, ⟨_, rfl, a, _, rfl, sq, rfl, x0, _, rfl, x1, _, rfl, rfl, rfl, rfl⟩, ?_⟩
    rintro σ' H2 ⟨rfl, rfl⟩
    refine ⟨fun σ' H' => ∃ tt, σ' = [some (.ref a), some (.ref r), some x0, some x1, some (.ref tt)] ∧ Keep [] H2 H' ∧ SqT K H' tt ((("here" : Str) :: ns).map V.str), ?_, ?_⟩
    · refine ⟨(by show 1 ≤ sizeLine; decide), fun q hq => ⟨_, rfl, q, r, _, _, rfl, rfl, SqT.of upd_same, seqT_keep (Keep.new (m := []) hq) Soft.nil hn.sq, ?_, (fun e => by cases e), fun _ e => ?_, fun _ _ p hp => ?_⟩⟩
      · rw [List.length_map]
        exact Nat.le_trans (Nat.add_le_add_left hn.few 1) (by decide)
      · have e' : ns = [] := List.map_eq_nil_iff.mp e
        subst e'
        exact ⟨q, rfl, Keep.new hq, SqT.of upd_same⟩
      · exact ⟨p, rfl, (Keep.new hq).trans (Keep.new hp), SqT.of upd_same⟩
    rintro σ' H3 ⟨tt, rfl, k3, ht⟩
    have okh : OkN ("here" :: ns) := fun s hs => by
      rcases List.mem_cons.mp hs with rfl | hs
      · exact ok_here
      · exact hn.ok s hs
    have okn : OkN ["new", "nothing"] := fun s hs => by
      simp only [List.mem_cons, List.not_mem_nil, or_false] at hs
      rcases hs with rfl | rfl
      · exact ok_new
      · exact ok_nothing
    have h03 := h0.keep k3
    have h13 := h1.keep k3
    have q0 := k H3 k3
    obtain ⟨p1, p2, p3, p4⟩ := anyIn h03 ht okh
    refine ⟨_, rfl, _, rfl, .inr ⟨d0, _, p1, p2, p3, p4, _, rfl, ite2 (fun e => ?_) (fun e => ?_)⟩⟩
    · obtain ⟨r1, r2, r3, r4⟩ := anyIn h13 ht okh
      refine ⟨_, rfl, _, rfl, .inr ⟨d1, _, r1, r2, r3, r4, _, rfl, ite2 (fun f => ?_) (fun f => ?_)⟩⟩
      · rw [isStep, show memS ("here" :: ns) d0 = true from e, show memS ("here" :: ns) d1 = true from f] at q0
        exact q0
      · refine ⟨_, rfl, (by show 2 ≤ sizeLine; decide), fun q hq => ?_⟩
        have kq : Keep [] H3 (upd H3 q (.tup [.str "new", .str "nothing"])) := Keep.new hq
        obtain ⟨s1, s2, s3, s4⟩ := anyIn (h13.keep kq) (SqT.of (upd_same (H := H3) (a := q) (o := .tup [.str "new", .str "nothing"]))) okn
        refine .inr ⟨d1, _, s1, s2, s3, s4, ?_⟩
        have q1 := k _ (k3.trans kq)
        rw [isStep, show memS ("here" :: ns) d0 = true from e, show memS ("here" :: ns) d1 = false from Bool.eq_false_iff.mpr f] at q1
        exact q1
    · rw [isStep, show memS ("here" :: ns) d0 = false from Bool.eq_false_iff.mpr e] at q0
      exact q0
end
end La
set_option Elab.async false
set_option linter.all false
set_option maxRecDepth 100000
set_option maxHeartbeats 4000000
namespace La
open PySem PySem.Spec PyProof.Rows L2 SM
def isTest (ns : List Str) : PyData → Bool
  | .tuple [a, b, c] => memS ("here" :: "new" :: ns) a && ((memS ("here" :: "new" :: ns) b || PyData.eqv b (.str "nothing")) && isBool c)
  | _ => false
theorem isTest_len {ns : List Str} {ds : List PyData} (h : ds.length ≠ 3) : isTest ns (.tuple ds) = false := by
  match ds, h with
  | [], _ => rfl
  | [_], _ => rfl
  | [_, _], _ => rfl
  | [_, _, _], h => exact absurd rfl h
  | _ :: _ :: _ :: _ :: _, _ => rfl
def isSteps (ns : List Str) : PyData → Bool
  | .tuple ds => decide (ds.length ≤ 4) && ds.all (isStep ns)
  | _ => false
section
variable {P : Program} {w : World} {K : PySem.W.Frag} {mg : Str → Option Value} {base : Heap}
abbrev s_is_test : Stmt := (top 55)
abbrev N_is_test : List Str := ["value", "registers", "one", "other", "same", "names"]
abbrev P_is_test : List Str := ["value", "registers"]
theorem sc_is_test : FnScope N_is_test P_is_test (defScope s_is_test) := ⟨rfl, rfl, rfl, by decide +kernel, rfl, by decide +kernel, by decide +kernel⟩
theorem Dis_test (W : Cw fas fns K mg) : DefOk P w K mg base CX0 1 "is_test" P_is_test (spCheck K isTest) := by
  refine DefOk.of W 14 46 (st := s_is_test) rfl rfl sc_is_test (fun _ _ _ _ _ _ us hl => match us, hl with | [_, _], _ => rfl) (fun vs H Q E h => ?_) (fun cdv A outer s H vs Q E hr h => ?_)
  · obtain ⟨v, r, d, ns, rfl, _⟩ := h
    rfl
  · obtain ⟨v, r, d, ns, rfl, hv, hn, k⟩ := h
    refine ⟨_, PSs.nox (Evl.pss_cut (ps_if (PW.pt (pw_or (pt_not (pt_val (pe_callB call_isi (by rfl) (W.fre 73) (by decide +kernel) (pa_cons (pv 0) (pa_cons (pe_bltn (v := .ty "tuple") (by rfl) (W.fre 83) (show bootBuiltins "tuple" = some (.type "tuple") by decide +kernel) rfl) pa_nil))))) (pw_or1 (pt_cmpR op_ne (pe_callB call_len_seq (by rfl) (W.fre 74) (by decide +kernel) (pa_cons (pv 0) pa_nil)) pe_int (nomark _))))) (pss_one (ps_ret pe_bl)) pss_nil) (Evl.pss_cut (ps_asg (pv 0) (pg_tup (by rfl) (pgs_cons (pg_name (i := 2) sc_is_test.nd rfl (by first | exact Or.inl rfl | exact Or.inr rfl)) (pgs_cons (pg_name (i := 3) sc_is_test.nd rfl (by first | exact Or.inl rfl | exact Or.inr rfl)) (pgs_cons (pg_name (i := 4) sc_is_test.nd rfl (by first | exact Or.inl rfl | exact Or.inr rfl)) pgs_nil))))) (Evl.pss_cut (ps_set (i := 5) sc_is_test.nd rfl (by first | exact Or.inl rfl | exact Or.inr rfl) (pe_op op_catA (pe_tup (pa_cons pe_str (pa_cons pe_str pa_nil))) (pv 1))) (pss_one (ps_ret (pe_and (pe_cmpR (SM.op_inA (SM.units65 hr)) (pv 2) (pv 5) (by rfl)) (pe_and (pe_or (pe_cmpR (SM.op_inA (SM.units65 hr)) (pv 3) (pv 5) (by rfl)) (pe_one (pe_cmpR (op_eqD hr.units) (pv 3) pe_str (nomark _)))) (pe_one (pe_callB call_isi (by rfl) (W.fre 73) (by decide +kernel) (pa_cons (pv 4) (pa_cons (pe_bltn (v := .ty "bool") (by rfl) (W.fre 70) (show bootBuiltins "bool" = some (.type "bool") by decide +kernel) rfl) pa_nil))))))))))), ?_⟩
    refine ⟨fun σ' H' => σ' = [some v, some (.ref r), none, none, none, none] ∧ H' = H ∧ ∃ a x0 x1 x2 d0 d1 d2, v = .ref a ∧ SqT K H a [x0, x1, x2] ∧ d = .tuple [d0, d1, d2] ∧ AnyV K H x0 d0 ∧ AnyV K H x1 d1 ∧ AnyV K H x2 d2, ?_, ?_⟩
    · refine ⟨_, rfl, _, _, _, _, _, rfl, .ty _, hv.dq.ty, kit_tup d, _, rfl, ?_⟩
      have k0 := k H Keep.refl
      obtain ⟨hq, hl⟩ := hv
      cases hq with
      | @tup a xs ds s t =>
        refine iteF ⟨_, rfl, _, _, rfl, .inr s, rfl, _, rfl, ite2 (fun h => ?_) (fun h => ?_)⟩
        · rw [isTest_len fun z => by rw [t.length, z] at h; exact absurd h (by decide)] at k0
          exact k0
        · have l2 := lenNe h
          rw [t.length] at l2
          obtain ⟨d0, d1, d2, rfl⟩ : ∃ d0 d1 d2, ds = [d0, d1, d2] := by
            match ds, l2 with
            | [d0, d1, d2], _ => exact ⟨d0, d1, d2, rfl⟩
          cases t with
          | cons t0 t =>
            cases t with
            | cons t1 t =>
              cases t with
              | cons t2 t =>
                cases t
                exact ⟨rfl, rfl, a, _, _, _, d0, d1, d2, rfl, s, rfl, ⟨t0, (hl.items d0 (by simp)).mono (by decide)⟩, ⟨t1, (hl.items d1 (by simp)).mono (by decide)⟩, ⟨t2, (hl.items d2 (by simp)).mono (by decide)⟩⟩
      | non => exact iteT k0
      | bl b => exact iteT k0
      | int b => exact iteT k0
      | str b => exact iteT k0
      | lst s t => exact iteT k0
      | dic s t => exact iteT k0
    rintro σ' H1 ⟨rfl, rfl, a, x0, x1, x2, d0, d1, d2, rfl, sq, rfl, h0, h1, h2⟩
    refine ⟨fun σ' H' => σ' = [some (.ref a), some (.ref r), some x0, some x1, some x2, none] ∧ H' = H1, ⟨_, rfl, a, _, rfl, sq, rfl, x0, _, rfl, x1, _, rfl, x2, _, rfl, rfl, rfl, rfl⟩, ?_⟩
    rintro σ' H2 ⟨rfl, rfl⟩
    refine ⟨fun σ' H' => ∃ tt, σ' = [some (.ref a), some (.ref r), some x0, some x1, some x2, some (.ref tt)] ∧ Keep [] H2 H' ∧ SqT K H' tt ((("here" : Str) :: "new" :: ns).map V.str), ?_, ?_⟩
    · refine ⟨(by show 2 ≤ sizeLine; decide), fun q hq => ⟨_, rfl, q, r, _, _, rfl, rfl, SqT.of upd_same, seqT_keep (Keep.new (m := []) hq) Soft.nil hn.sq, ?_, (fun e => by cases e), fun _ e => ?_, fun _ _ p hp => ?_⟩⟩
      · rw [List.length_map]
        exact Nat.le_trans (Nat.add_le_add_left hn.few 2) (by decide)
      · have e' : ns = [] := List.map_eq_nil_iff.mp e
        subst e'
        exact ⟨q, rfl, Keep.new hq, SqT.of upd_same⟩
      · exact ⟨p, rfl, (Keep.new hq).trans (Keep.new hp), SqT.of upd_same⟩
    rintro σ' H3 ⟨tt, rfl, k3, ht⟩
    have okh : OkN ("here" :: "new" :: ns) := fun s hs => by
      rcases List.mem_cons.mp hs with rfl | hs
      · exact ok_here
      · rcases List.mem_cons.mp hs with rfl | hs
        · exact ok_new
        · exact hn.ok s hs
    have h03 := h0.keep k3
    have h13 := h1.keep k3
    have h23 := h2.keep k3
    have q0 := k H3 k3
    obtain ⟨p1, p2, p3, p4⟩ := anyIn h03 ht okh
    obtain ⟨r1, r2, r3, r4⟩ := anyIn h13 ht okh
    have last : ∀ b, (memS ("here" :: "new" :: ns) d1 || PyData.eqv d1 (.str "nothing")) = b → memS ("here" :: "new" :: ns) d0 = true → (if b = true then Q (.bl (isBool d2)) H3 else Q (.bl false) H3) := by
      intro b hb ha
      rw [isTest, ha, hb] at q0
      cases b with
      | true => exact iteT q0
      | false => exact iteF q0
    refine ⟨_, rfl, _, rfl, .inr ⟨d0, _, p1, p2, p3, p4, _, rfl, ite2 (fun e => ?_) (fun e => ?_)⟩⟩
    · refine ⟨_, rfl, _, rfl, .inr ⟨d1, _, r1, r2, r3, r4, _, rfl, ite2 (fun f => ?_) (fun f => ?_)⟩⟩
      · refine ⟨_, rfl, iteT ⟨_, rfl, _, _, _, _, _, rfl, .ty _, h23.dq.ty, kit_bool d2, ?_⟩⟩
        have := last true (by rw [show memS ("here" :: "new" :: ns) d1 = true from f]; rfl) e
        rw [if_pos rfl] at this
        exact this
      · refine ⟨_, rfl, d1, .str "nothing", r1, .str _, r3, shaped_str (by decide +kernel), _, rfl, ite2 (fun g => ?_) (fun g => ?_)⟩
        · refine ⟨_, rfl, _, _, _, _, _, rfl, .ty _, h23.dq.ty, kit_bool d2, ?_⟩
          have := last true (by rw [show PyData.eqv d1 (.str "nothing") = true from g, Bool.or_true]) e
          rw [if_pos rfl] at this
          exact this
        · have := last false (by rw [show memS ("here" :: "new" :: ns) d1 = false from Bool.eq_false_iff.mpr f, show PyData.eqv d1 (.str "nothing") = false from Bool.eq_false_iff.mpr g]; rfl) e
          rw [if_neg Bool.false_ne_true] at this
          exact this
    · rw [isTest, show memS ("here" :: "new" :: ns) d0 = false from Bool.eq_false_iff.mpr e] at q0
      exact q0
abbrev s_are_steps : Stmt := (top 56)
abbrev N_are_steps : List Str := ["value", "registers", "step"]
abbrev P_are_steps : List Str := ["value", "registers"]
theorem sc_are_steps : FnScope N_are_steps P_are_steps (defScope s_are_steps) := ⟨rfl, rfl, rfl, by decide +kernel, rfl, by decide +kernel, by decide +kernel⟩
theorem Dare_steps (W : Cw fas fns K mg) (Dis_step : DefOk P w K mg base CX0 1 "is_step" P_is_step (spCheck K isStep)) (Dare_at_most_four : DefOk P w K mg base CX0 1 "are_at_most_four" P_are_at_most_four (fun vs H Q _ => ∃ v d, vs = [v] ∧ Dq K H v d ∧ Q (.bl (upTo4 d)) H)) : DefOk P w K mg base CX0 2 "are_steps" P_are_steps (spCheckL K LayP isSteps) := by
  refine DefOk.of W 15 47 (st := s_are_steps) rfl rfl sc_are_steps (fun _ _ _ _ _ _ us hl => match us, hl with | [_, _], _ => rfl) (fun vs H Q E h => ?_) (fun cdv A outer s H vs Q E hr h => ?_)
  · obtain ⟨v, r, d, ns, rfl, _⟩ := h
    rfl
  · obtain ⟨v, r, d, ns, rfl, hq, hl, hn, k⟩ := h
    refine ⟨_, PSs.nox (pss_one (ps_ret (pe_and (SM.pe_callD Dare_at_most_four (hr.mono (by decide)) pass0 (pa_cons (pv 0) pa_nil)) (pe_one (pe_callB (cr_all rfl) (by rfl) (W.fre 69) (by decide +kernel) (pa_cons (pe_lc (own := [("step", 2)]) (g := gName 2) (tt := tYes) (by rfl) sc_are_steps.nd (pi_tup (pv 0)) (blkOk_by (own := [("step", 2)]) (N := N_are_steps) (sc := defScope s_are_steps) (by decide +kernel)) (fun _ _ _ _ _ => pg_name (i := 2) sc_are_steps.nd rfl (Or.inl rfl)) (fun _ _ _ _ _ => pts_nil) (fun _ _ _ _ _ => (SM.pe_callD Dis_step (hr.mono (by decide)) pass0 (pa_cons (pv 2) (pa_cons (pv 1) pa_nil))))) pa_nil)))))), ?_⟩
    refine ⟨_, rfl, v, d, rfl, hq, _, rfl, ?_⟩
    have k0 := k H Keep.refl
    cases hq with
    | @tup a xs ds s t =>
      refine ite2 (fun h => ?_) (fun h => ?_)
      · have l4 : ds.length ≤ 4 := of_decide_eq_true h
        refine ⟨_, rfl, a, rfl, ⟨xs, s⟩, fun D hD => ?_⟩
        refine lcB (f := isStep ns) s t (by omega) (fun H2 k2 v d hd hv => ?_) hD fun H2 k2 e2 => ⟨D, ds.map (isStep ns), rfl, SqL.of e2, ?_⟩
        · intro H3 k3 Q' q'
          exact ⟨_, rfl, _, rfl, v, r, d, ns, rfl, ⟨hv.mono k3.same, (hl ds rfl d hd).mono (by decide)⟩, hn.keep (k2.trans k3) Soft.nil, q'⟩
        · have := k H2 k2
          rw [isSteps, decide_eq_true l4, Bool.true_and, ← all_id] at this
          exact this
      · rw [isSteps, show decide (ds.length ≤ 4) = false from Bool.eq_false_iff.mpr h] at k0
        exact k0
    | non => exact iteF k0
    | bl b => exact iteF k0
    | int b => exact iteF k0
    | str b => exact iteF k0
    | lst s t => exact iteF k0
    | dic s t => exact iteF k0
end
end La
set_option Elab.async false
set_option linter.all false
set_option maxRecDepth 100000
set_option maxHeartbeats 4000000
namespace La
open PySem PySem.Spec PyProof.Rows L2 SM
def isTests (ns : List Str) : PyData → Bool
  | .tuple ds => decide (ds.length ≤ 4) && ds.all (isTest ns)
  | _ => false
def isLine (ns : List Str) : PyData → Bool
  | .tuple (t :: rest) => (decide (rest.length = 1) || decide (rest.length = 2)) && (isTests ns t && rest.all (isSteps ns))
  | _ => false
theorem inLen (n : Int) : ([PyData.int 2, .int 3].any fun z => PyData.eqv z (.int n)) = (decide (n = 2) || decide (n = 3)) := by
  simp only [List.any_cons, List.any_nil, PyData.eqv, Bool.or_false]
  by_cases a : n = 2
  · subst a; rfl
  · by_cases b : n = 3
    · subst b; rfl
    · have a' : ¬ (2 : Int) = n := fun z => a z.symm
      have b' : ¬ (3 : Int) = n := fun z => b z.symm
      simp [a, b, a', b']
theorem cut1 (x : V) (xs : List V) : cutV (x :: xs) (some 1) none = xs := by
  have h : HT.sIx (x :: xs).length 0 (some 1) = 1 := by
    show min 1 (xs.length + 1) = 1
    omega
  rw [cutV, h, HT.sIx_none, List.drop_one, List.tail_cons, List.length_cons, Nat.add_sub_cancel, List.take_length]
theorem isLine_len {ns : List Str} {ds : List PyData} (h : ds.length ≠ 2 ∧ ds.length ≠ 3) : isLine ns (.tuple ds) = false := by
  match ds, h with
  | [], _ => rfl
  | t :: rest, h =>
    have h1 : ¬ rest.length = 1 := fun z => h.1 (by rw [List.length_cons, z])
    have h2 : ¬ rest.length = 2 := fun z => h.2 (by rw [List.length_cons, z])
    rw [isLine, decide_eq_false h1, decide_eq_false h2]
    rfl
section
variable {P : Program} {w : World} {K : PySem.W.Frag} {mg : Str → Option Value} {base : Heap}
abbrev s_is_line : Stmt := (top 53)
abbrev N_is_line : List Str := ["value", "registers", "test", "steps"]
abbrev P_is_line : List Str := ["value", "registers"]
theorem sc_is_line : FnScope N_is_line P_is_line (defScope s_is_line) := ⟨rfl, rfl, rfl, by decide +kernel, rfl, by decide +kernel, by decide +kernel⟩
theorem Dis_line (W : Cw fas fns K mg) (Dis_test : DefOk P w K mg base CX0 1 "is_test" P_is_test (spCheck K isTest)) (Dare_steps : DefOk P w K mg base CX0 2 "are_steps" P_are_steps (spCheckL K LayP isSteps)) (Dare_at_most_four : DefOk P w K mg base CX0 1 "are_at_most_four" P_are_at_most_four (fun vs H Q _ => ∃ v d, vs = [v] ∧ Dq K H v d ∧ Q (.bl (upTo4 d)) H)) : DefOk P w K mg base CX0 3 "is_line" P_is_line (spCheckL K LayL isLine) := by
  refine DefOk.of W 12 44 (st := s_is_line) rfl rfl sc_is_line (fun _ _ _ _ _ _ us hl => match us, hl with | [_, _], _ => rfl) (fun vs H Q E h => ?_) (fun cdv A outer s H vs Q E hr h => ?_)
  · obtain ⟨v, r, d, ns, rfl, _⟩ := h
    rfl
  · obtain ⟨v, r, d, ns, rfl, hq, hl, hn, k⟩ := h
    refine ⟨_, PSs.nox (Evl.pss_cut (ps_if (PW.pt (pw_or (pt_not (pt_val (pe_callB call_isi (by rfl) (W.fre 73) (by decide +kernel) (pa_cons (pv 0) (pa_cons (pe_bltn (v := .ty "tuple") (by rfl) (W.fre 83) (show bootBuiltins "tuple" = some (.type "tuple") by decide +kernel) rfl) pa_nil))))) (pw_or1 (pt_cmpR (SM.op_notInA (SM.units65 hr)) (pe_callB call_len_seq (by rfl) (W.fre 74) (by decide +kernel) (pa_cons (pv 0) pa_nil)) (pe_tup (pa_cons pe_int (pa_cons pe_int pa_nil))) (by rfl))))) (pss_one (ps_ret pe_bl)) pss_nil) (Evl.pss_cut (ps_if (PW.pt (pw_or (pt_not (pt_val (SM.pe_callD Dare_at_most_four (hr.mono (by decide)) pass0 (pa_cons (pe_ix ix_seq (pv 0) pe_int (fun _ _ => rfl)) pa_nil)))) (pw_or1 (pt_not (pt_val (pe_callB (cr_all rfl) (by rfl) (W.fre 69) (by decide +kernel) (pa_cons (pe_lc (own := [("test", 2)]) (g := gName 2) (tt := tYes) (by rfl) sc_is_line.nd (pi_tup (pe_ix ix_seq (pv 0) pe_int (fun _ _ => rfl))) (blkOk_by (own := [("test", 2)]) (N := N_is_line) (sc := defScope s_is_line) (by decide +kernel)) (fun _ _ _ _ _ => pg_name (i := 2) sc_is_line.nd rfl (Or.inl rfl)) (fun _ _ _ _ _ => pts_nil) (fun _ _ _ _ _ => (SM.pe_callD Dis_test (hr.mono (by decide)) pass0 (pa_cons (pv 2) (pa_cons (pv 1) pa_nil))))) pa_nil))))))) (pss_one (ps_ret pe_bl)) pss_nil) (pss_one (ps_ret (pe_callB (cr_all rfl) (by rfl) (W.fre 69) (by decide +kernel) (pa_cons (pe_lc (own := [("steps", 3)]) (g := gName 3) (tt := tYes) (by rfl) sc_is_line.nd (pi_tup (pe_slice sl_tup (pv 0) (po_some pe_int) po_none)) (blkOk_by (own := [("steps", 3)]) (N := N_is_line) (sc := defScope s_is_line) (by decide +kernel)) (fun _ _ _ _ _ => pg_name (i := 3) sc_is_line.nd rfl (Or.inl rfl)) (fun _ _ _ _ _ => pts_nil) (fun _ _ _ _ _ => (SM.pe_callD Dare_steps (hr.mono (by decide)) pass0 (pa_cons (pv 3) (pa_cons (pv 1) pa_nil))))) pa_nil)))))), ?_⟩
    refine ⟨fun σ' H' => σ' = [some v, some (.ref r), none, none] ∧ Keep [] H H' ∧ ∃ a x0 xr d0 dr, v = .ref a ∧ d = .tuple (d0 :: dr) ∧ SqT K H' a (x0 :: xr) ∧ Dq K H' x0 d0 ∧ DqAll K H' xr dr ∧ (decide (dr.length = 1) || decide (dr.length = 2)) = true, ?_, ?_⟩
    · refine ⟨_, rfl, _, _, _, _, _, rfl, .ty _, hq.ty, kit_tup d, _, rfl, ?_⟩
      have k0 := k H Keep.refl
      cases hq with
      | @tup a xs ds s t =>
        refine iteF ⟨_, rfl, _, _, rfl, .inr s, (by show 2 ≤ sizeLine; decide), fun q hq => .inr ⟨.int xs.length, [.int 2, .int 3], .int _, .tup (SqT.of upd_same) (.cons (.int 2) (.cons (.int 3) .nil)), (Lay.int (n := 0) _).shaped (by decide), ?_, _, rfl, ?_⟩⟩
        · refine (Lay.tuple (n := 0) fun d z => ?_).shaped (by decide)
          simp only [List.mem_cons, List.not_mem_nil, or_false] at z
          rcases z with rfl | rfl
          · exact .int 2
          · exact .int 3
        rw [inLen]
        refine ite2 (fun h => ?_) (fun h => ?_)
        · rw [isLine_len ?_] at k
          · exact k _ (Keep.new hq)
          · rw [t.length] at h
            refine ⟨fun z => ?_, fun z => ?_⟩ <;> (rw [z] at h; exact absurd h (by decide))
        · have h' : (decide ((xs.length : Int) = 2) || decide ((xs.length : Int) = 3)) = true := by
            cases e : (decide ((xs.length : Int) = 2) || decide ((xs.length : Int) = 3))
            · rw [e] at h
              exact absurd rfl h
            · rfl
          rw [t.length, Bool.or_eq_true, decide_eq_true_eq, decide_eq_true_eq] at h'
          cases t with
          | nil => rcases h' with z | z <;> (simp at z)
          | @cons x0 xr d0 dr t0 tr =>
            have kq : Keep [] H (upd H q (.tup [.int 2, .int 3])) := Keep.new hq
            refine ⟨rfl, kq, a, x0, xr, d0, dr, rfl, rfl, seqT_keep kq Soft.nil s, t0.mono kq.same, tr.mono kq.same, ?_⟩
            rw [List.length_cons] at h'
            rw [Bool.or_eq_true, decide_eq_true_eq, decide_eq_true_eq]
            omega
      | non => exact iteT k0
      | bl b => exact iteT k0
      | int b => exact iteT k0
      | str b => exact iteT k0
      | lst s t => exact iteT k0
      | dic s t => exact iteT k0
    rintro σ' H1 ⟨rfl, k1, a, x0, xr, d0, dr, rfl, rfl, sq, h0, hr', hlen⟩
    have hl0 : LayP d0 := hl _ rfl d0 (by simp)
    refine ⟨fun σ' H' => σ' = [some (.ref a), some (.ref r), none, none] ∧ Keep [] H1 H' ∧ isTests ns d0 = true, ?_, ?_⟩
    · refine ⟨_, rfl, .inr (.inl ⟨a, _, 0, x0, rfl, rfl, sq, at0 .., x0, d0, rfl, h0, _, rfl, ?_⟩)⟩
      have k0 := k H1 k1
      rw [isLine, hlen, Bool.true_and] at k0 k
      cases h0 with
      | @tup b xs ds s t =>
        have eU : upTo4 (.tuple ds) = decide (ds.length ≤ 4) := rfl
        rw [eU]
        by_cases l4 : ds.length ≤ 4
        · rw [decide_eq_true l4]
          refine iteF ⟨_, rfl, .inr (.inl ⟨a, _, 0, _, rfl, rfl, sq, at0 .., b, rfl, ⟨xs, s⟩, fun D hD => ?_⟩)⟩
          refine lcB (f := isTest ns) s t (by omega) (fun H2 k2 v d hd hv => ?_) hD fun H2 k2 e2 => ⟨D, ds.map (isTest ns), rfl, SqL.of e2, _, rfl, ?_⟩
          · intro H3 k3 Q' q'
            exact ⟨_, rfl, _, rfl, v, r, d, ns, rfl, ⟨hv.mono k3.same, (hl0 ds rfl d hd).mono (by decide)⟩, hn.keep (k1.trans (k2.trans k3)) Soft.nil, q'⟩
          · have e : isTests ns (.tuple ds) = ds.all (isTest ns) := by rw [isTests, decide_eq_true l4, Bool.true_and]
            have e' : (ds.map (isTest ns)).all id = ds.all (isTest ns) := all_id ds (isTest ns)
            rw [e']
            have kk := k H2 (k1.trans k2)
            rw [e] at kk
            cases c : ds.all (isTest ns) with
            | true => exact iteF ⟨rfl, k2, by rw [e]; exact c⟩
            | false =>
              rw [c] at kk
              exact iteT kk
        · rw [decide_eq_false l4]
          rw [isTests, decide_eq_false l4] at k0
          exact iteT (iteT k0)
      | non => exact iteT (iteT k0)
      | bl b => exact iteT (iteT k0)
      | int b => exact iteT (iteT k0)
      | str b => exact iteT (iteT k0)
      | lst s t => exact iteT (iteT k0)
      | dic s t => exact iteT (iteT k0)
    rintro σ' H2 ⟨rfl, k2, ht⟩
    have sq2 := seqT_keep k2 Soft.nil sq
    rw [isLine, hlen, ht, Bool.true_and, Bool.true_and] at k
    refine ⟨_, rfl, 1, rfl, a, x0 :: xr, rfl, sq2, ?_, fun p hp => ?_⟩
    · intro z
      have : HT.sIx (x0 :: xr).length 0 (some 1) = 0 := z.1
      rw [show HT.sIx (x0 :: xr).length 0 (some 1) = min 1 (xr.length + 1) from rfl] at this
      omega
    rw [cut1]
    have kp : Keep [] H2 (upd H2 p (.tup xr)) := Keep.new hp
    refine ⟨p, rfl, ⟨xr, SqT.of upd_same⟩, fun D hD => ?_⟩
    have l2 : dr.length ≤ 2 := by
      rw [Bool.or_eq_true, decide_eq_true_eq, decide_eq_true_eq] at hlen
      omega
    refine lcB (f := isSteps ns) (SqT.of upd_same) ((hr'.mono k2.same).mono kp.same) (by omega) (fun H3 k3 v d hd hv => ?_) hD fun H3 k3 e3 => ⟨D, dr.map (isSteps ns), rfl, SqL.of e3, ?_⟩
    · intro H4 k4 Q' q'
      exact ⟨_, rfl, _, rfl, v, r, d, ns, rfl, hv.mono k4.same, hl _ rfl d (List.mem_cons_of_mem _ hd), hn.keep (k1.trans (k2.trans (kp.trans (k3.trans k4)))) Soft.nil, q'⟩
    · have e' : (dr.map (isSteps ns)).all id = dr.all (isSteps ns) := all_id dr (isSteps ns)
      rw [e']
      exact k H3 (k1.trans (k2.trans (kp.trans k3)))
end
end La
set_option Elab.async false
set_option linter.all false
set_option maxRecDepth 100000
set_option maxHeartbeats 4000000
namespace La
open PySem PySem.Spec PyProof.Rows L2 SM
def notNil : PyData → Bool
  | .tuple (t :: _) => !PyData.eqv t (.tuple [])
  | _ => false
/-- whether what stands at i among ds cannot stand there -/
def badAt (ns : List Str) (ds : List PyData) (i : Nat) : Bool := match ds[i]? with
  | some d => !isLine ns d || (decide (i + 1 = ds.length) && notNil d)
  | none => false
def firstBad (ns : List Str) (ds : List PyData) : Option Nat := (List.range ds.length).find? (badAt ns ds)
def spRefuse (K : PySem.W.Frag) : Sp := fun vs H Q E => ∃ (l r : Addr) (xs : List V) (ds : List PyData) (ns : List Str), vs = [.ref l, .ref r] ∧ (SqL K H l xs ∨ SqT K H l xs) ∧ DqAll K H xs ds ∧ (∀ d ∈ ds, LayL d) ∧ ds.length ≤ 100 ∧ NamesT K H r ns ∧
  (firstBad ns ds = none → ∀ H', Keep [] H H' → Q .non H') ∧ ∀ i, firstBad ns ds = some i → ∀ d H', Keep [] H H' → H d = none → H' d = some (.xd [("position", .int i)]) → E (.ref (He.ga K "BadLine")) (some d) H'
theorem find_none_to {p : Nat → Bool} : ∀ n, (∀ j, j < n → p j = false) → (List.range n).find? p = none := by
  intro n h
  rw [List.find?_eq_none]
  intro x hx
  rw [h x (List.mem_range.mp hx)]
  exact Bool.false_ne_true
theorem find_at {p : Nat → Bool} {n i : Nat} (hi : i < n) (h : ∀ j, j < i → p j = false) (hp : p i = true) : (List.range n).find? p = some i := by
  rw [show List.range n = List.range' 0 n from List.range_eq_range'] at *
  have : ∀ (m s : Nat), s ≤ i → i < s + m → (List.range' s m).find? p = some i := by
    intro m
    induction m with
    | zero => intro s h1 h2; omega
    | succ m ih =>
      intro s h1 h2
      rw [List.range'_succ, List.find?_cons]
      by_cases e : s = i
      · rw [e, hp]
      · rw [h s (by omega)]
        exact ih (s + 1) (by omega) (by omega)
  exact this n 0 (Nat.zero_le _) (by omega)
theorem firstBad_none {ns : List Str} {ds : List PyData} (h : ∀ j, j < ds.length → badAt ns ds j = false) : firstBad ns ds = none := find_none_to _ h
theorem firstBad_at {ns : List Str} {ds : List PyData} {i : Nat} (hi : i < ds.length) (h : ∀ j, j < i → badAt ns ds j = false) (hp : badAt ns ds i = true) : firstBad ns ds = some i := find_at hi h hp
theorem isLine_head {ns : List Str} {d : PyData} (h : isLine ns d = true) : ∃ es rest, d = .tuple (.tuple es :: rest) := by
  match d, h with
  | .tuple (t :: rest), h =>
    rw [isLine, Bool.and_eq_true, Bool.and_eq_true] at h
    have ht := h.2.1
    match t, ht with
    | .tuple es, _ => exact ⟨es, rest, rfl⟩
section
variable {P : Program} {w : World} {K : PySem.W.Frag} {mg : Str → Option Value} {base : Heap}
abbrev s_refuse_bad_lines : Stmt := (top 52)
abbrev N_refuse_bad_lines : List Str := ["lines", "registers", "last", "position", "line"]
abbrev P_refuse_bad_lines : List Str := ["lines", "registers"]
theorem sc_refuse_bad_lines : FnScope N_refuse_bad_lines P_refuse_bad_lines (defScope s_refuse_bad_lines) := ⟨rfl, rfl, rfl, by decide +kernel, rfl, by decide +kernel, by decide +kernel⟩
theorem Drefuse_bad_lines (W : Cw fas fns K mg) (R_BadLine : RaiseOk P w K mg base "BadLine" "position") (Dis_line : DefOk P w K mg base CX0 3 "is_line" P_is_line (spCheckL K LayL isLine)) : DefOk P w K mg base (CX P w) 4 "refuse_bad_lines" P_refuse_bad_lines (spRefuse K) := by
  refine DefOk.of W 11 43 (st := s_refuse_bad_lines) rfl rfl sc_refuse_bad_lines (fun _ _ _ _ _ _ us hl => match us, hl with | [_, _], _ => rfl) (fun vs H Q E h => ?_) (fun cdv A outer s H vs Q E hr h => ?_)
  · obtain ⟨l, r, xs, ds, ns, rfl, _⟩ := h
    rfl
  · obtain ⟨l, r, xs, ds, ns, rfl, hl, hd, lay, l100, hn, k, kE⟩ := h
    refine ⟨_, (Evl.pss_cut (ps_set (i := 2) sc_refuse_bad_lines.nd rfl (by first | exact Or.inl rfl | exact Or.inr rfl) (pe_op op_sub (pe_callB call_len_seq (by rfl) (W.fre 74) (by decide +kernel) (pa_cons (pv 0) pa_nil)) pe_int)) (pss_one (ps_for (passes_of rfl) rfl (SM.pi_enumA (by rfl) (W.fre 71) (pa_cons (pv 0) pa_nil)) (pg_tup (by rfl) (pgs_cons (pg_name (i := 3) sc_refuse_bad_lines.nd rfl (by first | exact Or.inl rfl | exact Or.inr rfl)) (pgs_cons (pg_name (i := 4) sc_refuse_bad_lines.nd rfl (by first | exact Or.inl rfl | exact Or.inr rfl)) pgs_nil))) (pss_one (ps_if (PW.pt (pw_or (pt_not (pt_val (SM.pe_callD Dis_line (hr.mono (by decide)) pass0 (pa_cons (pv 4) (pa_cons (pv 1) pa_nil))))) (pw_or1 (PW.pt (pw_and (pt_cmpR op_eq (pv 3) (pv 2) (nomark _)) (pw_and1 (pt_cmpR (op_neD hr.units) (pe_ix ix_seq (pv 4) pe_int (fun _ _ => rfl)) (pe_tup pa_nil) (nomark _)))))))) (pss_one (SM.ps_raiseErr R_BadLine rfl (hr.mono (by decide)) (takes_of rfl rfl rfl rfl) (pv 3))) pss_nil))))), ?_⟩
    have lenx := hd.length
    refine ⟨fun σ' H' => σ' = [some (.ref l), some (.ref r), some (.int ((xs.length : Int) - 1)), none, none] ∧ H' = H, ⟨_, rfl, l, xs, rfl, hl, _, 1, rfl, rfl, rfl, rfl⟩, ?_⟩
    rintro σ' H0 ⟨rfl, rfl⟩
    refine ⟨_, rfl, l, xs, rfl, for_enumA (fun i σ' H' => ∃ x3 x4, σ' = [some (.ref l), some (.ref r), some (.int ((xs.length : Int) - 1)), x3, x4] ∧ Keep [] H0 H' ∧ ∀ j, j < i → badAt ns ds j = false) hl ⟨none, none, rfl, Keep.refl, fun j z => absurd z (Nat.not_lt_zero _)⟩ (fun i σ' H' ⟨_, _, _, k, _⟩ => k) ?_ ?_⟩
    · rintro i x T σ' H1 hx ⟨x3, x4, rfl, k1, good⟩ hT
      obtain ⟨d, hdi, hv⟩ := hd.get hx
      have hi : i < ds.length := by
        rcases Nat.lt_or_ge i ds.length with h | h
        · exact h
        · rw [List.getElem?_eq_none h] at hdi
          cases hdi
      have kT : Keep [] H1 (upd H1 T (.tup [.int (i : Int), x])) := Keep.new hT
      have hv2 := (hv.mono k1.same).mono kT.same
      have ld := lay d (List.mem_of_getElem? hdi)
      have out : badAt ns ds i = true → ∀ H', Keep [] H0 H' → ∀ dd, H' dd = none → E (.ref (He.ga K "BadLine")) (some dd) (upd H' dd (.xd [("position", .int (i : Int))])) := by
        intro hb H' kk dd hdd
        exact kE i (firstBad_at hi good hb) dd _ (kk.trans (Keep.new hdd)) (kk.free (by simp) hdd) upd_same
      refine ⟨T, _, rfl, SqT.of upd_same, rfl, _, _, rfl, x, _, rfl, rfl, ?_⟩
      refine ⟨_, rfl, _, rfl, x, r, d, ns, rfl, hv2, ld, hn.keep (k1.trans kT) Soft.nil, fun H2 k2 => ⟨_, rfl, ?_⟩⟩
      have kk := k1.trans (kT.trans k2)
      cases il : isLine ns d with
      | false =>
        refine iteT ⟨_, rfl, ?_⟩
        refine raise_out (W := E) R_BadLine.err R_BadLine.no fun dd hdd => out ?_ H2 kk dd hdd
        rw [badAt, hdi]
        show (!isLine ns d || _) = true
        rw [il]
        rfl
      | true =>
        obtain ⟨es, rest, rfl⟩ := isLine_head il
        have bad : badAt ns ds i = (decide (i + 1 = ds.length) && !PyData.eqv (.tuple es) (.tuple [])) := by
          rw [badAt, hdi]
          show (!isLine ns _ || _) = _
          rw [il]
          rfl
        refine iteF ⟨_, rfl, _, rfl, rfl, _, rfl, ite2 (fun e => ?_) (fun e => ?_)⟩
        · have ei : i + 1 = ds.length := by
            have := V.int.inj (of_decide_eq_true e)
            omega
          have hv3 := hv2.mono k2.same
          cases hv3 with
          | @tup ta txs tds ts tt =>
            cases tt with
            | @cons t0 tr td0 tdr th tl =>
              have lt : Lay 58 (.tuple es) := Lay.tuple (ld _ rfl _ (by simp) es rfl)
              refine ⟨_, rfl, .inr (.inl ⟨ta, _, 0, t0, rfl, rfl, ts, at0 .., Nat.zero_le _, fun q hq => ?_⟩)⟩
              have kq : Keep [] H2 (upd H2 q (.tup [])) := Keep.new hq
              refine ⟨.tuple es, .tuple [], (th.mono kq.same).toDp lt.1, .tup (SqT.of upd_same) .nil, lt.shaped (by decide), (Lay.tuple (n := 0) (ds := []) (fun z h => by cases h)).shaped (by decide), _, rfl, ite2 (fun f => ?_) (fun f => ?_)⟩
              · refine ⟨_, rfl, ?_⟩
                refine raise_out (W := E) R_BadLine.err R_BadLine.no fun dd hdd => out ?_ _ (kk.trans kq) dd hdd
                rw [bad, decide_eq_true ei, f]
                rfl
              · refine ⟨_, _, rfl, kk.trans kq, fun j hj => ?_⟩
                rcases Nat.lt_or_ge j i with h | h
                · exact good j h
                · rw [show j = i by omega, bad, Bool.eq_false_iff.mpr f, Bool.and_false]
        · refine ⟨_, _, rfl, kk, fun j hj => ?_⟩
          rcases Nat.lt_or_ge j i with h | h
          · exact good j h
          · have ne : ¬ (i + 1 = ds.length) := fun z => e (decide_eq_true (congrArg V.int (by omega)))
            rw [show j = i by omega, bad, decide_eq_false ne, Bool.false_and]
    · rintro σ' H1 ⟨x3, x4, rfl, k1, good⟩
      exact k (firstBad_none (fun j hj => good j (by omega))) H1 k1
end
end La
set_option Elab.async false
set_option linter.all false
set_option maxRecDepth 100000
set_option maxHeartbeats 4000000
namespace La
open PySem PySem.Spec PyProof.Rows L2 SM
def isWord : PyData → Bool
  | .str x => (decide (1 ≤ x.length) && decide (x.length ≤ 8)) && x.cps.toList.all fun c => decide (97 ≤ c) && decide (c ≤ 122)
  | _ => false
theorem sg_a : (Str.ofString "a").cps.toList = [97] := by decide +kernel
theorem sg_z : (Str.ofString "z").cps.toList = [122] := by decide +kernel
theorem lt_one (a b : Nat) : decide ([a] < [b]) = decide (a < b) := by
  apply decide_eq_decide.mpr
  rw [List.cons_lt_cons_iff]
  simp
theorem all_idN (bs : List Nat) (f : Nat → Bool) : (bs.map f).all id = bs.all f := by
  induction bs with
  | nil => rfl
  | cons b bs ih => rw [List.map_cons, List.all_cons, List.all_cons, ih]; rfl
section
variable {P : Program} {w : World} {K : PySem.W.Frag} {mg : Str → Option Value} {base : Heap}
abbrev s_is_word : Stmt := (top 50)
abbrev N_is_word : List Str := ["value", "letter"]
abbrev P_is_word : List Str := ["value"]
theorem sc_is_word : FnScope N_is_word P_is_word (defScope s_is_word) := ⟨rfl, rfl, rfl, by decide +kernel, rfl, by decide +kernel, by decide +kernel⟩
theorem Dis_word (W : Cw fas fns K mg) : DefOk P w K mg base CX0 1 "is_word" P_is_word (fun vs H Q _ => ∃ v d, vs = [v] ∧ Dq K H v d ∧ (∀ x, d = .str x → x.length ≤ 1000) ∧ ∀ H', Keep [] H H' → Q (.bl (isWord d)) H') := by
  refine DefOk.of W 9 41 (st := s_is_word) rfl rfl sc_is_word (fun _ _ _ _ _ _ us hl => match us, hl with | [_], _ => rfl) (fun vs H Q E h => ?_) (fun cdv A outer s H vs Q E hr h => ?_)
  · obtain ⟨v, d, rfl, _⟩ := h
    rfl
  · obtain ⟨v, d, rfl, hv, short, k⟩ := h
    refine ⟨_, PSs.nox (Evl.pss_cut (ps_if (PW.pt (pw_or (pt_not (pt_val (pe_callB call_isi (by rfl) (W.fre 73) (by decide +kernel) (pa_cons (pv 0) (pa_cons (pe_bltn (v := .ty "str") (by rfl) (W.fre 82) (show bootBuiltins "str" = some (.type "str") by decide +kernel) rfl) pa_nil))))) (pw_or1 (pt_not (pt_chain op_le op_le pe_int (pe_callB call_len_str (by rfl) (W.fre 74) (by decide +kernel) (pa_cons (pv 0) pa_nil)) pe_int))))) (pss_one (ps_ret pe_bl)) pss_nil) (pss_one (ps_ret (pe_callB (cr_all rfl) (by rfl) (W.fre 69) (by decide +kernel) (pa_cons (pe_lc (own := [("letter", 1)]) (g := gName 1) (tt := tYes) (by rfl) sc_is_word.nd (pi_str (pv 0)) (blkOk_by (own := [("letter", 1)]) (N := N_is_word) (sc := defScope s_is_word) (by decide +kernel)) (fun _ _ _ _ _ => pg_name (i := 1) sc_is_word.nd rfl (Or.inl rfl)) (fun _ _ _ _ _ => pts_nil) (fun _ _ _ _ _ => (pe_chain op_le_str op_le_str pe_str (pv 1) pe_str))) pa_nil))))), ?_⟩
    refine ⟨fun σ' H' => σ' = [some v, none] ∧ H' = H ∧ ∃ x, v = .str x ∧ d = .str x ∧ (decide (1 ≤ x.length) && decide (x.length ≤ 8)) = true, ?_, ?_⟩
    · refine ⟨_, rfl, _, _, _, _, _, rfl, .ty _, hv.ty, kit_str d, _, rfl, ?_⟩
      have k0 := k H Keep.refl
      cases hv with
      | str x =>
        refine iteF ⟨_, rfl, x, rfl, Nat.le_trans (short x rfl) (by decide), _, _, rfl, rfl, _, rfl, ite2 (fun e => ?_) (fun e => ?_)⟩
        · refine ⟨_, _, rfl, rfl, _, rfl, ite2 (fun f => ?_) (fun f => ?_)⟩
          · rw [isWord, decide_eq_false (show ¬ x.length ≤ 8 by intro z; simp at f; omega), Bool.and_false, Bool.false_and] at k0
            exact k0
          · refine ⟨rfl, rfl, x, rfl, rfl, ?_⟩
            simp at e f ⊢
            exact ⟨by omega, by omega⟩
        · refine ⟨_, rfl, iteT ?_⟩
          rw [isWord, decide_eq_false (show ¬ 1 ≤ x.length by intro z; simp at e; omega), Bool.false_and, Bool.false_and] at k0
          exact k0
      | non => exact iteT k0
      | bl b => exact iteT k0
      | int b => exact iteT k0
      | tup s t => exact iteT k0
      | lst s t => exact iteT k0
      | dic s t => exact iteT k0
    rintro σ' H1 ⟨rfl, rfl, x, rfl, rfl, hx⟩
    have xs : x.cps.size ≤ 1000 := short x rfl
    refine ⟨_, rfl, x, rfl, fun D hD => ?_⟩
    refine lcBstr (f := fun c => decide (97 ≤ c) && decide (c ≤ 122)) xs (fun H2 k2 c => ?_) hD fun H2 k2 e2 => ⟨D, _, rfl, SqL.of e2, ?_⟩
    · intro H3 k3 Q' q'
      refine ⟨_, rfl, _, _, rfl, rfl, _, rfl, ?_⟩
      have q0 := q' H3 Keep.refl
      rw [sg_a]
      show (if (!decide ([c] < [97])) = true then _ else _)
      rw [lt_one]
      refine ite2 (fun e => ?_) (fun e => ?_)
      · refine ⟨_, _, rfl, rfl, ?_⟩
        rw [sg_z]
        show Q' (.bl (!decide ([122] < [c]))) H3
        rw [lt_one]
        have e1 : 97 ≤ c := by simp at e; exact e
        rw [decide_eq_true e1, Bool.true_and] at q0
        have e2 : (!decide (122 < c)) = decide (c ≤ 122) := by
          by_cases h : 122 < c
          · rw [decide_eq_true h, decide_eq_false (by omega)]; rfl
          · rw [decide_eq_false h, decide_eq_true (by omega)]; rfl
        rw [e2]
        exact q0
      · have e1 : ¬ 97 ≤ c := by
          intro z
          have : decide (c < 97) = false := decide_eq_false (by omega)
          rw [this] at e
          exact e rfl
        rw [decide_eq_false e1, Bool.false_and] at q0
        exact q0
    · rw [all_idN]
      have := k H2 k2
      rw [isWord, hx, Bool.true_and] at this
      exact this
end
end La
set_option Elab.async false
set_option linter.all false
set_option maxRecDepth 100000
set_option maxHeartbeats 4000000
namespace La
open PySem PySem.Spec PyProof.Rows L2 SM
def isName (d : PyData) : Bool := isWord d && !memS words01 d
def strsOf : List PyData → List Str
  | .str x :: ds => x :: strsOf ds
  | _ :: ds => strsOf ds
  | [] => []
def isRegs : PyData → Bool
  | .list ds => decide (ds.length ≤ 3) && (ds.all isName && decide ((dedS (strsOf ds)).length = ds.length))
  | .tuple ds => decide (ds.length ≤ 3) && (ds.all isName && decide ((dedS (strsOf ds)).length = ds.length))
  | _ => false
def regsD (ds : List PyData) : Bool := decide (ds.length ≤ 3) && (ds.all isName && decide ((dedS (strsOf ds)).length = ds.length))
theorem isName_str {d : PyData} (h : isName d = true) : ∃ x, d = .str x := by
  rw [isName, Bool.and_eq_true] at h
  match d, h.1 with
  | .str x, _ => exact ⟨x, rfl⟩
theorem names_strs : ∀ {ds : List PyData}, ds.all isName = true → ds = (strsOf ds).map PyData.str
  | [], _ => rfl
  | d :: ds, h => by
    rw [List.all_cons, Bool.and_eq_true] at h
    obtain ⟨x, rfl⟩ := isName_str h.1
    rw [strsOf, List.map_cons, ← names_strs h.2]
theorem words01_ok : OkN words01 := by
  have h : words01.all (fun s => PyData.strOk s) = true := by decide +kernel
  exact fun s hs => List.all_eq_true.mp h s hs
theorem word_ok {x : Str} (h : isWord (.str x) = true) : PyData.strOk x = true := by
  rw [isWord, Bool.and_eq_true] at h
  rw [PyData.strOk, Array.all_eq_true']
  intro c hc
  have := List.all_eq_true.mp h.2 c (by simpa using hc)
  simp only [Bool.and_eq_true, decide_eq_true_eq] at this ⊢
  omega
theorem dqStrs {K : PySem.W.Frag} {H : Hp} : ∀ {ns : List Str} {us : List V}, DqAll K H us (ns.map PyData.str) → us = ns.map V.str
  | [], _, .nil => rfl
  | n :: ns, _, .cons h t => by
    rw [dqStrs t]
    cases h
    rfl
def spWord (K : PySem.W.Frag) : Sp := fun vs H Q _ => ∃ v d, vs = [v] ∧ Dq K H v d ∧ (∀ x, d = .str x → x.length ≤ 1000) ∧ ∀ H', Keep [] H H' → Q (.bl (isWord d)) H'
def itemsOf : PyData → List PyData
  | .list ds => ds
  | .tuple ds => ds
  | _ => []
section
variable {P : Program} {w : World} {K : PySem.W.Frag} {mg : Str → Option Value} {base : Heap}
abbrev s_are_registers : Stmt := (top 51)
abbrev N_are_registers : List Str := ["value", "name"]
abbrev P_are_registers : List Str := ["value"]
theorem sc_are_registers : FnScope N_are_registers P_are_registers (defScope s_are_registers) := ⟨rfl, rfl, rfl, by decide +kernel, rfl, by decide +kernel, by decide +kernel⟩
theorem Dare_registers (W : Cw fas fns K mg) (hx : exB K = true) (Dis_word : DefOk P w K mg base CX0 1 "is_word" P_is_word (spWord K)) : DefOk P w K mg base CX0 2 "are_registers" P_are_registers (fun vs H Q _ => ∃ v d, vs = [v] ∧ Dq K H v d ∧ (∀ e ∈ itemsOf d, ∀ x, e = .str x → x.length ≤ 1000) ∧ ∀ H', Keep [] H H' → Q (.bl (isRegs d)) H') := by
  refine DefOk.of W 10 42 (st := s_are_registers) rfl rfl sc_are_registers (fun _ _ _ _ _ _ us hl => match us, hl with | [_], _ => rfl) (fun vs H Q E h => ?_) (fun cdv A outer s H vs Q E hr h => ?_)
  · obtain ⟨v, d, rfl, _⟩ := h
    rfl
  · obtain ⟨v, d, rfl, hv, short, k⟩ := h
    refine ⟨_, PSs.nox (Evl.pss_cut (ps_if (PW.pt (pw_or (pt_not (pt_val (pe_callB call_isiT (by rfl) (W.fre 73) (by decide +kernel) (pa_cons (pv 0) (pa_cons (pe_tup (pa_cons (pe_bltn (v := .ty "list") (by rfl) (W.fre 75) (show bootBuiltins "list" = some (.type "list") by decide +kernel) rfl) (pa_cons (pe_bltn (v := .ty "tuple") (by rfl) (W.fre 83) (show bootBuiltins "tuple" = some (.type "tuple") by decide +kernel) rfl) pa_nil))) pa_nil))))) (pw_or1 (pt_cmpR op_gt (pe_callB call_len_seq (by rfl) (W.fre 74) (by decide +kernel) (pa_cons (pv 0) pa_nil)) pe_int (nomark _))))) (pss_one (ps_ret pe_bl)) pss_nil) (Evl.pss_cut (ps_if (pt_not (pt_val (pe_callB (cr_all rfl) (by rfl) (W.fre 69) (by decide +kernel) (pa_cons (pe_lc (own := [("name", 1)]) (g := gName 1) (tt := tYes) (te := tAndV (tCall _ [] E0 _) (tOp (SM.rNotInA K) _ _)) (by rfl) sc_are_registers.nd (SM.pi_seq (pv 0)) (blkOk_by (own := [("name", 1)]) (N := N_are_registers) (sc := defScope s_are_registers) (by decide +kernel)) (fun _ _ _ _ _ => pg_name (i := 1) sc_are_registers.nd rfl (Or.inl rfl)) (fun _ _ _ _ _ => pts_nil) (fun _ _ _ _ _ => (pe_and (SM.pe_callD Dis_word (hr.mono (by decide)) pass0 (pa_cons (pv 1) pa_nil)) (pe_one (pe_cmpR (SM.op_notInA (SM.units65 hr)) (pv 1) (pe_glob (v := .ref _) (by rfl) (W.glo 86) rfl) (by rfl)))))) pa_nil)))) (pss_one (ps_ret pe_bl)) pss_nil) (pss_one (ps_ret (pe_cmpR op_eq (SM.pe_lenSetW (by rfl) (by rfl) (W.fre 74) (by rfl) (W.fre 81) (pv 0)) (pe_callB call_len_seq (by rfl) (W.fre 74) (by decide +kernel) (pa_cons (pv 0) pa_nil)) (nomark _)))))), ?_⟩
    refine ⟨fun σ' H' => σ' = [some v, none] ∧ Keep [] H H' ∧ ∃ a xs ds, v = .ref a ∧ (SqL K H' a xs ∨ SqT K H' a xs) ∧ isRegs d = regsD ds ∧ itemsOf d = ds ∧ DqAll K H' xs ds ∧ ds.length ≤ 3, ?_, ?_⟩
    · refine ⟨_, rfl, (by show 2 ≤ sizeLine; decide), fun q hq => ?_⟩
      have kq : Keep [] H (upd H q (.tup [.ty "list", .ty "tuple"])) := Keep.new hq
      have kk := k _ kq
      have hv' := hv.mono kq.same
      refine ⟨v, q, [.ty "list", .ty "tuple"], _, [.type "list", .type "tuple"], isSeq d, rfl, upd_same, .cons (.ty _) (.cons (.ty _) .nil), hv'.ty, kit_seq d, _, rfl, ?_⟩
      have seq : ∀ a xs ds, v = .ref a → (SqL K (upd H q (.tup [.ty "list", .ty "tuple"])) a xs ∨ SqT K (upd H q (.tup [.ty "list", .ty "tuple"])) a xs) → isRegs d = regsD ds → itemsOf d = ds → DqAll K (upd H q (.tup [.ty "list", .ty "tuple"])) xs ds →
          (if decide ((3 : Int) < xs.length) = true then Q (.bl false) (upd H q (.tup [.ty "list", .ty "tuple"])) else ds.length ≤ 3) := by
        intro a xs ds _ hs e1 e2 hd
        have len := hd.length
        refine ite2 (fun h => ?_) (fun h => ?_)
        · have : ¬ ds.length ≤ 3 := by
            have := of_decide_eq_true h
            omega
          rw [e1, regsD, decide_eq_false this, Bool.false_and] at kk
          exact kk
        · have : ¬ (3 : Int) < xs.length := fun z => h (decide_eq_true z)
          omega
      cases hv' with
      | @lst a xs ds s t =>
        have z := seq a xs ds rfl (.inl s) rfl rfl t
        refine iteF ⟨_, rfl, a, xs, rfl, .inl s, _, 3, rfl, rfl, _, rfl, ?_⟩
        by_cases h : decide ((3 : Int) < xs.length) = true
        · rw [if_pos h] at z ⊢
          exact z
        · rw [if_neg h] at z ⊢
          exact ⟨rfl, kq, a, xs, ds, rfl, .inl s, rfl, rfl, t, z⟩
      | @tup a xs ds s t =>
        have z := seq a xs ds rfl (.inr s) rfl rfl t
        refine iteF ⟨_, rfl, a, xs, rfl, .inr s, _, 3, rfl, rfl, _, rfl, ?_⟩
        by_cases h : decide ((3 : Int) < xs.length) = true
        · rw [if_pos h] at z ⊢
          exact z
        · rw [if_neg h] at z ⊢
          exact ⟨rfl, kq, a, xs, ds, rfl, .inr s, rfl, rfl, t, z⟩
      | non => exact iteT kk
      | bl b => exact iteT kk
      | int b => exact iteT kk
      | str b => exact iteT kk
      | dic s t => exact iteT kk
    rintro σ' H1 ⟨rfl, k1, a, xs, ds, rfl, hs, e1, e2, hd, l3⟩
    rw [e1, regsD, decide_eq_true l3, Bool.true_and] at k
    rw [e2] at short
    have item : ∀ (H2 : Hp), Keep [] H1 H2 → ∀ (v : V) (e : PyData), e ∈ ds → Dq K H2 v e → LtB (tAndV (tCall (spWord K) [] E0 (tCons (tVar 1) tNil)) (tOp (rNotInA K) (tVar 1) (tC (.ref (He.ga K "WORDS_OF_TEXTS"))))) (([some (.ref a), none] : L2.St).set 1 none |>.set 1 (some v)) H2 (isName e) := by
      intro H2 k2 u e he hu H3 k3 Q' q'
      refine ⟨_, rfl, u, e, rfl, hu.mono k3.same, short e he, fun H4 k4 => ⟨_, rfl, ite2 (fun h => ?_) (fun h => ?_)⟩⟩
      · have h' : isWord e = true := h
        have q0 := q' H4 k4
        rw [isName, h', Bool.true_and] at q0
        obtain ⟨x, rfl⟩ : ∃ x, e = .str x := by
          match e, h' with
          | .str x, _ => exact ⟨x, rfl⟩
        cases hu
        refine ⟨_, rfl, .inr ⟨.str x, words01.map PyData.str, .str x, .tup (words_at hx H4) (dpStrs words01), shaped_str (word_ok h'), shaped_strs words01_ok, ?_⟩⟩
        exact q0
      · have q0 := q' H4 k4
        rw [isName, show isWord e = false from Bool.eq_false_iff.mpr h, Bool.false_and] at q0
        exact q0
    refine ⟨fun σ' H' => σ' = [some (.ref a), none] ∧ Keep [] H1 H' ∧ ds.all isName = true, ?_, ?_⟩
    · have rest : ∀ D H2, Keep [] H1 H2 → H2 D = some (.lst ((ds.map isName).map V.bl)) → rAll K [.ref D] H2 fun x H' => ∃ c, x = .bl c ∧ (fun b (H1' : Hp) => if b = true then Q (.bl false) H1' else ([some (.ref a), none] : L2.St) = [some (.ref a), none] ∧ Keep [] H1 H1' ∧ ds.all isName = true) (!c) H' := by
        intro D H2 k2 e2
        refine ⟨D, _, rfl, SqL.of e2, _, rfl, ?_⟩
        have e' : (ds.map isName).all id = ds.all isName := all_id ds isName
        rw [e']
        cases c : ds.all isName with
        | true => exact iteF ⟨rfl, k2, rfl⟩
        | false =>
          have kk := k H2 (k1.trans k2)
          rw [c, Bool.false_and] at kk
          exact iteT kk
      rcases hs with hs | hs
      · exact ⟨_, rfl, a, rfl, .inl ⟨⟨xs, hs⟩, fun D hD => lcBL (f := isName) hs hd (by omega) item hD fun H2 k2 e2 => rest D H2 k2 e2⟩⟩
      · exact ⟨_, rfl, a, rfl, .inr ⟨⟨xs, hs⟩, fun D hD => lcB (f := isName) hs hd (by omega) item hD fun H2 k2 e2 => rest D H2 k2 e2⟩⟩
    rintro σ' H2 ⟨rfl, k2, hall⟩
    have es := names_strs hall
    have kk := k H2 (k1.trans k2)
    rw [hall, Bool.true_and] at kk
    have hs2 : SqL K H2 a xs ∨ SqT K H2 a xs := hs.elim (fun h => .inl (k2.same.seq h)) (fun h => .inr (seqT_keep k2 Soft.nil h))
    have hd2 := hd.mono k2.same
    rw [es] at hd2
    have exs := dqStrs hd2
    have len : xs.length = ds.length := hd.length
    have lst : (strsOf ds).length ≤ 100 := by
      have := congrArg List.length exs
      rw [List.length_map] at this
      omega
    refine ⟨_, rfl, a, strsOf ds, rfl, by rw [← exs]; exact hs2, lst, _, rfl, a, xs, rfl, hs2, rfl, ?_⟩
    rw [len]
    have e3 : decide (V.int ((dedS (strsOf ds)).length : Int) = V.int (ds.length : Int)) = decide ((dedS (strsOf ds)).length = ds.length) := by
      apply decide_eq_decide.mpr
      constructor
      · intro z
        have := V.int.inj z
        omega
      · intro z
        rw [z]
    rw [e3]
    exact kk
end
end La
set_option Elab.async false
set_option linter.all false
set_option maxRecDepth 100000
set_option maxHeartbeats 4000000
namespace La
open PySem PySem.Spec PyProof.Rows L2 SM
def linesIn : PyData → Bool
  | .list ds => decide (1 ≤ ds.length) && decide (ds.length ≤ 8)
  | .tuple ds => decide (1 ≤ ds.length) && decide (ds.length ≤ 8)
  | _ => false
def spRegs (K : PySem.W.Frag) : Sp := fun vs H Q _ => ∃ v d, vs = [v] ∧ Dq K H v d ∧ (∀ e ∈ itemsOf d, ∀ x, e = .str x → x.length ≤ 1000) ∧ ∀ H', Keep [] H H' → Q (.bl (isRegs d)) H'
/-- what stands as a rule in H -/
structure RuleAt (K : PySem.W.Frag) (H : Hp) (x : Addr) (ns : List Str) (ds : List PyData) : Prop where
  obj : ∃ dx t l, H x = some (.ins (He.ga K "Rule") dx (putF "_lines" (.ref l) (putF "_registers" (.ref t) []))) ∧ SqT K H t (ns.map V.str) ∧ ∃ xs, SqT K H l xs ∧ DqAll K H xs ds
def spRuleI (K : PySem.W.Frag) : Sp := fun vs H Q E => ∃ (x dx : Addr) (vr vl : V) (dr dl : PyData), vs = [.ref x, vr, vl] ∧ H x = some (.ins (He.ga K "Rule") dx []) ∧ Dq K H vr dr ∧ Dq K H vl dl ∧ (∀ e ∈ itemsOf dr, ∀ x, e = .str x → x.length ≤ 1000) ∧ (∀ d ∈ itemsOf dl, Lay 60 d) ∧
  (isRegs dr = false → ∀ d H', Keep [] H H' → H d = none → H' d = some (.xd [("value", vr)]) → E (.ref (He.ga K "BadRegisters")) (some d) H') ∧
  (isRegs dr = true → linesIn dl = false → ∀ d H', Keep [] H H' → H d = none → H' d = some (.xd [("value", vl)]) → E (.ref (He.ga K "BadLines")) (some d) H') ∧
  (isRegs dr = true → linesIn dl = true → ∀ i, firstBad (strsOf (itemsOf dr)) (itemsOf dl) = some i → ∀ d H', Keep [] H H' → H d = none → H' d = some (.xd [("position", .int i)]) → E (.ref (He.ga K "BadLine")) (some d) H') ∧
  (isRegs dr = true → linesIn dl = true → firstBad (strsOf (itemsOf dr)) (itemsOf dl) = none → ∀ H', Keep [x] H H' → RuleAt K H' x (strsOf (itemsOf dr)) (itemsOf dl) → Q .non H')
section
variable {K : PySem.W.Frag}
mutual
/-- data stands while an object changes -/
theorem Dq.kIns {x C dx : Addr} {fs : List (Str × V)} {H H' : Hp} (k : Keep [x] H H') (n : H x = some (.ins C dx fs)) : ∀ {v : V} {d : PyData}, Dq K H v d → Dq K H' v d
  | _, _, .non => .non
  | _, _, .bl b => .bl b
  | _, _, .int i => .int i
  | _, _, .str x => .str x
  | _, _, .lst s t => .lst (by
      rcases s with (s | ⟨o, s⟩) | s
      · exact .inl (.inl (k _ _ (fun z => by rw [List.mem_singleton.mp z, n] at s; cases s) s))
      · exact .inl (.inr ⟨o, k _ _ (fun z => by rw [List.mem_singleton.mp z, n] at s; cases s) s⟩)
      · exact .inr s) (DqAll.kIns k n t)
  | _, _, .tup s t => .tup (by
      rcases s with (s | ⟨o, s⟩) | s
      · exact .inl (.inl (k _ _ (fun z => by rw [List.mem_singleton.mp z, n] at s; cases s) s))
      · exact .inl (.inr ⟨o, k _ _ (fun z => by rw [List.mem_singleton.mp z, n] at s; cases s) s⟩)
      · exact .inr s) (DqAll.kIns k n t)
  | _, _, .dic s t => .dic (k _ _ (fun z => by rw [List.mem_singleton.mp z, n] at s; cases s) s) (DqAll.kIns k n t)
theorem DqAll.kIns {x C dx : Addr} {fs : List (Str × V)} {H H' : Hp} (k : Keep [x] H H') (n : H x = some (.ins C dx fs)) : ∀ {vs : List V} {ds : List PyData}, DqAll K H vs ds → DqAll K H' vs ds
  | _, _, .nil => .nil
  | _, _, .cons s t => .cons (Dq.kIns k n s) (DqAll.kIns k n t)
end
theorem sqL_ins {x C dx a : Addr} {fs : List (Str × V)} {xs : List V} {H H' : Hp} (k : Keep [x] H H') (n : H x = some (.ins C dx fs)) (s : SqL K H a xs) : SqL K H' a xs := by
  rcases s with (s | ⟨o, s⟩) | s
  · exact .inl (.inl (k _ _ (fun z => by rw [List.mem_singleton.mp z, n] at s; cases s) s))
  · exact .inl (.inr ⟨o, k _ _ (fun z => by rw [List.mem_singleton.mp z, n] at s; cases s) s⟩)
  · exact .inr s
theorem Soft.ins {x C dx : Addr} {fs : List (Str × V)} {H : Hp} (n : H x = some (.ins C dx fs)) : Soft [x] H := fun b z ys => by
  rw [List.mem_singleton.mp z, n]
  exact ⟨(fun e => by cases e), (fun o e => by cases e)⟩
theorem regs_seq {H : Hp} {v : V} {d : PyData} (h : isRegs d = true) (dv : Dq K H v d) : ∃ a, v = .ref a ∧ (SqL K H a ((strsOf (itemsOf d)).map V.str) ∨ SqT K H a ((strsOf (itemsOf d)).map V.str)) ∧ (strsOf (itemsOf d)).length ≤ 3 ∧ OkN (strsOf (itemsOf d)) := by
  have main : ∀ ds xs, regsD ds = true → DqAll K H xs ds → xs = (strsOf ds).map V.str ∧ (strsOf ds).length ≤ 3 ∧ OkN (strsOf ds) := by
    intro ds xs hd dx
    rw [regsD, Bool.and_eq_true, Bool.and_eq_true, decide_eq_true_eq] at hd
    have es := names_strs hd.2.1
    have dx' := dx
    rw [es] at dx'
    have l := congrArg List.length es
    rw [List.length_map] at l
    refine ⟨dqStrs dx', by omega, fun s hs => ?_⟩
    have m : PyData.str s ∈ ds := by
      rw [es]
      exact List.mem_map_of_mem hs
    have := List.all_eq_true.mp hd.2.1 _ m
    rw [isName, Bool.and_eq_true] at this
    exact word_ok this.1
  cases dv with
  | @lst a xs ds s t =>
    obtain ⟨e, l, o⟩ := main ds xs h t
    subst e
    exact ⟨a, rfl, .inl s, l, o⟩
  | @tup a xs ds s t =>
    obtain ⟨e, l, o⟩ := main ds xs h t
    subst e
    exact ⟨a, rfl, .inr s, l, o⟩
  | non => cases h
  | bl b => cases h
  | int b => cases h
  | str b => cases h
  | dic s t => cases h
theorem lines_seq {H : Hp} {v : V} {d : PyData} (h : linesIn d = true) (dv : Dq K H v d) : ∃ a xs, v = .ref a ∧ (SqL K H a xs ∨ SqT K H a xs) ∧ DqAll K H xs (itemsOf d) ∧ (itemsOf d).length ≤ 8 := by
  cases dv with
  | @lst a xs ds s t =>
    rw [linesIn, Bool.and_eq_true, decide_eq_true_eq, decide_eq_true_eq] at h
    exact ⟨a, xs, rfl, .inl s, t, h.2⟩
  | @tup a xs ds s t =>
    rw [linesIn, Bool.and_eq_true, decide_eq_true_eq, decide_eq_true_eq] at h
    exact ⟨a, xs, rfl, .inr s, t, h.2⟩
  | non => cases h
  | bl b => cases h
  | int b => cases h
  | str b => cases h
  | dic s t => cases h
end
end La
set_option Elab.async false
set_option linter.all false
set_option maxRecDepth 100000
set_option maxHeartbeats 4000000
namespace La
open PySem PySem.Spec PyProof.Rows L2 SM
theorem eqv_str (x : Str) (d : PyData) : PyData.eqv d (.str x) = PyData.eqv (.str x) d := by
  cases d with
  | str y =>
    rw [PyData.eqv, PyData.eqv]
    exact Bool.eq_iff_iff.mpr ⟨fun h => by rw [eq_of_beq h]; exact beq_self_eq_true _, fun h => by rw [eq_of_beq h]; exact beq_self_eq_true _⟩
  | _ => rw [PyData.eqv, PyData.eqv]
theorem keepD_len (l : Ln) : (stepsD l.steps :: keepD l.keep).length ≤ 2 ∧ 1 ≤ (stepsD l.steps :: keepD l.keep).length := by
  cases l.keep with
  | none => exact ⟨by show 1 ≤ 2; decide, by show 1 ≤ 1; decide⟩
  | some k => exact ⟨by show 2 ≤ 2; decide, by show 1 ≤ 2; decide⟩
/-! ### what a good line is -/
theorem eqv_str_inv {x : Str} {d : PyData} (h : PyData.eqv (.str x) d = true) : d = .str x := by
  cases d with
  | str y =>
    rw [PyData.eqv] at h
    rw [eq_of_beq h]
  | _ =>
    rw [PyData.eqv] at h
    cases h
theorem memS_inv {ns : List Str} {d : PyData} (h : memS ns d = true) : ∃ s ∈ ns, d = .str s := by
  obtain ⟨z, hz, e⟩ := List.any_eq_true.mp (show ((ns.map PyData.str).any fun z => PyData.eqv z d) = true from h)
  obtain ⟨s, hs, rfl⟩ := List.mem_map.mp hz
  exact ⟨s, hs, eqv_str_inv e⟩
theorem isStep_good {ns : List Str} {d : PyData} (h : isStep ns d = true) : ∃ s, d = stepD s ∧ GoodS ns s := by
  match d, h with
  | .tuple [t, e], h =>
    rw [isStep, Bool.and_eq_true, Bool.or_eq_true] at h
    obtain ⟨x, hx, rfl⟩ := memS_inv h.1
    have hx' : x = "here" ∨ x ∈ ns := List.mem_cons.mp hx
    rcases h.2 with h2 | h2
    · obtain ⟨y, hy, rfl⟩ := memS_inv h2
      refine ⟨(x, y), rfl, hx', ?_⟩
      rcases List.mem_cons.mp hy with e | e
      · exact .inr (.inl e)
      · exact .inr (.inr (.inr e))
    · obtain ⟨y, hy, rfl⟩ := memS_inv h2
      refine ⟨(x, y), rfl, hx', ?_⟩
      simp only [List.mem_cons, List.not_mem_nil, or_false] at hy
      rcases hy with e | e
      · exact .inl e
      · exact .inr (.inr (.inl e))
theorem isTest_good {ns : List Str} {d : PyData} (h : isTest ns d = true) : ∃ s, d = testD s ∧ GoodT ns s := by
  match d, h with
  | .tuple [t, e, b], h =>
    rw [isTest, Bool.and_eq_true, Bool.and_eq_true, Bool.or_eq_true] at h
    obtain ⟨h1, h2, h3⟩ := h
    obtain ⟨x, hx, rfl⟩ := memS_inv h1
    have hx' : x = "here" ∨ x = "new" ∨ x ∈ ns := by
      rcases List.mem_cons.mp hx with e | e
      · exact .inl e
      · exact .inr (List.mem_cons.mp e)
    cases b with
    | bool b =>
      rcases h2 with h2 | h2
      · obtain ⟨y, hy, rfl⟩ := memS_inv h2
        refine ⟨(x, y, b), rfl, hx', ?_⟩
        rcases List.mem_cons.mp hy with e | e
        · exact .inr (.inl e)
        · rcases List.mem_cons.mp e with e | e
          · exact .inl e
          · exact .inr (.inr (.inr e))
      · rw [eqv_str] at h2
        rw [eqv_str_inv h2]
        exact ⟨(x, "nothing", b), rfl, hx', .inr (.inr (.inl rfl))⟩
    | _ => cases h3
theorem all_good {α : Type} {p : PyData → Bool} {f : α → PyData} {G : α → Prop} (h : ∀ d, p d = true → ∃ s, d = f s ∧ G s) : ∀ {ds : List PyData}, ds.all p = true → ∃ l : List α, ds = l.map f ∧ ∀ s ∈ l, G s
  | [], _ => ⟨[], rfl, fun s z => by cases z⟩
  | d :: ds, e => by
    rw [List.all_cons, Bool.and_eq_true] at e
    obtain ⟨s, rfl, g⟩ := h d e.1
    obtain ⟨l, rfl, gs⟩ := all_good h e.2
    exact ⟨s :: l, rfl, fun z hz => by
      rcases List.mem_cons.mp hz with rfl | hz
      · exact g
      · exact gs z hz⟩
theorem isSteps_good {ns : List Str} {d : PyData} (h : isSteps ns d = true) : ∃ l, d = stepsD l ∧ l.length ≤ 4 ∧ ∀ s ∈ l, GoodS ns s := by
  match d, h with
  | .tuple ds, h =>
    rw [isSteps, Bool.and_eq_true, decide_eq_true_eq] at h
    obtain ⟨l, rfl, g⟩ := all_good (fun d => isStep_good) h.2
    rw [List.length_map] at h
    exact ⟨l, rfl, h.1, g⟩
theorem isLine_good {ns : List Str} {d : PyData} (h : isLine ns d = true) : ∃ l, d = lnD l ∧ GoodL ns l := by
  match d, h with
  | .tuple (t :: rest), h =>
    rw [isLine, Bool.and_eq_true, Bool.and_eq_true, Bool.or_eq_true, decide_eq_true_eq, decide_eq_true_eq] at h
    obtain ⟨h0, h1, h2⟩ := h
    have ht : ∃ l, t = testsD l ∧ l.length ≤ 4 ∧ ∀ s ∈ l, GoodT ns s := by
      match t, h1 with
      | .tuple ds, h1 =>
        rw [isTests, Bool.and_eq_true, decide_eq_true_eq] at h1
        obtain ⟨l, rfl, g⟩ := all_good (fun d => isTest_good) h1.2
        rw [List.length_map] at h1
        exact ⟨l, rfl, h1.1, g⟩
    obtain ⟨ts, rfl, t4, tg⟩ := ht
    match rest, h0, h2 with
    | [a], _, h2 =>
      rw [List.all_cons, Bool.and_eq_true] at h2
      obtain ⟨ss, rfl, s4, sg⟩ := isSteps_good h2.1
      exact ⟨⟨ts, ss, none⟩, rfl, ⟨t4, tg⟩, ⟨s4, sg⟩, fun k z => by cases z⟩
    | [a, b], _, h2 =>
      rw [List.all_cons, List.all_cons, Bool.and_eq_true, Bool.and_eq_true] at h2
      obtain ⟨ss, rfl, s4, sg⟩ := isSteps_good h2.1
      obtain ⟨ks, rfl, k4, kg⟩ := isSteps_good h2.2.1
      exact ⟨⟨ts, ss, some ks⟩, rfl, ⟨t4, tg⟩, ⟨s4, sg⟩, fun k z => by cases z; exact ⟨k4, kg⟩⟩
    | [], h0, _ => simp at h0
    | _ :: _ :: _ :: _, h0, _ => simp at h0
/-! ### a line by positions -/
def HasAll (kvs : List (Key × V)) (ns : List Str) : Prop := ∀ x : Str, x = "here" ∨ x = "new" ∨ x = "nothing" ∨ x ∈ ns → ∃ v, valV kvs (.inr x) = some v
def spChoice (K : PySem.W.Frag) : Sp := fun vs H Q _ => ∃ (v : V) (pd : Addr) (kvs : List (Key × V)) (ns : List Str) (l : Ln), vs = [v, .ref pd] ∧ Dt K H v (lnD l) ∧ GoodL ns l ∧ H pd = some (.dK kvs) ∧ HasAll kvs ns ∧ ∀ y H', Keep [] H H' → Q y H'
section
variable {P : Program} {w : World} {K : PySem.W.Frag} {mg : Str → Option Value} {base : Heap}
abbrev s_choice_of : Stmt := (top 45)
abbrev N_choice_of : List Str := ["line", "positions", "tests", "one", "other", "same", "lists", "target", "source", "steps"]
abbrev P_choice_of : List Str := ["line", "positions"]
theorem sc_choice_of : FnScope N_choice_of P_choice_of (defScope s_choice_of) := ⟨rfl, rfl, rfl, by decide +kernel, rfl, by decide +kernel, by decide +kernel⟩
theorem Dchoice_of (W : Cw fas fns K mg) : DefOk P w K mg base CX0 1 "choice_of" P_choice_of (spChoice K) := by
  refine DefOk.of W 7 39 (st := s_choice_of) rfl rfl sc_choice_of (fun _ _ _ _ _ _ us hl => match us, hl with | [_, _], _ => rfl) (fun vs H Q E h => ?_) (fun cdv A outer s H vs Q E hr h => ?_)
  · obtain ⟨v, pd, kvs, ns, l, rfl, _⟩ := h
    rfl
  · obtain ⟨v, pd, kvs, ns, l, rfl, dv, gl, hp, has, k⟩ := h
    refine ⟨_, PSs.nox (Evl.pss_cut (ps_set (i := 2) sc_choice_of.nd rfl (by first | exact Or.inl rfl | exact Or.inr rfl) (pe_callTy call_tuple_of (by rfl) (W.fre 83) (by decide +kernel) (pa_cons (pe_lc (own := [("one", 3), ("other", 4), ("same", 5)]) (g := gTup K 3 ((gCons (gName 3) (gCons (gName 4) (gCons (gName 5) gNil))))) (tt := tYes) (by rfl) sc_choice_of.nd (pi_tup (pe_ix ix_seq (pv 0) pe_int (fun _ _ => rfl))) (blkOk_by (own := [("one", 3), ("other", 4), ("same", 5)]) (N := N_choice_of) (sc := defScope s_choice_of) (by decide +kernel)) (fun _ _ _ _ _ => pg_tup (by rfl) (pgs_cons (pg_name (i := 3) sc_choice_of.nd rfl (Or.inl rfl)) (pgs_cons (pg_name (i := 4) sc_choice_of.nd rfl (Or.inl rfl)) (pgs_cons (pg_name (i := 5) sc_choice_of.nd rfl (Or.inl rfl)) pgs_nil)))) (fun _ _ _ _ _ => pts_nil) (fun _ _ _ _ _ => (pe_tup (pa_cons (pe_dget (hu_of hr) (pv 1) (pv 3) (fun _ _ => rfl)) (pa_cons (pe_dget (hu_of hr) (pv 1) (pv 4) (fun _ _ => rfl)) (pa_cons (pv 5) pa_nil)))))) pa_nil))) (Evl.pss_cut (ps_set (i := 6) sc_choice_of.nd rfl (by first | exact Or.inl rfl | exact Or.inr rfl) (pe_callTy call_tuple_of (by rfl) (W.fre 83) (by decide +kernel) (pa_cons (pe_lc (own := [("steps", 9)]) (g := gName 9) (tt := tYes) (te := SM.teTup K (tLc (iTup K _) _ tYes _ _)) (by rfl) sc_choice_of.nd (pi_tup (pe_slice sl_tup (pv 0) (po_some pe_int) po_none)) (blkOk_by (own := [("steps", 9)]) (N := N_choice_of) (sc := defScope s_choice_of) (by decide +kernel)) (fun _ _ _ _ _ => pg_name (i := 9) sc_choice_of.nd rfl (Or.inl rfl)) (fun _ _ _ _ _ => pts_nil) (fun _ _ _ _ _ => (pe_callTy call_tuple_of (by rfl) (W.fre 83) (by decide +kernel) (pa_cons (pe_lc (own := [("target", 7), ("source", 8)]) (g := gTup K 2 ((gCons (gName 7) (gCons (gName 8) gNil)))) (tt := tYes) (by rfl) sc_choice_of.nd (pi_tup (pv 9)) (SM.blkOk_nest (own := [("target", 7), ("source", 8)]) (N := N_choice_of) (by decide +kernel)) (fun _ _ _ _ _ => pg_tup (by rfl) (pgs_cons (pg_name (i := 7) sc_choice_of.nd rfl (Or.inl rfl)) (pgs_cons (pg_name (i := 8) sc_choice_of.nd rfl (Or.inl rfl)) pgs_nil))) (fun _ _ _ _ _ => pts_nil) (fun _ _ _ _ _ => (pe_tup (pa_cons (pe_dget (hu_of hr) (pv 1) (pv 7) (fun _ _ => rfl)) (pa_cons (pe_dget (hu_of hr) (pv 1) (pv 8) (fun _ _ => rfl)) pa_nil))))) pa_nil)))) pa_nil))) (pss_one (ps_ret (pe_tup (pa_cons (pv 2) (pa_cons (pv 6) pa_nil))))))), ?_⟩
    obtain ⟨a, xs, rfl, sq, dx⟩ := dv.items
    cases dx with
    | @cons x0 xr d0 dr h0 tr =>
      obtain ⟨ta, txs, rfl, st, dt⟩ := h0.items
      have lt : txs.length ≤ 100 := by
        rw [dt.length, List.length_map]
        exact Nat.le_trans gl.tests.1 (by decide)
      have lr : xr.length ≤ 2 ∧ 1 ≤ xr.length := by
        rw [tr.length]
        exact keepD_len l
      refine ⟨fun σ' H' => ∃ vt, σ' = [some (.ref a), some (.ref pd), some vt, none, none, none, none, none, none, none] ∧ Keep [] H H', ?_, ?_⟩
      · refine LaE.tupLc (K := K) (H0 := H) (xs := txs) lt (fun H1 k1 Q1 q1 => ?_) (fun i x H2 hx k2 Q1 q1 => ?_) H Keep.refl _ fun v H' k1 => ⟨v, rfl, k1⟩
        · exact ⟨_, rfl, .inr (.inl ⟨a, _, 0, _, rfl, rfl, seqT_keep k1 Soft.nil sq, at0 .., q1 ta H1 Keep.refl (seqT_keep k1 Soft.nil st)⟩)⟩
        · obtain ⟨d, hd, dd⟩ := dt.get hx
          rw [List.getElem?_map] at hd
          cases e : l.tests[i]? with
          | none =>
            rw [e] at hd
            cases hd
          | some t =>
            rw [e] at hd
            cases hd
            obtain ⟨p, us, rfl, sp, du⟩ := dd.items
            cases du with
            | @cons u0 r0 e0 f0 g0 du =>
              cases du with
              | @cons u1 r1 e1 f1 g1 du =>
                cases du with
                | @cons u2 r2 e2 f2 g2 du =>
                  cases du
                  cases g0
                  cases g1
                  obtain ⟨one, other, same⟩ := t
                  have gt := gl.tests.2 _ (List.mem_of_getElem? e)
                  obtain ⟨v1, hv1⟩ := has one (gt.1.elim .inl fun z => z.elim (fun z => .inr (.inl z)) fun z => .inr (.inr (.inr z)))
                  obtain ⟨v2, hv2⟩ := has other (gt.2.elim (fun z => .inr (.inl z)) fun z => z.elim .inl fun z => z.elim (fun z => .inr (.inr (.inl z))) fun z => .inr (.inr (.inr z)))
                  refine ⟨p, _, rfl, seqT_keep k2 Soft.nil sp, rfl, _, _, rfl, _, _, rfl, _, _, rfl, rfl, rfl, ?_⟩
                  exact LaE.tup (LaA.cons (LaE.dget (H0 := H) rfl rfl hp hv1) (LaA.cons (LaE.dget rfl rfl hp hv2) (LaA.cons (LaE.var rfl) LaA.nil))) rfl H2 k2 Q1 q1
      rintro σ' H1 ⟨vt, rfl, k1⟩
      refine ⟨fun σ' H' => ∃ vl, σ' = [some (.ref a), some (.ref pd), some vt, none, none, none, some vl, none, none, none] ∧ Keep [] H1 H', ?_, ?_⟩
      · refine LaE.tupLc (K := K) (H0 := H1) (xs := xr) (by omega) (fun H2 k2 Q1 q1 => ?_) (fun i x H2 hx k2 Q1 q1 => ?_) H1 Keep.refl _ fun v H' k1 => ⟨v, rfl, k1⟩
        · refine ⟨_, rfl, 1, rfl, a, _, rfl, seqT_keep (k1.trans k2) Soft.nil sq, ?_, fun q nq => ?_⟩
          · intro z
            have : HT.sIx (V.ref ta :: xr).length 0 (some 1) = 0 := z.1
            rw [show HT.sIx (V.ref ta :: xr).length 0 (some 1) = min 1 (xr.length + 1) from rfl] at this
            omega
          · rw [cut1]
            exact q1 q _ (Keep.new nq) (SqT.of upd_same)
        · obtain ⟨d, hd, dd⟩ := tr.get hx
          have hp1 := k1.to hp
          have hsteps : ∃ ss, d = stepsD ss ∧ ss.length ≤ 4 ∧ ∀ s ∈ ss, GoodS ns s := by
            have hm := List.mem_of_getElem? hd
            rcases List.mem_cons.mp hm with rfl | hm
            · exact ⟨l.steps, rfl, gl.steps.1, gl.steps.2⟩
            · cases hk : l.keep with
              | none =>
                rw [hk] at hm
                cases hm
              | some kk =>
                rw [hk] at hm
                rw [List.mem_singleton.mp hm]
                exact ⟨kk, rfl, gl.keep kk hk⟩
          obtain ⟨ss, rfl, s4, sg⟩ := hsteps
          obtain ⟨p, us, rfl, sp, du⟩ := dd.items
          refine ⟨rfl, ?_⟩
          refine LaE.tupLc (K := K) (H0 := H2) (xs := us) (by rw [du.length, List.length_map]; omega) (fun H3 k3 Q2 q2 => ⟨_, rfl, q2 p H3 Keep.refl (seqT_keep (k1.trans (k2.trans k3)) Soft.nil sp)⟩) (fun j y H3 hy k3 Q2 q2 => ?_) H2 Keep.refl Q1 q1
          obtain ⟨d, hd, de⟩ := du.get hy
          rw [List.getElem?_map] at hd
          cases e : ss[j]? with
          | none =>
            rw [e] at hd
            cases hd
          | some t =>
            rw [e] at hd
            cases hd
            obtain ⟨p2, us2, rfl, sp2, du2⟩ := de.items
            cases du2 with
            | @cons u0 r0 e0 f0 g0 du2 =>
              cases du2 with
              | @cons u1 r1 e1 f1 g1 du2 =>
                cases du2
                cases g0
                cases g1
                obtain ⟨tg, src⟩ := t
                have gt := sg _ (List.mem_of_getElem? e)
                obtain ⟨v1, hv1⟩ := has tg (gt.1.elim .inl fun z => .inr (.inr (.inr z)))
                obtain ⟨v2, hv2⟩ := has src (gt.2.elim (fun z => .inr (.inl z)) fun z => z.elim .inl fun z => z.elim (fun z => .inr (.inr (.inl z))) fun z => .inr (.inr (.inr z)))
                refine ⟨p2, _, rfl, seqT_keep (k1.trans (k2.trans k3)) Soft.nil sp2, rfl, _, _, rfl, _, _, rfl, rfl, rfl, ?_⟩
                exact LaE.tup (LaA.cons (LaE.dget (H0 := H1) rfl rfl hp1 hv1) (LaA.cons (LaE.dget rfl rfl hp1 hv2) LaA.nil)) rfl H3 (k2.trans k3) Q2 q2
      rintro σ' H2 ⟨vl, rfl, k2⟩
      exact ⟨_, rfl, _, rfl, (by show 2 ≤ sizeLine; decide), fun t ht => k _ _ (k1.trans (k2.trans (Keep.new ht)))⟩
end
end La
set_option Elab.async false
set_option linter.all false
set_option maxRecDepth 100000
set_option maxHeartbeats 4000000
namespace La
open PySem PySem.Spec PyProof.Rows L2 SM
/-- the words that a plan has positions for -/
def planWordsOf (ns : List Str) : List Str := ((["here"] : List Str) ++ ns) ++ (["new", "nothing"] : List Str)
def spPlanI (K : PySem.W.Frag) : Sp := fun vs H Q _ => ∃ (x dx r pl ln : Addr) (ns ps : List Str) (xs : List V) (ls : List Ln), vs = [.ref x, .ref r, .ref pl, .ref ln] ∧ H x = some (.ins (He.ga K "Plan") dx []) ∧ SqT K H r (ns.map V.str) ∧ ns.length ≤ 3 ∧
  SqT K H pl (ps.map V.str) ∧ ps.length ≤ 3 ∧ (∀ p ∈ ps, p ∈ ns) ∧ SqT K H ln xs ∧ DtAll K H xs (ls.map lnD) ∧ ls.length ≤ 8 ∧ (∀ l ∈ ls, GoodL ns l) ∧ ∀ H', Keep [x] H H' → Q .non H'
section
variable {P : Program} {w : World} {K : PySem.W.Frag} {mg : Str → Option Value} {base : Heap}
abbrev s_Plan___init__ : Stmt := (inClass (top 44) 0)
abbrev N_Plan___init__ : List Str := ["self", "registers", "places", "lines", "names", "positions", "position", "name", "line"]
abbrev P_Plan___init__ : List Str := ["self", "registers", "places", "lines"]
theorem sc_Plan___init__ : FnScope N_Plan___init__ P_Plan___init__ (defScope s_Plan___init__) := ⟨rfl, rfl, rfl, by decide +kernel, rfl, by decide +kernel, by decide +kernel⟩
theorem I_Plan (W : Cw fas fns K mg) (Dchoice_of : DefOk P w K mg base CX0 1 "choice_of" P_choice_of (spChoice K)) :
    ∃ fd, FnOk P w K mg base CX0 2 (He.ma K (He.ga K "Plan") "__init__") fd ["self", "registers", "places", "lines"] (spPlanI K) ∧ Binds K fd ["self", "registers", "places", "lines"] [] := by
  obtain ⟨fd, F⟩ := W.says.def_ 6 (d := d_Plan___init__) rfl
  refine ⟨fd, FunD.ok F sc_Plan___init__ (fun vs H Q E h => ?_) (fun cdv A outer s H vs Q E hr h => ?_), FunD.bindsN F (fun _ _ _ _ _ _ us hl => match us, hl with | [_, _, _, _], _ => rfl)⟩
  · obtain ⟨x, dx, r, pl, ln, ns, ps, xs, ls, rfl, _⟩ := h
    rfl
  · obtain ⟨x, dx, r, pl, ln, ns, ps, xs, ls, rfl, hx, hr', r3, hp, p3, pin, hl, dl, l8, gl, k⟩ := h
    refine ⟨_, PSs.nox (Evl.pss_cut (ps_set (i := 4) sc_Plan___init__.nd rfl (by first | exact Or.inl rfl | exact Or.inr rfl) (pe_op op_catA (pe_op op_catA (pe_tup (pa_cons pe_str pa_nil)) (pv 1)) (pe_tup (pa_cons pe_str (pa_cons pe_str pa_nil))))) (Evl.pss_cut (ps_set (i := 5) sc_Plan___init__.nd rfl (by first | exact Or.inl rfl | exact Or.inr rfl) (pe_dc (own := [("position", 6), ("name", 7)]) (g := gTup K 2 ((gCons (gName 6) (gCons (gName 7) gNil)))) (tt := tYes) (by rfl) sc_Plan___init__.nd (SM.pi_enumA (by rfl) (W.fre 71) (pa_cons (pv 4) pa_nil)) (blkOk_by (own := [("position", 6), ("name", 7)]) (N := N_Plan___init__) (sc := defScope s_Plan___init__) (by decide +kernel)) (fun _ _ _ _ _ => pg_tup (by rfl) (pgs_cons (pg_name (i := 6) sc_Plan___init__.nd rfl (Or.inl rfl)) (pgs_cons (pg_name (i := 7) sc_Plan___init__.nd rfl (Or.inl rfl)) pgs_nil))) (fun _ _ _ _ _ => pts_nil) (fun _ _ _ _ _ => (pv 7)) (fun _ _ _ _ _ => (pv 6)))) (Evl.pss_cut (ps_fld (pv 0) (pe_callTy call_tuple_of (by rfl) (W.fre 83) (by decide +kernel) (pa_cons (pe_lc (own := [("name", 7)]) (g := gName 7) (tt := tYes) (by rfl) sc_Plan___init__.nd (pi_tup (pe_op op_catA (pe_tup (pa_cons pe_str pa_nil)) (pv 2))) (blkOk_by (own := [("name", 7)]) (N := N_Plan___init__) (sc := defScope s_Plan___init__) (by decide +kernel)) (fun _ _ _ _ _ => pg_name (i := 7) sc_Plan___init__.nd rfl (Or.inl rfl)) (fun _ _ _ _ _ => pts_nil) (fun _ _ _ _ _ => (pe_dget (hu_of hr) (pv 5) (pv 7) (fun _ _ => rfl)))) pa_nil)) rfl) (Evl.pss_cut (ps_fld (pv 0) (pe_dget1 (hu_of hr) (pv 5) pe_str ⟨by rfl, by rfl, by rfl, by rfl⟩) rfl) (pss_one (ps_fld (pv 0) (pe_callTy call_tuple_of (by rfl) (W.fre 83) (by decide +kernel) (pa_cons (pe_lc (own := [("line", 8)]) (g := gName 8) (tt := tYes) (te := tCall _ [] E0 _) (by rfl) sc_Plan___init__.nd (pi_tup (pv 3)) (blkOk_by (own := [("line", 8)]) (N := N_Plan___init__) (sc := defScope s_Plan___init__) (by decide +kernel)) (fun _ _ _ _ _ => pg_name (i := 8) sc_Plan___init__.nd rfl (Or.inl rfl)) (fun _ _ _ _ _ => pts_nil) (fun _ _ _ _ _ => (SM.pe_callD Dchoice_of (hr.mono (by decide)) pass0 (pa_cons (pv 8) (pa_cons (pv 5) pa_nil))))) pa_nil)) rfl)))))), ?_⟩
    have CP : Cls K (He.ga K "Plan") := He.cls_ok (W.fact 92)
    have N1 : NoAttr K (He.ga K "Plan") "spots" := He.noat_ok (W.fact 93)
    have N2 : NoAttr K (He.ga K "Plan") "elder" := He.noat_ok (W.fact 94)
    have N3 : NoAttr K (He.ga K "Plan") "choices" := He.noat_ok (W.fact 95)
    -- names
    refine ⟨fun σ' H' => ∃ nm, σ' = [some (.ref x), some (.ref r), some (.ref pl), some (.ref ln), some (.ref nm), none, none, none, none] ∧ Keep [] H H' ∧ SqT K H' nm ((planWordsOf ns).map V.str), ?_, ?_⟩
    · refine ⟨(by show 1 ≤ sizeLine; decide), fun q1 n1 => ⟨_, rfl, q1, r, [.str "here"], ns.map V.str, rfl, rfl, SqT.of upd_same, seqT_keep (Keep.new (m := []) n1) Soft.nil hr', ?_, (fun e => by cases e), fun _ e => ?_, fun _ _ q2 n2 => ?_⟩⟩
      · rw [List.length_map]
        exact Nat.le_trans (show 1 + ns.length ≤ 100 by omega) (by decide)
      · have e0 : ns = [] := List.map_eq_nil_iff.mp e
        subst e0
        refine ⟨(by show 2 ≤ sizeLine; decide), fun q3 n3 => ⟨q1, q3, [.str "here"], _, rfl, rfl, SqT.of ((Keep.new (m := []) n3).to upd_same), SqT.of upd_same, (by show 1 + 2 ≤ sizeLine; decide), (fun e => by cases e), (fun _ e => by cases e), fun _ _ q4 n4 => ?_⟩⟩
        exact ⟨q4, rfl, (Keep.new n1).trans ((Keep.new n3).trans (Keep.new n4)), SqT.of upd_same⟩
      · refine ⟨(by show 2 ≤ sizeLine; decide), fun q3 n3 => ⟨q2, q3, _, _, rfl, rfl, SqT.of ((Keep.new (m := []) n3).to upd_same), SqT.of upd_same, ?_, (fun e => by cases e), (fun _ e => by cases e), fun _ _ q4 n4 => ?_⟩⟩
        · rw [List.length_append, List.length_map]
          exact Nat.le_trans (show 1 + ns.length + 2 ≤ 100 by omega) (by decide)
        · refine ⟨q4, rfl, (Keep.new n1).trans ((Keep.new n2).trans ((Keep.new n3).trans (Keep.new n4))), SqT.of ?_⟩
          rw [upd_same, planWordsOf, List.map_append, List.map_append]
          rfl
    rintro σ' H1 ⟨nm, rfl, k1, hn⟩
    have lenW : (planWordsOf ns).length ≤ 6 := by
      rw [planWordsOf, List.length_append, List.length_append]
      show 1 + ns.length + 2 ≤ 6
      omega
    -- positions
    refine ⟨fun σ' H' => ∃ d kvs, σ' = [some (.ref x), some (.ref r), some (.ref pl), some (.ref ln), some (.ref nm), some (.ref d), none, none, none] ∧ Keep [] H1 H' ∧ H' d = some (.dK kvs) ∧ HasAll kvs ns, ?_, ?_⟩
    · refine ⟨_, rfl, nm, _, rfl, .inr ⟨hn, fun D hD => ?_⟩⟩
      refine dc_enumT (xs := (planWordsOf ns).map V.str) (fun i H' => ∃ kvs, Keep [] H1 H' ∧ H' D = some (.dK kvs) ∧ kvs.length ≤ i ∧ ∀ j, j < i → ∀ z, (planWordsOf ns)[j]? = some z → ∃ v, valV kvs (.inr z) = some v) ⟨[], Keep.new hD, upd_same, Nat.le_refl _, fun j z => absurd z (Nat.not_lt_zero _)⟩ ?_ ?_ ?_
      · rintro i H' _ ⟨kvs, kk, _⟩
        exact seqT_keep kk Soft.nil hn
      · rintro i y T H' hy ⟨kvs, kk, eD, lk, fine⟩ hT
        rw [List.getElem?_map] at hy
        cases e : (planWordsOf ns)[i]? with
        | none =>
          rw [e] at hy
          cases hy
        | some z =>
          rw [e] at hy
          cases hy
          have hi : i < (planWordsOf ns).length := (List.getElem?_eq_some_iff.mp e).1
          have kT : Keep [] H' (upd H' T (.tup [.int (i : Int), .str z])) := Keep.new hT
          refine ⟨T, _, rfl, SqT.of upd_same, rfl, _, _, rfl, _, _, rfl, rfl, rfl, ?_⟩
          refine ⟨_, rfl, _, rfl, kvs, .inr z, rfl, kT.to eD, ?_, putK kvs (.inr z) (.int (i : Int)), Keep.own (kk.trans kT) hD, upd_same, ?_, fun j hj z' hz' => ?_⟩
          · exact Nat.lt_of_le_of_lt lk (Nat.lt_of_lt_of_le (show i < 7 by omega) (by decide))
          · exact Nat.le_trans (length_putK _ _ _) (by omega)
          · rw [valV_put]
            by_cases ez : (Sum.inr z' : Key) = .inr z
            · rw [if_pos ez]
              exact ⟨_, rfl⟩
            · rw [if_neg ez]
              rcases Nat.lt_or_ge j i with h | h
              · exact fine j h z' hz'
              · have ej : j = i := by omega
                rw [ej, e] at hz'
                cases hz'
                exact absurd rfl ez
      · rintro H' ⟨kvs, kk, eD, lk, fine⟩
        rw [List.length_map] at fine
        have all : ∀ z ∈ planWordsOf ns, ∃ v, valV kvs (.inr z) = some v := fun z hz => by
          obtain ⟨j, hj, e⟩ := List.getElem_of_mem hz
          exact fine j hj z (by simp [hj, e])
        refine ⟨D, kvs, rfl, kk, eD, fun z hz => all z ?_⟩
        unfold planWordsOf
        rcases hz with h | h | h | h
        · rw [h]; simp
        · rw [h]; simp
        · rw [h]; simp
        · exact List.mem_append_left _ (List.mem_append_right _ h)
    rintro σ' H2 ⟨d, kvs, rfl, k2, ed, has⟩
    have k12 := k1.trans k2
    have hx2 := k12.to hx
    -- spots
    let M : List (Str × V) → L2.St → Hp → Prop := fun fs σ' H' => σ' = [some (.ref x), some (.ref r), some (.ref pl), some (.ref ln), some (.ref nm), some (.ref d), none, none, none] ∧ Keep [x] H2 H' ∧ H' x = some (.ins (He.ga K "Plan") dx fs)
    refine ⟨fun σ' H' => ∃ fs, fs.length ≤ 1 ∧ M fs σ' H', ?_, ?_⟩
    · refine LaE.tupLc (K := K) (H0 := H2) (xs := ((["here"] : List Str) ++ ps).map V.str) (by rw [List.length_map, List.length_append]; show 1 + ps.length ≤ 100; omega) (fun H3 k3 Q1 q1 => ?_) (fun i y H3 hy k3 Q1 q1 => ?_) H2 Keep.refl _ fun v H3 k3 => ?_
      · refine ⟨(by show 1 ≤ sizeLine; decide), fun q1' n1 => ⟨_, rfl, q1', pl, [.str "here"], ps.map V.str, rfl, rfl, SqT.of upd_same, seqT_keep ((k12.trans k3).trans (Keep.new n1)) Soft.nil hp, ?_, (fun e => by cases e), fun _ e => ?_, fun _ _ q2 n2 => ?_⟩⟩
        · rw [List.length_map]
          exact Nat.le_trans (show 1 + ps.length ≤ 100 by omega) (by decide)
        · have e0 : ps = [] := List.map_eq_nil_iff.mp e
          subst e0
          exact q1 q1' _ (Keep.new n1) (SqT.of upd_same)
        · exact q1 q2 _ ((Keep.new n1).trans (Keep.new n2)) (SqT.of (by rw [upd_same, List.map_append]; rfl))
      · rw [List.getElem?_map] at hy
        cases e : ((["here"] : List Str) ++ ps)[i]? with
        | none =>
          rw [e] at hy
          cases hy
        | some z =>
          rw [e] at hy
          cases hy
          have hz : z = "here" ∨ z ∈ ps := List.mem_cons.mp (List.mem_of_getElem? e)
          obtain ⟨v, hv⟩ := has z (hz.elim .inl fun m => .inr (.inr (.inr (pin z m))))
          exact ⟨rfl, LaE.dget (H0 := H2) rfl rfl ed hv H3 k3 Q1 q1⟩
      · have hx3 := k3.to hx2
        exact ⟨_, rfl, x, _, dx, _, rfl, hx3, CP, N1, (by show 0 < 1000; decide), [("spots", v)], Nat.le_refl _, rfl, (Keep.of_nil k3).trans (Keep.at_ (by simp)), upd_same⟩
    rintro σ' H3 ⟨fs3, f3, rfl, k3, hx3⟩
    have dne : d ≠ x := fun z => by
      rw [z, hx2] at ed
      cases ed
    have ed3 := k3 _ _ (by simpa using dne) ed
    -- elder
    refine ⟨fun σ' H' => ∃ fs, fs.length ≤ 2 ∧ M fs σ' H', ?_, ?_⟩
    · refine ⟨_, rfl, d, rfl, .inl ⟨kvs, .inl ed3⟩, valV kvs (.inr "elder"), DGet.k (k := .inr "elder") ed3, _, rfl, x, _, dx, _, rfl, hx3, CP, N2, ?_, _, ?_, rfl, k3.trans (Keep.at_ (by simp)), upd_same⟩
      · exact Nat.lt_of_le_of_lt f3 (by decide)
      · exact Nat.le_trans (length_putF _ _ _) (by omega)
    rintro σ' H4 ⟨fs4, f4, rfl, k4, hx4⟩
    have ed4 := k4 _ _ (by simpa using dne) ed
    have sx := Soft.ins hx2
    have hl4 := seqT_keep k4 sx (seqT_keep k12 Soft.nil hl)
    have dl4 := (dl.k0 k12).keep k4 sx
    -- choices
    refine LaE.tupLc (K := K) (H0 := H4) (xs := xs) (by rw [dl.length, List.length_map]; omega) (fun H5 k5 Q1 q1 => ⟨_, rfl, q1 ln H5 Keep.refl (seqT_keep k5 Soft.nil hl4)⟩) (fun i y H5 hy k5 Q1 q1 => ?_) H4 Keep.refl _ fun v H5 k5 => ?_
    · obtain ⟨dd, hd, dy⟩ := dl4.get hy
      rw [List.getElem?_map] at hd
      cases e : ls[i]? with
      | none =>
        rw [e] at hd
        cases hd
      | some l =>
        rw [e] at hd
        cases hd
        exact ⟨rfl, _, rfl, _, rfl, y, d, kvs, ns, l, rfl, dy.k0 k5, gl l (List.mem_of_getElem? e), k5.to ed4, has, fun z H' kz => q1 z H' kz⟩
    · have hx5 := k5.to hx4
      exact ⟨_, rfl, x, _, dx, _, rfl, hx5, CP, N3, Nat.lt_of_le_of_lt f4 (by decide), k _ ((Keep.of_nil k12).trans (k4.trans ((Keep.of_nil k5).trans (Keep.at_ (by simp)))))⟩
end
end La
set_option Elab.async false
set_option linter.all false
set_option maxRecDepth 100000
set_option maxHeartbeats 4000000
namespace La
open PySem PySem.Spec PyProof.Rows L2 SM
mutual
/-- tuples and flat things alone -/
def onlyT : PyData → Bool
  | .list _ => false
  | .dict _ => false
  | .tuple ds => onlyTs ds
  | _ => true
def onlyTs : List PyData → Bool
  | [] => true
  | d :: ds => onlyT d && onlyTs ds
end
mutual
theorem Dq_dt {K : PySem.W.Frag} {H : Hp} : ∀ {v : V} {d : PyData}, Dq K H v d → onlyT d = true → Dt K H v d
  | _, _, .non, _ => .non
  | _, _, .bl b, _ => .bl b
  | _, _, .int i, _ => .int i
  | _, _, .str x, _ => .str x
  | _, _, .lst s t, h => by rw [onlyT] at h; cases h
  | _, _, .tup s t, h => .tup s (DqAll_dt t (by rw [onlyT] at h; exact h))
  | _, _, .dic s t, h => by rw [onlyT] at h; cases h
theorem DqAll_dt {K : PySem.W.Frag} {H : Hp} : ∀ {vs : List V} {ds : List PyData}, DqAll K H vs ds → onlyTs ds = true → DtAll K H vs ds
  | _, _, .nil, _ => .nil
  | _, _, .cons s t, h => by
    rw [onlyTs, Bool.and_eq_true] at h
    exact .cons (Dq_dt s h.1) (DqAll_dt t h.2)
end
theorem onlyTs_all {α : Type} {f : α → PyData} (h : ∀ a, onlyT (f a) = true) : ∀ l : List α, onlyTs (l.map f) = true
  | [] => by rw [List.map_nil, onlyTs]
  | a :: l => by rw [List.map_cons, onlyTs, h a, onlyTs_all h l]; rfl
theorem onlyT_step (s : Str × Str) : onlyT (stepD s) = true := by simp only [stepD, onlyT, onlyTs, Bool.and_self]
theorem onlyT_test (s : Str × Str × Bool) : onlyT (testD s) = true := by simp only [testD, onlyT, onlyTs, Bool.and_self]
theorem onlyT_line (l : Ln) : onlyT (lnD l) = true := by
  have a : onlyT (testsD l.tests) = true := by rw [testsD, onlyT]; exact onlyTs_all onlyT_test _
  have b : ∀ k, onlyT (stepsD k) = true := fun k => by rw [stepsD, onlyT]; exact onlyTs_all onlyT_step _
  rw [lnD, onlyT, onlyTs, onlyTs, a, b]
  cases l.keep with
  | none => rw [keepD, onlyTs]; rfl
  | some k => rw [keepD, onlyTs, onlyTs, b]; rfl
/-- what stands as a rule in H -/
def ruleFs (t l y : Addr) : List (Str × V) := [("_registers", .ref t), ("_lines", .ref l), ("plan", .ref y)]
def RuleIs (K : PySem.W.Frag) (H : Hp) (x : Addr) (ns : List Str) (ls : List Ln) : Prop := ∃ (dx t l y : Addr) (xs : List V), H x = some (.ins (He.ga K "Rule") dx (ruleFs t l y)) ∧ SqT K H t (ns.map V.str) ∧ SqT K H l xs ∧ DtAll K H xs (ls.map lnD)
theorem RuleIs.keep {K : PySem.W.Frag} {m : List Addr} {H H' : Hp} {x : Addr} {ns : List Str} {ls : List Ln} (h : RuleIs K H x ns ls) (k : Keep m H H') (n : x ∉ m) (s : Soft m H) : RuleIs K H' x ns ls := by
  obtain ⟨dx, t, l, y, xs, h1, h5, h6, h7⟩ := h
  exact ⟨dx, t, l, y, xs, k _ _ n h1, seqT_keep k s h5, seqT_keep k s h6, h7.keep k s⟩
theorem goodAll {ns : List Str} {ds : List PyData} (h : firstBad ns ds = none) : ∃ ls : List Ln, ds = ls.map lnD ∧ ∀ l ∈ ls, GoodL ns l := by
  refine all_good (p := isLine ns) (fun d => isLine_good) ?_
  rw [List.all_eq_true]
  intro d hd
  obtain ⟨j, hj, e⟩ := List.getElem_of_mem hd
  have z := List.find?_eq_none.mp h j (List.mem_range.mpr hj)
  have hdj : ds[j]? = some d := by simp [hj, e]
  rw [badAt, hdj] at z
  cases c : isLine ns d with
  | true => rfl
  | false =>
    exfalso
    apply z
    show (!isLine ns d || _) = true
    rw [c]
    rfl
def isPlace (s : Str) : Bool := (["beside", "elder"] : List Str).contains s
theorem places_any (z : Str) : ([PyData.str "beside", .str "elder"].any fun y => PyData.eqv y (.str z)) = isPlace z := by
  have := any_str z ["beside", "elder"]
  rw [show ([PyData.str "beside", .str "elder"]) = (["beside", "elder"] : List Str).map PyData.str from rfl, this]
  unfold isPlace
  exact Bool.eq_iff_iff.mpr ⟨fun h => List.contains_iff_mem.mpr (of_decide_eq_true h), fun h => decide_eq_true (List.contains_iff_mem.mp h)⟩
theorem placesShaped : SeqAt.shaped (.tuple [.str "beside", .str "elder"]) = true := by decide +kernel
/-- the getter of places -/
def spPlaces (K : PySem.W.Frag) (f : Str → Bool) : Sp := fun vs H Q _ => ∃ (x dx t : Addr) (fs : List (Str × V)) (ns : List Str), vs = [.ref x] ∧ H x = some (.ins (He.ga K "Rule") dx fs) ∧ fs.lookup ("_registers" : Str) = some (.ref t) ∧ SqT K H t (ns.map V.str) ∧ ns.length ≤ 3 ∧ OkN ns ∧
  ∀ p H', Keep [] H H' → SqT K H' p ((ns.filter f).map V.str) → Q (.ref p) H'
def spMakeRule (K : PySem.W.Frag) : Sp := fun vs H Q E => ∃ (x dx : Addr) (vr vl : V) (dr dl : PyData), vs = [.ref x, vr, vl] ∧ H x = some (.ins (He.ga K "Rule") dx []) ∧ Dq K H vr dr ∧ Dq K H vl dl ∧ (∀ e ∈ itemsOf dr, ∀ x, e = .str x → x.length ≤ 1000) ∧ (∀ d ∈ itemsOf dl, LayL d) ∧
  (isRegs dr = false → ∀ d H', Keep [] H H' → H d = none → H' d = some (.xd [("value", vr)]) → E (.ref (He.ga K "BadRegisters")) (some d) H') ∧
  (isRegs dr = true → linesIn dl = false → ∀ d H', Keep [] H H' → H d = none → H' d = some (.xd [("value", vl)]) → E (.ref (He.ga K "BadLines")) (some d) H') ∧
  (isRegs dr = true → linesIn dl = true → ∀ i, firstBad (strsOf (itemsOf dr)) (itemsOf dl) = some i → ∀ d H', Keep [] H H' → H d = none → H' d = some (.xd [("position", .int i)]) → E (.ref (He.ga K "BadLine")) (some d) H') ∧
  (isRegs dr = true → linesIn dl = true → firstBad (strsOf (itemsOf dr)) (itemsOf dl) = none → ∀ H' (ls : List Ln), itemsOf dl = ls.map lnD → (∀ l ∈ ls, GoodL (strsOf (itemsOf dr)) l) → Keep [x] H H' → RuleIs K H' x (strsOf (itemsOf dr)) ls → Q .non H')
section
variable {P : Program} {w : World} {K : PySem.W.Frag} {mg : Str → Option Value} {base : Heap}
abbrev s_Rule_places : Stmt := (inClass (top 49) 3)
abbrev N_Rule_places : List Str := ["self", "name"]
abbrev P_Rule_places : List Str := ["self"]
theorem sc_Rule_places : FnScope N_Rule_places P_Rule_places (defScope s_Rule_places) := ⟨rfl, rfl, rfl, by decide +kernel, rfl, by decide +kernel, by decide +kernel⟩
theorem I_places (PP : PropAt K q_Rule_places) (W : Cw fas fns K mg) (hP : ∀ H, SqT K H (He.ga K "PLACES") ((["beside", "elder"] : List Str).map V.str)) :
    ∃ fd, FnOk P w K mg base CX0 1 (pga K "Rule" "places") fd ["self"] (spPlaces K isPlace) ∧ Binds K fd ["self"] [] := by
  obtain ⟨fd, F⟩ := PP.fn
  refine ⟨fd, FunD.ok F sc_Rule_places (fun vs H Q E h => ?_) (fun cdv A outer s H vs Q E hr h => ?_), FunD.bindsN F (fun _ _ _ _ _ _ us hl => match us, hl with | [_], _ => rfl)⟩
  · obtain ⟨x, dx, t, fs, ns, rfl, _⟩ := h
    rfl
  · obtain ⟨x, dx, t, fs, ns, rfl, hx, ht, sq, n3, okn, k⟩ := h
    have CR : Cls K (He.ga K "Rule") := He.cls_ok (W.fact 87)
    have N1 : NoAttr K (He.ga K "Rule") "_registers" := He.noat_ok (W.fact 88)
    refine ⟨_, PSs.nox (pss_one (ps_ret (pe_callTy call_tuple_of (by rfl) (W.fre 83) (by decide +kernel) (pa_cons (pe_lc (own := [("name", 1)]) (g := gName 1) (tt := tTest (tOp (SM.rInA K) (tVar 1) (tC (.ref (He.ga K "PLACES"))))) (by rfl) sc_Rule_places.nd (pi_tup (pe_fld (pv 0) rfl)) (blkOk_by (own := [("name", 1)]) (N := N_Rule_places) (sc := defScope s_Rule_places) (by decide +kernel)) (fun _ _ _ _ _ => pg_name (i := 1) sc_Rule_places.nd rfl (Or.inl rfl)) (fun _ _ _ _ _ => pts_one (pt_cmpR (SM.op_inA (SM.units65 hr)) (pv 1) (pe_glob (v := .ref _) (by rfl) (W.glo 85) rfl) (by rfl))) (fun _ _ _ _ _ => (pv 1))) pa_nil)))), ?_⟩
    refine ⟨_, rfl, x, _, dx, fs, _, rfl, hx, CR, N1, ht, t, rfl, ⟨_, sq⟩, fun D hD => lcF (f := isPlace) (Nat.le_of_ble_eq_true rfl) sq (by omega) hD (fun H2 k2 z hz Q2 q2 => ?_) fun H' k' e' => ⟨D, _, rfl, .inl ⟨SqL.of e', fun p hp => k p _ (k'.trans (Keep.new hp)) (SqT.of upd_same)⟩⟩⟩
    refine ⟨_, rfl, .inr ⟨.str z, [.str "beside", .str "elder"], .str z, .tup (hP H2) (.cons (.str _) (.cons (.str _) .nil)), shaped_str (okn z hz), placesShaped, _, rfl, ?_⟩⟩
    rw [places_any]
    exact q2 H2 Keep.refl
abbrev s_Rule___init__ : Stmt := (inClass (top 49) 0)
abbrev N_Rule___init__ : List Str := ["self", "registers", "lines", "names"]
abbrev P_Rule___init__ : List Str := ["self", "registers", "lines"]
theorem sc_Rule___init__ : FnScope N_Rule___init__ P_Rule___init__ (defScope s_Rule___init__) := ⟨rfl, rfl, rfl, by decide +kernel, rfl, by decide +kernel, by decide +kernel⟩
theorem I_Rule (PP : PropAt K q_Rule_places) (hP : ∀ H, SqT K H (He.ga K "PLACES") ((["beside", "elder"] : List Str).map V.str)) (Dchoice_of : DefOk P w K mg base CX0 1 "choice_of" P_choice_of (spChoice K)) (W : Cw fas fns K mg) (R_BadRegisters : RaiseOk P w K mg base "BadRegisters" "value") (R_BadLines : RaiseOk P w K mg base "BadLines" "value") (Dare_registers : DefOk P w K mg base CX0 2 "are_registers" P_are_registers (spRegs K)) (Drefuse_bad_lines : DefOk P w K mg base (CX P w) 4 "refuse_bad_lines" P_refuse_bad_lines (spRefuse K)) :
    ∃ fd, FnOk P w K mg base (CX P w) 5 (He.ma K (He.ga K "Rule") "__init__") fd ["self", "registers", "lines"] (spMakeRule K) ∧ Binds K fd ["self", "registers", "lines"] [] := by
  obtain ⟨fd, F⟩ := W.says.def_ 8 (d := d_Rule___init__) rfl
  refine ⟨fd, FunD.ok F sc_Rule___init__ (fun vs H Q E h => ?_) (fun cdv A outer s H vs Q E hr h => ?_), FunD.bindsN F (fun _ _ _ _ _ _ us hl => match us, hl with | [_, _, _], _ => rfl)⟩
  · obtain ⟨x, dx, vr, vl, dr, dl, rfl, _⟩ := h
    rfl
  · obtain ⟨x, dx, vr, vl, dr, dl, rfl, hx, hr', hl, short, lay, e1, e2, e3, k⟩ := h
    have CR : Cls K (He.ga K "Rule") := He.cls_ok (W.fact 87)
    have MP : Mk K (He.ga K "Plan") (He.ma K (He.ga K "Plan") "__init__") := He.mkr_ok (W.fact 96)
    have gPl := W.glo 38
    obtain ⟨fdPl, FPl, bPl⟩ := I_Plan (P := P) (w := w) (base := base) W Dchoice_of
    obtain ⟨fdPp, FPp, bPp⟩ := I_places (P := P) (w := w) (base := base) PP W hP
    refine ⟨_, (Evl.pss_cut (ps_if (pt_not (pt_val (SM.pe_callD Dare_registers (hr.mono (by decide)) pass0 (pa_cons (pv 1) pa_nil)))) (pss_one (SM.ps_raiseErr R_BadRegisters rfl (hr.mono (by decide)) (takes_of rfl rfl rfl rfl) (pv 1))) pss_nil) (Evl.pss_cut (ps_if (PW.pt (pw_or (pt_not (pt_val (pe_callB call_isiT (by rfl) (W.fre 73) (by decide +kernel) (pa_cons (pv 2) (pa_cons (pe_tup (pa_cons (pe_bltn (v := .ty "list") (by rfl) (W.fre 75) (show bootBuiltins "list" = some (.type "list") by decide +kernel) rfl) (pa_cons (pe_bltn (v := .ty "tuple") (by rfl) (W.fre 83) (show bootBuiltins "tuple" = some (.type "tuple") by decide +kernel) rfl) pa_nil))) pa_nil))))) (pw_or1 (pt_not (pt_chain op_le op_le pe_int (pe_callB call_len_seq (by rfl) (W.fre 74) (by decide +kernel) (pa_cons (pv 2) pa_nil)) pe_int))))) (pss_one (SM.ps_raiseErr R_BadLines rfl (hr.mono (by decide)) (takes_of rfl rfl rfl rfl) (pv 2))) pss_nil) (Evl.pss_cut (ps_set (i := 3) sc_Rule___init__.nd rfl (by first | exact Or.inl rfl | exact Or.inr rfl) (pe_callTy call_tuple_of (by rfl) (W.fre 83) (by decide +kernel) (pa_cons (pv 1) pa_nil))) (Evl.pss_cut (ps_expr (SM.pe_callD Drefuse_bad_lines (hr.mono (by decide)) (passes_call (takes_of rfl rfl rfl rfl) (fun _ _ _ _ h => h)) (pa_cons (pv 2) (pa_cons (pv 3) pa_nil)))) (Evl.pss_cut (ps_fld (pv 0) (pv 3) rfl) (Evl.pss_cut (ps_fld (pv 0) (pe_callTy call_tuple_of (by rfl) (W.fre 83) (by decide +kernel) (pa_cons (pv 2) pa_nil)) rfl) (pss_one (ps_fld (pv 0) (pe_make MP FPl (hr.mono (by decide)) (by rfl) gPl bPl .nil pass0 (pa_cons (pv 3) (pa_cons (pe_prop (pv 0) CR PP.of FPp (hr.mono (by decide)) bPp .nil pass0 rfl) (pa_cons (pe_fld (pv 0) rfl) pa_nil)))) rfl)))))))), ?_⟩
    have N1 : NoAttr K (He.ga K "Rule") "_registers" := He.noat_ok (W.fact 88)
    have N2 : NoAttr K (He.ga K "Rule") "_lines" := He.noat_ok (W.fact 89)
    have N3 : NoAttr K (He.ga K "Rule") "plan" := He.noat_ok (W.fact 90)
    refine ⟨fun σ' H' => σ' = [some (.ref x), some vr, some vl, none] ∧ Keep [] H H' ∧ isRegs dr = true, ?_, ?_⟩
    · refine ⟨_, rfl, vr, dr, rfl, hr', short, fun H1 k1 => ⟨_, rfl, ?_⟩⟩
      cases c : isRegs dr with
      | true => exact iteF ⟨rfl, k1, rfl⟩
      | false => exact iteT ⟨_, rfl, raise_out (W := E) R_BadRegisters.err R_BadRegisters.no fun d hd => e1 c d _ (k1.trans (Keep.new hd)) (k1.free (by simp) hd) upd_same⟩
    rintro σ' H1 ⟨rfl, k1, cr⟩
    refine ⟨fun σ' H' => σ' = [some (.ref x), some vr, some vl, none] ∧ Keep [] H H' ∧ linesIn dl = true, ?_, ?_⟩
    · refine ⟨_, rfl, (by show 2 ≤ sizeLine; decide), fun q hq => ?_⟩
      have kq : Keep [] H1 (upd H1 q (.tup [.ty "list", .ty "tuple"])) := Keep.new hq
      have kk := k1.trans kq
      have hv' := hl.mono kk.same
      refine ⟨vl, q, [.ty "list", .ty "tuple"], _, [.type "list", .type "tuple"], isSeq dl, rfl, upd_same, .cons (.ty _) (.cons (.ty _) .nil), hv'.ty, kit_seq dl, _, rfl, ?_⟩
      have out : linesIn dl = false → ∀ d, (upd H1 q (.tup [.ty "list", .ty "tuple"])) d = none → E (.ref (He.ga K "BadLines")) (some d) (upd (upd H1 q (.tup [.ty "list", .ty "tuple"])) d (.xd [("value", vl)])) :=
        fun c d hd => e2 cr c d _ (kk.trans (Keep.new hd)) (kk.free (by simp) hd) upd_same
      have seq : ∀ (ds : List PyData) (n : Nat), n = ds.length → linesIn dl = (decide (1 ≤ ds.length) && decide (ds.length ≤ 8)) → (decide ((1 : Int) ≤ (n : Int)) && decide ((n : Int) ≤ 8)) = linesIn dl := by
        intro ds n e1 e2
        subst e1
        rw [e2]
        congr 1
        · exact decide_eq_decide.mpr (by omega)
        · exact decide_eq_decide.mpr (by omega)
      cases hv' with
      | @lst a xs ds s t =>
        have z := seq ds xs.length t.length rfl
        refine iteF ⟨_, rfl, a, xs, rfl, .inl s, _, _, rfl, rfl, _, rfl, ite2 (fun f => ?_) (fun f => ?_)⟩
        · have f' : decide ((1 : Int) ≤ (xs.length : Int)) = true := f
          rw [f', Bool.true_and] at z
          refine ⟨_, _, rfl, rfl, _, rfl, ?_⟩
          rw [z]
          cases c : linesIn _ with
          | true =>
            exact iteF ⟨rfl, kk, rfl⟩
          | false =>
            exact iteT ⟨_, rfl, raise_out (W := E) R_BadLines.err R_BadLines.no fun d hd => out c d hd⟩
        · have f' : decide ((1 : Int) ≤ (xs.length : Int)) = false := Bool.eq_false_iff.mpr f
          rw [f', Bool.false_and] at z
          exact ⟨_, rfl, iteT ⟨_, rfl, raise_out (W := E) R_BadLines.err R_BadLines.no fun d hd => out z.symm d hd⟩⟩
      | @tup a xs ds s t =>
        have z := seq ds xs.length t.length rfl
        refine iteF ⟨_, rfl, a, xs, rfl, .inr s, _, _, rfl, rfl, _, rfl, ite2 (fun f => ?_) (fun f => ?_)⟩
        · have f' : decide ((1 : Int) ≤ (xs.length : Int)) = true := f
          rw [f', Bool.true_and] at z
          refine ⟨_, _, rfl, rfl, _, rfl, ?_⟩
          rw [z]
          cases c : linesIn _ with
          | true =>
            exact iteF ⟨rfl, kk, rfl⟩
          | false =>
            exact iteT ⟨_, rfl, raise_out (W := E) R_BadLines.err R_BadLines.no fun d hd => out c d hd⟩
        · have f' : decide ((1 : Int) ≤ (xs.length : Int)) = false := Bool.eq_false_iff.mpr f
          rw [f', Bool.false_and] at z
          exact ⟨_, rfl, iteT ⟨_, rfl, raise_out (W := E) R_BadLines.err R_BadLines.no fun d hd => out z.symm d hd⟩⟩
      | non => exact iteT ⟨_, rfl, raise_out (W := E) R_BadLines.err R_BadLines.no fun d hd => out rfl d hd⟩
      | bl b => exact iteT ⟨_, rfl, raise_out (W := E) R_BadLines.err R_BadLines.no fun d hd => out rfl d hd⟩
      | int b => exact iteT ⟨_, rfl, raise_out (W := E) R_BadLines.err R_BadLines.no fun d hd => out rfl d hd⟩
      | str b => exact iteT ⟨_, rfl, raise_out (W := E) R_BadLines.err R_BadLines.no fun d hd => out rfl d hd⟩
      | dic s t => exact iteT ⟨_, rfl, raise_out (W := E) R_BadLines.err R_BadLines.no fun d hd => out rfl d hd⟩
    rintro σ' H2 ⟨rfl, k2, cl⟩
    obtain ⟨ra, rfl, hrs, r3, rok⟩ := regs_seq cr (hr'.mono k2.same)
    refine ⟨fun σ' H' => ∃ t, σ' = [some (.ref x), some (.ref ra), some vl, some (.ref t)] ∧ Keep [] H H' ∧ SqT K H' t ((strsOf (itemsOf dr)).map V.str), ?_, ?_⟩
    · rcases hrs with hrs | hrs
      · exact ⟨_, rfl, ra, _, rfl, .inl ⟨hrs, fun t ht => ⟨t, rfl, k2.trans (Keep.new ht), SqT.of upd_same⟩⟩⟩
      · exact ⟨_, rfl, ra, _, rfl, .inr ⟨hrs, ra, rfl, k2, hrs⟩⟩
    rintro σ' H3 ⟨t, rfl, k3, ht⟩
    obtain ⟨la, lxs, rfl, hls, hd, l8⟩ := lines_seq cl (hl.mono k3.same)
    refine ⟨fun σ' H' => σ' = [some (.ref x), some (.ref ra), some (.ref la), some (.ref t)] ∧ Keep [] H3 H' ∧ firstBad (strsOf (itemsOf dr)) (itemsOf dl) = none, ?_, ?_⟩
    · refine ⟨_, rfl, _, rfl, la, t, lxs, itemsOf dl, strsOf (itemsOf dr), rfl, hls, hd, lay, by omega, ⟨ht, r3, rok⟩, fun h H4 k4 => ⟨rfl, k4, h⟩, fun i h d H4 k4 hd4 hx4 => e3 cr cl i h d H4 (k3.trans k4) (k3.free (by simp) hd4) hx4⟩
    rintro σ' H4 ⟨rfl, k4, fb⟩
    have k34 := k3.trans k4
    have hx4 := k34.to hx
    refine ⟨fun σ' H' => σ' = [some (.ref x), some (.ref ra), some (.ref la), some (.ref t)] ∧ H' = upd H4 x (.ins (He.ga K "Rule") dx (putF "_registers" (.ref t) [])), ⟨_, rfl, _, rfl, x, _, dx, _, rfl, hx4, CR, N1, by simp, rfl, rfl⟩, ?_⟩
    rintro σ' H5 ⟨rfl, rfl⟩
    have kx : Keep [x] H4 (upd H4 x (.ins (He.ga K "Rule") dx (putF "_registers" (.ref t) []))) := Keep.at_ (by simp)
    have sx := Soft.ins hx4
    obtain ⟨ls, els, gls⟩ := goodAll fb
    have dt4 : DtAll K H4 lxs (ls.map lnD) := by
      have := DqAll_dt (hd.mono k4.same) (by rw [els]; exact onlyTs_all onlyT_line ls)
      rw [els] at this
      exact this
    have ht4 := seqT_keep k4 Soft.nil ht
    -- self._lines
    refine ⟨fun σ' H' => ∃ l, σ' = [some (.ref x), some (.ref ra), some (.ref la), some (.ref t)] ∧ Keep [x] H4 H' ∧ H' x = some (.ins (He.ga K "Rule") dx (putF "_lines" (.ref l) (putF "_registers" (.ref t) []))) ∧ SqT K H' l lxs, ?_, ?_⟩
    · have few : (putF "_registers" (V.ref t) ([] : List (Str × V))).length < 1000 := by
        show 1 < 1000
        decide
      rcases hls with hls | hls
      · refine ⟨_, rfl, la, lxs, rfl, .inl ⟨sqL_ins kx hx4 (k4.same.seq hls), fun l hl' => ?_⟩⟩
        have kn : Keep [] (upd H4 x (.ins (He.ga K "Rule") dx (putF "_registers" (.ref t) []))) (upd (upd H4 x (.ins (He.ga K "Rule") dx (putF "_registers" (.ref t) []))) l (.tup lxs)) := Keep.new hl'
        have hxn := kn.to (upd_same (H := H4) (a := x))
        exact ⟨_, rfl, x, _, dx, _, rfl, hxn, CR, N2, few, l, rfl, kx.trans ((Keep.of_nil kn).trans (Keep.at_ (by simp))), upd_same, seqT_keep (Keep.at_ (m := [x]) (by simp)) (Soft.ins hxn) (SqT.of upd_same)⟩
      · exact ⟨_, rfl, la, lxs, rfl, .inr ⟨seqT_keep kx sx (seqT_keep k4 Soft.nil hls), _, rfl, x, _, dx, _, rfl, upd_same, CR, N2, few, la, rfl, kx.trans (Keep.at_ (by simp)), upd_same, seqT_keep (Keep.at_ (m := [x]) (by simp)) (Soft.ins upd_same) (seqT_keep kx sx (seqT_keep k4 Soft.nil hls))⟩⟩
    rintro σ' H6 ⟨l, rfl, k6, hx6, hl6⟩
    have ht6 := seqT_keep k6 sx ht4
    have dt6 := dt4.keep k6 sx
    -- self.plan
    have fl : (putF "_lines" (V.ref l) (putF "_registers" (V.ref t) ([] : List (Str × V)))) = ([(("_registers" : Str), V.ref t), (("_lines" : Str), V.ref l)] : List (Str × V)) := rfl
    rw [fl] at hx6
    refine ⟨_, rfl, _, rfl, x, dx, _, rfl, hx6, x, dx, t, _, _, rfl, hx6, rfl, ht6, r3, rok, fun pl H7 k7 hpl => ?_⟩
    have hx7 := k7.to hx6
    refine ⟨_, rfl, x, _, dx, _, _, rfl, hx7, CR, N2, rfl, fun y dy ny ndy ne => ?_⟩
    have ka : Keep [] H7 (upd H7 dy (.own y)) := Keep.new ndy
    have kb : Keep [] (upd H7 dy (.own y)) (upd (upd H7 dy (.own y)) y (.ins (He.ga K "Plan") dy [])) := Keep.new (by rw [upd_ne ne.symm]; exact ny)
    have kab := ka.trans kb
    have hx8 := kab.to hx7
    refine ⟨y, dy, t, pl, l, _, _, lxs, ls, rfl, upd_same, seqT_keep (k7.trans kab) Soft.nil ht6, r3, seqT_keep kab Soft.nil hpl, Nat.le_trans (List.length_filter_le _ _) r3, fun p hp => (List.mem_filter.mp hp).1, seqT_keep (k7.trans kab) Soft.nil hl6, dt6.k0 (k7.trans kab), by rw [els, List.length_map] at l8; exact l8, gls, fun H9 k9 => ⟨rfl, ?_⟩⟩
    have nyx : x ≠ y := fun z => by
      rw [z] at hx7
      rw [ny] at hx7
      cases hx7
    have hx9 := k9 _ _ (by simpa using nyx) hx8
    have sy : Soft [y] (upd (upd H7 dy (.own y)) y (.ins (He.ga K "Plan") dy [])) := Soft.ins upd_same
    have k69 : ∀ {z xs}, SqT K H6 z xs → SqT K H9 z xs := fun h => seqT_keep k9 sy (seqT_keep (k7.trans kab) Soft.nil h)
    have k6y : Keep [] H6 H9 := (k7.trans kab).offNew k9 (k7.free (by simp) ny)
    refine ⟨_, rfl, x, _, dx, _, rfl, hx9, CR, N3, (by show 2 < 1000; decide), ?_⟩
    have kz : Keep [x] H9 (upd H9 x (.ins (He.ga K "Rule") dx (putF "plan" (V.ref y) ([(("_registers" : Str), V.ref t), (("_lines" : Str), V.ref l)] : List (Str × V))))) := Keep.at_ (by simp)
    have sz := Soft.ins hx9
    refine k cr cl fb _ ls els gls ((Keep.of_nil k34).trans (k6.trans ((Keep.of_nil k6y).trans kz))) ⟨dx, t, l, y, lxs, upd_same, seqT_keep kz sz (k69 ht6), seqT_keep kz sz (k69 hl6), (dt6.k0 k6y).keep kz sz⟩
end
end La
set_option Elab.async false
set_option linter.all false
set_option maxRecDepth 100000
set_option maxHeartbeats 4000000
namespace La
open PySem PySem.Spec PyProof.Rows L2 SM
theorem rd_call2 {sp : Sp} {E : XK} {i j : Nat} {v w : V} {σ : L2.St} {H : Hp} {Q : VK} (hi : σ[i]? = some (some v)) (hj : σ[j]? = some (some w)) (h : sp [v, w] H Q E) : tCall sp [] E (tCons (tVar i) (tCons (tVar j) tNil)) σ H Q := ⟨v, hi, w, hj, h⟩
theorem rd_par {i j : Nat} {ta : TA} {D : Ends} {σ : L2.St} {H : Hp} (h : ta σ H fun vs H1 => ∃ v w, vs = [v, w] ∧ D.nx ((σ.set i (some v)).set j (some w)) H1) : tPar i j ta D σ H := h
theorem rd_if {c : TT} {a b : TS} {D : Ends} {σ : L2.St} {H : Hp} (h : c σ H fun k H1 => if k = true then a D σ H1 else b D σ H1) : tIfS c a b D σ H := h
theorem rd_ife {c : TT} {a b : TE} {σ : L2.St} {H : Hp} {Q : VK} (h : c σ H fun k H1 => if k = true then a σ H1 Q else b σ H1 Q) : tIf c a b σ H Q := h
theorem rd_and {t u : TT} {σ : L2.St} {H : Hp} {Q : Bool → Hp → Prop} (h : t σ H fun c H1 => if c = true then u σ H1 Q else Q false H1) : tAnd t u σ H Q := h
theorem rd_test {te : TE} {σ : L2.St} {H : Hp} {Q : Bool → Hp → Prop} (h : te σ H fun x H1 => ∃ k, x = .bl k ∧ Q k H1) : tTest te σ H Q := h
theorem rd_var {i : Nat} {v : V} {σ : L2.St} {H : Hp} {Q : VK} (hi : σ[i]? = some (some v)) (h : Q v H) : tVar i σ H Q := ⟨v, hi, h⟩
theorem rd_cons {te : TE} {ta : TA} {σ : L2.St} {H : Hp} {Q : List V → Hp → Prop} (h : te σ H fun v H1 => ta σ H1 fun vs H2 => Q (v :: vs) H2) : tCons te ta σ H Q := h
theorem rd_asg {te : TE} {g : TG} {D : Ends} {σ : L2.St} {H : Hp} (h : te σ H fun v H1 => g v σ H1 D.nx) : tAsg te g D σ H := h
theorem rd_ret {te : TE} {D : Ends} {σ : L2.St} {H : Hp} (h : te σ H D.rt) : tRet te D σ H := h
theorem rd_op {r : R2} {ta tb : TE} {σ : L2.St} {H : Hp} {Q : VK} (h : ta σ H fun x H1 => tb σ H1 fun y H2 => r x y H2 Q) : tOp r ta tb σ H Q := h
theorem rd_cb1 {r : List V → Hp → VK → Prop} {te : TE} {σ : L2.St} {H : Hp} {Q : VK} (h : te σ H fun v H1 => r [v] H1 Q) : tCB r (tCons te tNil) σ H Q := h
theorem rd_cb2 {r : List V → Hp → VK → Prop} {ta tb : TE} {σ : L2.St} {H : Hp} {Q : VK} (h : ta σ H fun v H1 => tb σ H1 fun w H2 => r [v, w] H2 Q) : tCB r (tCons ta (tCons tb tNil)) σ H Q := h
/-- a test of a number at hand, any outcome -/
theorem rd_num {i : Nat} {n c : Int} {σ : L2.St} {H : Hp} {Q : Bool → Hp → Prop} (hi : σ[i]? = some (some (.int n))) (h : ∀ b, Q b H) : tTest (tOp rEq (tVar i) (tC (.int c))) σ H Q := ⟨_, hi, rfl, _, rfl, h _⟩
theorem rd_ifK {i : Nat} {n c : Int} {u : TT} {A B : TS} {D : Ends} {σ : L2.St} {H : Hp} (hi : σ[i]? = some (some (.int n))) (h : u σ H fun k H1 => if k = true then A D σ H1 else B D σ H1) (h' : B D σ H) : tIfS (tAnd (tTest (tOp rEq (tVar i) (tC (.int c)))) u) A B D σ H :=
  rd_if (rd_and (rd_num hi fun b => by
    cases b with
    | true => exact h
    | false => exact h'))
theorem rd_ifK1 {i : Nat} {n c : Int} {A B : TS} {D : Ends} {σ : L2.St} {H : Hp} (hi : σ[i]? = some (some (.int n))) (h : A D σ H) (h' : B D σ H) : tIfS (tTest (tOp rEq (tVar i) (tC (.int c)))) A B D σ H :=
  rd_if (rd_num hi fun b => by
    cases b with
    | true => exact h
    | false => exact h')
/-- names and lines of a rule that may be made -/
structure VRule (ns : List Str) (ls : List Ln) : Prop where
  regs : regsD (ns.map .str) = true
  few : 1 ≤ ls.length ∧ ls.length ≤ 8
  good : ∀ z ∈ ls, GoodL ns z
  last : ∀ z, ls[ls.length - 1]? = some z → z.tests = []
theorem VRule.okN {ns : List Str} {ls : List Ln} (h : VRule ns ls) : ns.length ≤ 3 ∧ OkN ns ∧ ∀ s ∈ ns, s.length ≤ 8 := by
  have hd := h.regs
  rw [regsD, Bool.and_eq_true, Bool.and_eq_true, decide_eq_true_eq, List.length_map] at hd
  have w : ∀ s ∈ ns, isWord (.str s) = true := fun s hs => by
    have := List.all_eq_true.mp hd.2.1 _ (List.mem_map_of_mem hs)
    rw [isName, Bool.and_eq_true] at this
    exact this.1
  refine ⟨hd.1, fun s hs => word_ok (w s hs), fun s hs => ?_⟩
  have := w s hs
  rw [isWord, Bool.and_eq_true, Bool.and_eq_true, decide_eq_true_eq, decide_eq_true_eq] at this
  exact this.1.2
theorem strsOf_map : ∀ ns : List Str, strsOf (ns.map .str) = ns
  | [] => rfl
  | n :: ns => by rw [List.map_cons, strsOf, strsOf_map ns]
theorem memS_of {ns : List Str} {s : Str} (h : s ∈ ns) : memS ns (.str s) = true := by
  exact (any_str s ns).trans (decide_eq_true h)
theorem good_isStep {ns : List Str} {s : Str × Str} (h : GoodS ns s) : isStep ns (stepD s) = true := by
  show (memS ("here" :: ns) (.str s.1) && (memS ("here" :: ns) (.str s.2) || memS ["new", "nothing"] (.str s.2))) = true
  rw [Bool.and_eq_true, Bool.or_eq_true]
  refine ⟨memS_of (by rcases h.1 with e | e; · rw [e]; exact List.mem_cons_self
                      · exact List.mem_cons_of_mem _ e), ?_⟩
  rcases h.2 with e | e | e | e
  · exact .inr (memS_of (by rw [e]; exact List.mem_cons_self))
  · exact .inl (memS_of (by rw [e]; exact List.mem_cons_self))
  · exact .inr (memS_of (by rw [e]; exact List.mem_cons_of_mem _ List.mem_cons_self))
  · exact .inl (memS_of (List.mem_cons_of_mem _ e))
theorem good_isTest {ns : List Str} {s : Str × Str × Bool} (h : GoodT ns s) : isTest ns (testD s) = true := by
  show (memS ("here" :: "new" :: ns) (.str s.1) && ((memS ("here" :: "new" :: ns) (.str s.2.1) || PyData.eqv (.str s.2.1) (.str "nothing")) && true)) = true
  rw [Bool.and_true, Bool.and_eq_true, Bool.or_eq_true]
  refine ⟨memS_of (by rcases h.1 with e | e | e; · rw [e]; exact List.mem_cons_self
                      · rw [e]; exact List.mem_cons_of_mem _ List.mem_cons_self
                      · exact List.mem_cons_of_mem _ (List.mem_cons_of_mem _ e)), ?_⟩
  rcases h.2 with e | e | e | e
  · exact .inl (memS_of (by rw [e]; exact List.mem_cons_of_mem _ List.mem_cons_self))
  · exact .inl (memS_of (by rw [e]; exact List.mem_cons_self))
  · refine .inr ?_
    rw [e, PyData.eqv]
    exact beq_self_eq_true _
  · exact .inl (memS_of (List.mem_cons_of_mem _ (List.mem_cons_of_mem _ e)))
theorem good_isSteps {ns : List Str} {l : List (Str × Str)} (h : l.length ≤ 4 ∧ ∀ s ∈ l, GoodS ns s) : isSteps ns (stepsD l) = true := by
  show (decide ((l.map stepD).length ≤ 4) && (l.map stepD).all (isStep ns)) = true
  rw [Bool.and_eq_true, decide_eq_true_eq, List.length_map, List.all_eq_true]
  refine ⟨h.1, fun d z => ?_⟩
  obtain ⟨s, hs, rfl⟩ := List.mem_map.mp z
  exact good_isStep (h.2 s hs)
theorem good_isTests {ns : List Str} {l : List (Str × Str × Bool)} (h : l.length ≤ 4 ∧ ∀ s ∈ l, GoodT ns s) : isTests ns (testsD l) = true := by
  show (decide ((l.map testD).length ≤ 4) && (l.map testD).all (isTest ns)) = true
  rw [Bool.and_eq_true, decide_eq_true_eq, List.length_map, List.all_eq_true]
  refine ⟨h.1, fun d z => ?_⟩
  obtain ⟨s, hs, rfl⟩ := List.mem_map.mp z
  exact good_isTest (h.2 s hs)
theorem good_isLine {ns : List Str} {l : Ln} (h : GoodL ns l) : isLine ns (lnD l) = true := by
  obtain ⟨t, s, k⟩ := l
  have ht := good_isTests h.tests
  have hs := good_isSteps h.steps
  cases k with
  | none =>
    show ((decide ([stepsD s].length = 1) || decide ([stepsD s].length = 2)) && (isTests ns (testsD t) && [stepsD s].all (isSteps ns))) = true
    rw [show isTests ns (testsD t) = true from ht]
    simp only [List.all_cons, List.all_nil, show isSteps ns (stepsD s) = true from hs]
    rfl
  | some k =>
    have hk := good_isSteps (h.keep k rfl)
    show ((decide ([stepsD s, stepsD k].length = 1) || decide ([stepsD s, stepsD k].length = 2)) && (isTests ns (testsD t) && [stepsD s, stepsD k].all (isSteps ns))) = true
    rw [show isTests ns (testsD t) = true from ht]
    simp only [List.all_cons, List.all_nil, show isSteps ns (stepsD s) = true from hs, hk]
    rfl
theorem VRule.noBad {ns : List Str} {ls : List Ln} (h : VRule ns ls) : firstBad ns (ls.map lnD) = none := by
  refine find_none_to _ fun j hj => ?_
  rw [badAt, List.getElem?_map]
  cases e : ls[j]? with
  | none => rfl
  | some z =>
    show (!isLine ns (lnD z) || (decide (j + 1 = (ls.map lnD).length) && notNil (lnD z))) = false
    rw [good_isLine (h.good z (List.mem_of_getElem? e)), Bool.not_true, Bool.false_or, Bool.and_eq_false_iff, List.length_map]
    by_cases q : j + 1 = ls.length
    · refine .inr ?_
      have ez := h.last z (by rw [← e]; congr 1; omega)
      show (!PyData.eqv (testsD z.tests) (.tuple [])) = false
      rw [ez]
      show (!PyData.eqv (.tuple []) (.tuple [])) = false
      rw [eqv_tnil]
      rfl
    · exact .inl (decide_eq_false q)
theorem goodL_more {ns ms : List Str} {l : Ln} (h : GoodL ns l) (k : ∀ s ∈ ns, s ∈ ms) : GoodL ms l :=
  ⟨⟨h.tests.1, fun t z => ⟨(h.tests.2 t z).1.imp id (Or.imp id (k _)), (h.tests.2 t z).2.imp id (Or.imp id (Or.imp id (k _)))⟩⟩,
   ⟨h.steps.1, fun t z => ⟨(h.steps.2 t z).1.imp id (k _), (h.steps.2 t z).2.imp id (Or.imp id (Or.imp id (k _)))⟩⟩,
   fun q z => ⟨(h.keep q z).1, fun t z' => ⟨((h.keep q z).2 t z').1.imp id (k _), ((h.keep q z).2 t z').2.imp id (Or.imp id (Or.imp id (k _)))⟩⟩⟩
theorem VRule.lastAt {ns : List Str} {ls : List Ln} {j : Nat} {z : Ln} (h : VRule ns ls) (e : ls[j]? = some z) (l : j + 1 = ls.length) : z.tests = [] :=
  h.last z (by rw [← e]; congr 1; omega)
/-- one line changed -/
theorem VRule.put {ns : List Str} {ls : List Ln} {j : Nat} {z z' : Ln} (h : VRule ns ls) (e : ls[j]? = some z) (g : GoodL ns z') (t : z.tests = [] → z'.tests = []) : VRule ns (ls.set j z') := by
  refine ⟨h.regs, by rw [List.length_set]; exact h.few, fun y hy => ?_, fun y hy => ?_⟩
  · rcases List.mem_or_eq_of_mem_set hy with q | q
    · exact h.good y q
    · rw [q]; exact g
  · rw [List.length_set, List.getElem?_set] at hy
    split at hy
    · rename_i q
      split at hy
      · cases hy
        exact t (h.last z (by rw [← q]; exact e))
      · cases hy
    · exact h.last y hy
/-- two lines changed about -/
theorem VRule.swap {ns : List Str} {ls : List Ln} {j : Nat} {z z2 : Ln} (h : VRule ns ls) (e : ls[j]? = some z) (e2 : ls[j + 1]? = some z2) (hj : j + 2 < ls.length) : VRule ns (ls.take j ++ [z2, z] ++ ls.drop (j + 2)) := by
  have ll : (ls.take j ++ [z2, z] ++ ls.drop (j + 2)).length = ls.length := by
    simp only [List.length_append, List.length_take, List.length_drop, List.length_cons, List.length_nil]
    omega
  refine ⟨h.regs, by rw [ll]; exact h.few, fun y hy => ?_, fun y hy => ?_⟩
  · rcases List.mem_append.mp hy with q | q
    · rcases List.mem_append.mp q with q | q
      · exact h.good y (List.mem_of_mem_take q)
      · simp only [List.mem_cons, List.not_mem_nil, or_false] at q
        rcases q with rfl | rfl
        · exact h.good _ (List.mem_of_getElem? e2)
        · exact h.good _ (List.mem_of_getElem? e)
    · exact h.good y (List.mem_of_mem_drop q)
  · have l1 : (ls.take j ++ [z2, z]).length = j + 2 := by
      simp only [List.length_append, List.length_take, List.length_cons, List.length_nil]
      omega
    rw [ll, List.getElem?_append_right (by omega), l1, List.getElem?_drop] at hy
    exact h.last y (by rw [← hy]; congr 1; omega)
theorem swap_ne {ls : List Ln} {j : Nat} {z z2 : Ln} (e : ls[j]? = some z) (n : z2 ≠ z) : ls.take j ++ [z2, z] ++ ls.drop (j + 2) ≠ ls := by
  intro q
  have hj : j < ls.length := by
    rcases Nat.lt_or_ge j ls.length with a | a
    · exact a
    · rw [List.getElem?_eq_none a] at e
      cases e
  have l : (ls.take j).length = j := by rw [List.length_take]; omega
  have := congrArg (·[j]?) q
  simp only [e] at this
  rw [List.append_assoc, List.getElem?_append_right (by omega), l, Nat.sub_self] at this
  injection this with this
  exact n this
theorem put_ne {ls : List Ln} {j : Nat} {z z' : Ln} (e : ls[j]? = some z) (n : z' ≠ z) : ls.set j z' ≠ ls := by
  intro q
  have := congrArg (·[j]?) q
  simp only [e, List.getElem?_set] at this
  have hj : j < ls.length := by
    rcases Nat.lt_or_ge j ls.length with a | a
    · exact a
    · rw [List.getElem?_eq_none a] at e
      cases e
  simp [hj] at this
  exact n this
theorem set_cut {ls : List Ln} {j : Nat} (z' : Ln) (h : j < ls.length) : ls.take j ++ [z'] ++ ls.drop (j + 1) = ls.set j z' := by
  rw [List.set_eq_take_append_cons_drop, if_pos h, List.append_assoc]
  rfl
theorem goodL_lay {ns : List Str} {l : Ln} (o : OkN ns) (h : GoodL ns l) : LayL (lnD l) := .of ((h.lay (n := 0) o).mono (by decide))
end La
set_option Elab.async false
set_option linter.all false
set_option maxRecDepth 100000
set_option maxHeartbeats 4000000
namespace La
open PySem PySem.Spec PyProof.Rows L2 SM
/-- a name of a register that begins with k -/
structure Nm (k : Nat) (s : Str) : Prop where
  ok : isName (.str s) = true
  hd : s.cps.toList.head? = some k
inductive NmAll : List Nat → List Str → Prop
  | nil : NmAll [] []
  | cons {k : Nat} {s : Str} {ks : List Nat} {ss : List Str} : Nm k s → NmAll ks ss → NmAll (k :: ks) (s :: ss)
theorem NmAll.names : ∀ {ks : List Nat} {ss : List Str}, NmAll ks ss → (ss.map PyData.str).all isName = true
  | _, _, .nil => rfl
  | _, _, .cons h t => by rw [List.map_cons, List.all_cons, h.ok, t.names]; rfl
theorem NmAll.heads : ∀ {ks : List Nat} {ss : List Str}, NmAll ks ss → ss.map (fun s => s.cps.toList.head?) = ks.map some
  | _, _, .nil => rfl
  | _, _, .cons h t => by rw [List.map_cons, List.map_cons, h.hd, t.heads]
theorem nodup_of_map {α β : Type} (f : α → β) : ∀ {l : List α}, (l.map f).Nodup → l.Nodup
  | [], _ => List.nodup_nil
  | a :: l, h => by
    rw [List.map_cons, List.nodup_cons] at h
    exact List.nodup_cons.mpr ⟨fun z => h.1 (List.mem_map_of_mem z), nodup_of_map f h.2⟩
theorem nodup_map_some : ∀ {l : List Nat}, l.Nodup → (l.map some).Nodup
  | [], _ => List.nodup_nil
  | a :: l, h => by
    rw [List.nodup_cons] at h
    rw [List.map_cons, List.nodup_cons]
    refine ⟨fun z => ?_, nodup_map_some h.2⟩
    obtain ⟨b, hb, e⟩ := List.mem_map.mp z
    cases e
    exact h.1 hb
theorem addS_off {acc : List Str} {x : Str} (h : x ∉ acc) : addS acc x = acc ++ [x] := by
  unfold addS
  rw [if_neg]
  intro z
  obtain ⟨y, hy, e⟩ := List.any_eq_true.mp z
  rw [eq_of_beq e] at hy
  exact h hy
theorem foldl_addS : ∀ {l acc : List Str}, (acc ++ l).Nodup → l.foldl addS acc = acc ++ l
  | [], acc, _ => by rw [List.foldl_nil, List.append_nil]
  | x :: l, acc, h => by
    have hx : x ∉ acc := fun z => by
      rw [List.nodup_append] at h
      exact h.2.2 x z x List.mem_cons_self rfl
    rw [List.foldl_cons, addS_off hx, foldl_addS (by rw [List.append_assoc]; exact h), List.append_assoc]
    rfl
theorem dedS_nodup {l : List Str} (h : l.Nodup) : (dedS l).length = l.length := by
  unfold dedS
  rw [foldl_addS (by rw [List.nil_append]; exact h), List.nil_append]
theorem regs_of {ks : List Nat} {ns : List Str} (h : NmAll ks ns) (nd : ks.Nodup) (l : ns.length ≤ 3) : regsD (ns.map .str) = true := by
  have n2 : ns.Nodup := nodup_of_map (fun s => s.cps.toList.head?) (by rw [h.heads]; exact nodup_map_some nd)
  rw [regsD, Bool.and_eq_true, Bool.and_eq_true, decide_eq_true_eq, decide_eq_true_eq, List.length_map, strsOf_map]
  exact ⟨l, h.names, dedS_nodup n2⟩
/-- a drawn note: a letter that no word of a rule begins with, and letters behind it -/
theorem nm_note {L x : Str} {k : Nat} (h : NoteOf L x) (hl : L.cps.toList = [k]) (hk : 97 ≤ k ∧ k ≤ 122) (hw : words01.all (fun s => decide (s.cps.toList.head? ≠ some k)) = true) : Nm k x := by
  obtain ⟨cs, e, l, hc⟩ := h
  rw [hl] at e
  have e' : x.cps.toList = k :: cs := e
  have hd : x.cps.toList.head? = some k := by rw [e']; rfl
  refine ⟨?_, hd⟩
  rw [isName, Bool.and_eq_true, Bool.not_eq_true']
  constructor
  · rw [isWord, Bool.and_eq_true, Bool.and_eq_true, decide_eq_true_eq, decide_eq_true_eq, strLen, e', List.length_cons]
    refine ⟨⟨by omega, by omega⟩, ?_⟩
    rw [List.all_eq_true]
    intro c hm
    rw [Bool.and_eq_true, decide_eq_true_eq, decide_eq_true_eq]
    rcases List.mem_cons.mp hm with rfl | hm
    · exact hk
    · exact hc c hm
  · have e2 : memS words01 (.str x) = decide (x ∈ words01) := any_str x words01
    rw [e2]
    refine decide_eq_false fun z => ?_
    have := of_decide_eq_true (List.all_eq_true.mp hw x z)
    exact this hd
theorem nm_b : Nm 98 "beside" := ⟨by decide +kernel, by decide +kernel⟩
theorem nm_e : Nm 101 "elder" := ⟨by decide +kernel, by decide +kernel⟩
def few2 (o : Str) : List (List Str) := [[o], [], [o], ["beside"], ["elder"]]
def moreA (o t : Str) : List (List Str) := [[o, t], [o, "beside"], ["elder", o]]
def moreB (o t : Str) : List (List Str) := [["beside", "elder"], [t, o], [o, "elder"]]
def manyA (o t : Str) : List (List Str) := [[o, "beside", "elder"], ["elder", t, o], ["beside", o, t]]
def manyB (o t u : Str) : List (List Str) := [[t, u, o]]
def nsD (ns : List Str) : PyData := .list (ns.map .str)
theorem names_good {o t u : Str} (hq : Nm 113 o) (hx : Nm 120 t) (hz : Nm 122 u) {ns : List Str} (h : ns ∈ few2 o ++ ((moreA o t ++ moreB o t) ++ (manyA o t ++ manyB o t u))) : regsD (ns.map .str) = true := by
  simp only [few2, moreA, moreB, manyA, manyB, List.cons_append, List.nil_append, List.mem_cons, List.not_mem_nil, or_false] at h
  rcases h with h | h | h | h | h | h | h | h | h | h | h | h | h | h | h <;> subst h
  · exact regs_of (.cons hq .nil) (by decide) (Nat.le_of_ble_eq_true rfl)
  · exact regs_of .nil (by decide) (Nat.le_of_ble_eq_true rfl)
  · exact regs_of (.cons hq .nil) (by decide) (Nat.le_of_ble_eq_true rfl)
  · exact regs_of (.cons nm_b .nil) (by decide) (Nat.le_of_ble_eq_true rfl)
  · exact regs_of (.cons nm_e .nil) (by decide) (Nat.le_of_ble_eq_true rfl)
  · exact regs_of (.cons hq (.cons hx .nil)) (by decide) (Nat.le_of_ble_eq_true rfl)
  · exact regs_of (.cons hq (.cons nm_b .nil)) (by decide) (Nat.le_of_ble_eq_true rfl)
  · exact regs_of (.cons nm_e (.cons hq .nil)) (by decide) (Nat.le_of_ble_eq_true rfl)
  · exact regs_of (.cons nm_b (.cons nm_e .nil)) (by decide) (Nat.le_of_ble_eq_true rfl)
  · exact regs_of (.cons hx (.cons hq .nil)) (by decide) (Nat.le_of_ble_eq_true rfl)
  · exact regs_of (.cons hq (.cons nm_e .nil)) (by decide) (Nat.le_of_ble_eq_true rfl)
  · exact regs_of (.cons hq (.cons nm_b (.cons nm_e .nil))) (by decide) (Nat.le_of_ble_eq_true rfl)
  · exact regs_of (.cons nm_e (.cons hx (.cons hq .nil))) (by decide) (Nat.le_of_ble_eq_true rfl)
  · exact regs_of (.cons nm_b (.cons hq (.cons hx .nil))) (by decide) (Nat.le_of_ble_eq_true rfl)
  · exact regs_of (.cons hx (.cons hz (.cons hq .nil))) (by decide) (Nat.le_of_ble_eq_true rfl)
def spRegisters (K : PySem.W.Frag) : Sp := fun vs H Q _ => ∃ (a : Addr) (most : Int), vs = [.ref a, .int most] ∧ Src H a ∧ 1 ≤ most ∧ most ≤ 3 ∧
  ∀ v ns H', regsD (ns.map .str) = true → Keep [a] H H' → Src H' a → Dl K (off [a] H') v (nsD ns) → Q v H'
section
variable {P : Program} {w : World} {K : PySem.W.Frag} {mg : Str → Option Value} {base : Heap}
abbrev s__law_registers : Stmt := (top 65)
abbrev N__law_registers : List Str := ["source", "most", "one", "two", "few", "more", "many"]
abbrev P__law_registers : List Str := ["source", "most"]
theorem sc__law_registers : FnScope N__law_registers P__law_registers (defScope s__law_registers) := ⟨rfl, rfl, rfl, by decide +kernel, rfl, by decide +kernel, by decide +kernel⟩
theorem D_law_registers (W : Cw fas fns K mg) (D_law_pick : DefOk P w K mg base CX0 2 "_law_pick" P__law_pick (spPick K)) (D_law_note : DefOk P w K mg base CX0 3 "_law_note" P__law_note spNote) : DefOk P w K mg base CX0 4 "_law_registers" P__law_registers (spRegisters K) := by
  refine DefOk.of W 22 54 (st := s__law_registers) rfl rfl sc__law_registers (fun _ _ _ _ _ _ us hl => match us, hl with | [_, _], _ => rfl) (fun vs H Q E h => ?_) (fun cdv A outer s H vs Q E hr h => ?_)
  · obtain ⟨a, most, rfl, _⟩ := h
    rfl
  · obtain ⟨a, most, rfl, hs, m1, m3, k⟩ := h
    refine ⟨_, PSs.nox (Evl.pss_cut (ps_par (i := 2) (j := 3) (by rfl) sc__law_registers.nd rfl rfl (by decide) rfl rfl (pa_cons (SM.pe_callD D_law_note (hr.mono (by decide)) pass0 (pa_cons (pv 0) (pa_cons pe_str pa_nil))) (pa_cons (SM.pe_callD D_law_note (hr.mono (by decide)) pass0 (pa_cons (pv 0) (pa_cons pe_str pa_nil))) pa_nil)) (by rfl)) (Evl.pss_cut (ps_set (i := 4) sc__law_registers.nd rfl (by first | exact Or.inl rfl | exact Or.inr rfl) (pe_lst (pa_cons (pe_lst (pa_cons (pv 2) pa_nil)) (pa_cons (pe_lst pa_nil) (pa_cons (pe_lst (pa_cons (pv 2) pa_nil)) (pa_cons (pe_lst (pa_cons pe_str pa_nil)) (pa_cons (pe_lst (pa_cons pe_str pa_nil)) pa_nil))))))) (Evl.pss_cut (ps_set (i := 5) sc__law_registers.nd rfl (by first | exact Or.inl rfl | exact Or.inr rfl) (pe_lst (pa_cons (pe_lst (pa_cons (pv 2) (pa_cons (pv 3) pa_nil))) (pa_cons (pe_lst (pa_cons (pv 2) (pa_cons pe_str pa_nil))) (pa_cons (pe_lst (pa_cons pe_str (pa_cons (pv 2) pa_nil))) pa_nil))))) (Evl.pss_cut (ps_set (i := 5) sc__law_registers.nd rfl (by first | exact Or.inl rfl | exact Or.inr rfl) (pe_op op_cat (pv 5) (pe_lst (pa_cons (pe_lst (pa_cons pe_str (pa_cons pe_str pa_nil))) (pa_cons (pe_lst (pa_cons (pv 3) (pa_cons (pv 2) pa_nil))) (pa_cons (pe_lst (pa_cons (pv 2) (pa_cons pe_str pa_nil))) pa_nil)))))) (Evl.pss_cut (ps_set (i := 6) sc__law_registers.nd rfl (by first | exact Or.inl rfl | exact Or.inr rfl) (pe_lst (pa_cons (pe_lst (pa_cons (pv 2) (pa_cons pe_str (pa_cons pe_str pa_nil)))) (pa_cons (pe_lst (pa_cons pe_str (pa_cons (pv 3) (pa_cons (pv 2) pa_nil)))) (pa_cons (pe_lst (pa_cons pe_str (pa_cons (pv 2) (pa_cons (pv 3) pa_nil)))) pa_nil))))) (Evl.pss_cut (ps_expr (pe_bm PySem.F.plainAttrs_list PySem.F.slot_list_append PySem.F.type_list_append mt_append (pv 6) (pa_cons (pe_lst (pa_cons (pv 3) (pa_cons (SM.pe_callD D_law_note (hr.mono (by decide)) pass0 (pa_cons (pv 0) (pa_cons pe_str pa_nil))) (pa_cons (pv 2) pa_nil)))) pa_nil))) (pss_one (ps_ret (SM.pe_callD D_law_pick (hr.mono (by decide)) pass0 (pa_cons (pv 0) (pa_cons (pe_op op_cat (pe_op op_cat (pv 4) (pe_op op_rep (pv 5) (pe_op op_sub (pv 1) pe_int))) (pe_op op_rep (pv 6) (pe_op op_sub (pv 1) pe_int))) pa_nil))))))))))), ?_⟩
    refine ⟨fun σ' H' => ∃ o t, σ' = [some (.ref a), some (.int most), some (.str o), some (.str t), none, none, none] ∧ Keep [a] H H' ∧ Src H' a ∧ Nm 113 o ∧ Nm 120 t, ?_, ?_⟩
    · refine ⟨_, rfl, a, "q", rfl, hs, by decide +kernel, fun o H1 no k1 s1 => ⟨_, rfl, a, "x", rfl, s1, by decide +kernel, fun t H2 nt k2 s2 => ?_⟩⟩
      exact ⟨_, _, rfl, o, t, rfl, k1.trans k2, s2, nm_note no (by decide +kernel) (by decide) (by decide +kernel), nm_note nt (by decide +kernel) (by decide) (by decide +kernel)⟩
    rintro σ' H1 ⟨o, t, rfl, k1, s1, hq, hx⟩
    refine ⟨fun σ' H' => ∃ vf, σ' = [some (.ref a), some (.int most), some (.str o), some (.str t), some vf, none, none] ∧ Keep [] H1 H' ∧ Dl K (off [a] H') vf (.list ((few2 o).map nsD)), ?_, ?_⟩
    · refine rd_asg (LlE.lst (K := K) (m := [a]) (ds := (few2 o).map nsD) s1.live (by repeat' first | exact LlA.nil | refine LlA.cons ?_ ?_ | exact LlE.str | exact LlE.bl | exact LlE.var rfl (.str _) | refine LlE.lst s1.live ?_ | refine LlE.tup s1.live ?_) rfl H1 Keep.refl _ fun v H' k' d => ?_)
      exact ⟨v, rfl, k', d⟩
    rintro σ' H2 ⟨vf, rfl, k2, df⟩
    have s2 := s1.keep k2 (by simp)
    refine ⟨fun σ' H' => ∃ vm, σ' = [some (.ref a), some (.int most), some (.str o), some (.str t), some vf, some vm, none] ∧ Keep [] H2 H' ∧ Dl K (off [a] H') vm (.list ((moreA o t).map nsD)), ?_, ?_⟩
    · refine rd_asg (LlE.lst (K := K) (m := [a]) (ds := (moreA o t).map nsD) s2.live (by repeat' first | exact LlA.nil | refine LlA.cons ?_ ?_ | exact LlE.str | exact LlE.bl | exact LlE.var rfl (.str _) | refine LlE.lst s2.live ?_ | refine LlE.tup s2.live ?_) rfl H2 Keep.refl _ fun v H' k' d => ?_)
      exact ⟨v, rfl, k', d⟩
    rintro σ' H3 ⟨vm, rfl, k3, dm⟩
    have s3 := s2.keep k3 (by simp)
    refine ⟨fun σ' H' => ∃ vm, σ' = [some (.ref a), some (.int most), some (.str o), some (.str t), some vf, some vm, none] ∧ Keep [] H3 H' ∧ Dl K (off [a] H') vm (.list ((moreA o t ++ moreB o t).map nsD)), ?_, ?_⟩
    · refine rd_asg (LlE.cat (K := K) (m := [a]) (ds := (moreA o t).map nsD) (es := (moreB o t).map nsD) s3.live (.var rfl dm) (LlE.lst (K := K) (ds := (moreB o t).map nsD) s3.live (by repeat' first | exact LlA.nil | refine LlA.cons ?_ ?_ | exact LlE.str | exact LlE.bl | exact LlE.var rfl (.str _) | refine LlE.lst s3.live ?_ | refine LlE.tup s3.live ?_) rfl) (Nat.le_of_ble_eq_true rfl) H3 Keep.refl _ fun v H' k' d => ?_)
      exact ⟨v, rfl, k', d⟩
    rintro σ' H4 ⟨vm, rfl, k4, dm4⟩
    have s4 := s3.keep k4 (by simp)
    refine ⟨fun σ' H' => ∃ pm xs, σ' = [some (.ref a), some (.int most), some (.str o), some (.str t), some vf, some vm, some (.ref pm)] ∧ Keep [] H4 H' ∧ pm ≠ a ∧ H4 pm = none ∧ H' pm = some (.lst xs) ∧ DlAll K (off [pm, a] H') xs ((manyA o t).map nsD), ?_, ?_⟩
    · refine rd_asg (LlA.lst (K := K) (m := [a]) (ds := (manyA o t).map nsD) (by repeat' first | exact LlA.nil | refine LlA.cons ?_ ?_ | exact LlE.str | exact LlE.bl | exact LlE.var rfl (.str _) | refine LlE.lst s4.live ?_ | refine LlE.tup s4.live ?_) Keep.refl rfl fun p xs H' hp k' e d => ?_)
      obtain ⟨x0, y0, ea0, _⟩ := id s4
      exact ⟨p, xs, rfl, k', (ne_of_none ea0 hp).symm, hp, e, d⟩
    rintro σ' H5 ⟨pm, xs, rfl, k5, pa, np, lp5, d5⟩
    have s5 := s4.keep k5 (by simp)
    have df5 := (df.k0 (k3.trans k4)).k0 k5
    have dm5 := dm4.k0 k5
    refine ⟨fun σ' H' => ∃ u, σ' = [some (.ref a), some (.int most), some (.str o), some (.str t), some vf, some vm, some (.ref pm)] ∧ Nm 122 u ∧ Keep [a] H4 H' ∧ Src H' a ∧ ∃ ys, H' pm = some (.lst ys) ∧ DlAll K (off [a] H') ys ((manyA o t ++ manyB o t u).map nsD), ?_, ?_⟩
    · refine ⟨_, rfl, .inl ⟨rfl, _, SqL.of lp5⟩, _, rfl, _, rfl, a, "z", rfl, s5, by decide +kernel, fun u H6 nu k6 s6 => ⟨_, rfl, (by show 3 ≤ sizeLine; decide), fun q hq' => ?_⟩⟩
      have lp6 := k6 _ _ (by simpa using pa) lp5
      have kq : Keep [] H6 (upd H6 q (.lst [.str t, .str u, .str o])) := Keep.new hq'
      have qp : q ≠ pm := (ne_of_none lp6 hq').symm
      have lq := kq.to lp6
      refine ⟨pm, xs, _, rfl, rfl, lq, ?_, ?_⟩
      · rw [d5.length]
        exact Nat.lt_of_lt_of_le (show 3 < 100 by decide) (by decide)
      · have kp : Keep [pm] (upd H6 q (.lst [.str t, .str u, .str o])) (upd (upd H6 q (.lst [.str t, .str u, .str o])) pm (.lst (xs ++ [.ref q]))) := Keep.at_ (by simp)
        have k56 : Keep [pm, a] H5 H6 := k6.up (by simp)
        have d6 : DlAll K (off [pm, a] (upd (upd H6 q (.lst [.str t, .str u, .str o])) pm (.lst (xs ++ [.ref q])))) xs ((manyA o t).map nsD) := ((d5.k k56).k0 kq).k (kp.up (by simp))
        have live6 : Live [pm, a] H6 := Live.cons lp6 s6.live
        have dq : Dl K (off [pm, a] (upd (upd H6 q (.lst [.str t, .str u, .str o])) pm (.lst (xs ++ [.ref q])))) (.ref q) (nsD [t, u, o]) :=
          (Dl.lst (off_new live6 hq') (DlAll.strs [t, u, o])).k (kp.up (by simp))
        refine ⟨u, rfl, nm_note nu (by decide +kernel) (by decide) (by decide +kernel), ?_, (s6.keep kq (by simp)).keep kp (by simpa using pa.symm), _, upd_same, ?_⟩
        · exact Keep.own ((Keep.of_nil k5).trans (k6.trans (Keep.of_nil kq))) np
        · exact (d6.append (.cons dq .nil)).mono off_less
    rintro σ' H6 ⟨u, rfl, hz, k6, s6, ys, lp6, d6⟩
    have df6 := (df.k0 (k3.trans k4)).k k6
    have dm6 := dm4.k k6
    have offp : off [a] H6 pm = some (.lst ys) := by rw [off_out (by simpa using pa)]; exact lp6
    have dy : Dl K (off [a] H6) (.ref pm) (.list ((manyA o t ++ manyB o t u).map nsD)) := .lst offp d6
    have kk : Keep [a] H H6 := k1.trans (((Keep.of_nil (k2.trans (k3.trans k4)))).trans k6)
    have e1 : (most - 1).toNat ≤ 2 := by omega
    have e2 : (most - 2).toNat ≤ 1 := by omega
    refine rd_ret ⟨_, rfl, LlE.fresh (m := [a]) (H0 := H6) (LlE.cat s6.live (LlE.cat s6.live (.var rfl df6) (LlE.rep (z := most - 1) s6.live (.var rfl dm6) (fun H1 Q q => ⟨_, rfl, _, _, rfl, rfl, q⟩) (by omega) (by omega) (Nat.le_of_ble_eq_true rfl)) ?_) (LlE.rep (z := most - 2) s6.live (.var rfl dy) (fun H1 Q q => ⟨_, rfl, _, _, rfl, rfl, q⟩) (by omega) (by omega) (Nat.le_of_ble_eq_true rfl)) ?_) Keep.refl fun p zs H7 np7 k7 lp7 d7 => ?_⟩
    · rw [rep_length]
      show 5 + (most - 1).toNat * 6 ≤ 100
      omega
    · rw [rep_length, List.length_append, rep_length]
      show 5 + (most - 1).toNat * 6 + (most - 2).toNat * 4 ≤ 100
      omega
    have s7 := s6.keep k7 (by simp)
    have lz : zs.length = 5 + (most - 1).toNat * 6 + (most - 2).toNat * 4 := by
      rw [d7.length, List.length_append, List.length_append, rep_length, rep_length]
      rfl
    refine ⟨a, p, zs, rfl, s7, .inl (SqL.of lp7), by simpa using np7, by omega, by omega, fun j v H8 hv k8 s8 => ?_⟩
    obtain ⟨d, hd, dv⟩ := d7.get hv
    have hm := List.mem_of_getElem? hd
    have : ∃ ns, d = nsD ns ∧ ns ∈ few2 o ++ ((moreA o t ++ moreB o t) ++ (manyA o t ++ manyB o t u)) := by
      have each : ∀ {l : List (List Str)}, d ∈ l.map nsD → (∀ ns ∈ l, ns ∈ few2 o ++ ((moreA o t ++ moreB o t) ++ (manyA o t ++ manyB o t u))) → ∃ ns, d = nsD ns ∧ ns ∈ few2 o ++ ((moreA o t ++ moreB o t) ++ (manyA o t ++ manyB o t u)) := by
        intro l h1 h2
        obtain ⟨ns, hn, rfl⟩ := List.mem_map.mp h1
        exact ⟨ns, rfl, h2 ns hn⟩
      rcases List.mem_append.mp hm with hm | hm
      · rcases List.mem_append.mp hm with hm | hm
        · exact each hm fun ns h => List.mem_append_left _ h
        · exact each (mem_rep hm).1 fun ns h => List.mem_append_right _ (List.mem_append_left _ h)
      · exact each (mem_rep hm).1 fun ns h => List.mem_append_right _ (List.mem_append_right _ h)
    obtain ⟨ns, rfl, hns⟩ := this
    exact k v ns H8 (names_good hq hx hz hns) (kk.trans ((Keep.of_nil k7).trans k8)) s8 (dv.k k8)
end
end La
set_option Elab.async false
set_option linter.all false
set_option maxRecDepth 100000
set_option maxHeartbeats 4000000
namespace La
open PySem PySem.Spec PyProof.Rows L2 SM
/-- an item of a list of texts that is made of some and of names -/
theorem strs_pick {K : PySem.W.Frag} {H : Hp} {xs : List V} {us : List Str} (d : DlAll K H xs (us.map .str)) {j : Nat} {v : V} (hv : xs[j]? = some v) : ∃ s, v = .str s ∧ s ∈ us := by
  obtain ⟨e, he, dv⟩ := d.get hv
  rw [List.getElem?_map] at he
  cases q : us[j]? with
  | none =>
    rw [q] at he
    cases he
  | some s =>
    rw [q] at he
    cases he
    cases dv
    exact ⟨s, rfl, List.mem_of_getElem? q⟩
theorem nsLen {ns : List Str} (h : regsD (ns.map .str) = true) : ns.length ≤ 3 := by
  rw [regsD, Bool.and_eq_true, decide_eq_true_eq, List.length_map] at h
  exact h.1
/-- a drawn test -/
def spTest (K : PySem.W.Frag) : Sp := fun vs H Q _ => ∃ (a : Addr) (vn : V) (ns : List Str), vs = [.ref a, vn] ∧ Src H a ∧ Dl K (off [a] H) vn (nsD ns) ∧ ns.length ≤ 3 ∧
  ∀ v H' t, Keep [a] H H' → Src H' a → Dt K H' v (testD t) → GoodT ns t → Q v H'
/-- drawn steps, at most so many -/
def spSteps2 (K : PySem.W.Frag) : Sp := fun vs H Q _ => ∃ (a : Addr) (vn : V) (ns : List Str) (most : Int), vs = [.ref a, vn, .int most] ∧ Src H a ∧ Dl K (off [a] H) vn (nsD ns) ∧ ns.length ≤ 3 ∧ 0 ≤ most ∧ most ≤ 4 ∧
  ∀ v H' ss, Keep [a] H H' → Src H' a → Dt K H' v (stepsD ss) → (ss.length : Int) ≤ most → (∀ s ∈ ss, GoodS ns s) → Q v H'
/-- a drawn line -/
def spRow (K : PySem.W.Frag) : Sp := fun vs H Q _ => ∃ (a : Addr) (vn : V) (ns : List Str) (b : Bool), vs = [.ref a, vn, .bl b] ∧ Src H a ∧ Dl K (off [a] H) vn (nsD ns) ∧ ns.length ≤ 3 ∧
  ∀ v H' z, Keep [a] H H' → Src H' a → Dt K H' v (lnD z) → GoodL ns z → (b = true → z.tests = []) → Q v H'
/-- pick of [..] + names -/
theorem pick1 {K : PySem.W.Frag} {σ : L2.St} {H : Hp} {a : Addr} {ns us : List Str} {vn : V} {ta : TA} {i j : Nat} {Q : VK} (hi : σ[i]? = some (some (.ref a))) (hj : σ[j]? = some (some vn)) (s : Src H a) (dn : Dl K (off [a] H) vn (nsD ns)) (n3 : ns.length ≤ 3)
    (l : LlA K [a] ta σ H (us.map .str)) (n : Nat.ble us.length 10 = true) (u0 : 0 < us.length) (k : ∀ x H', (x ∈ us ∨ x ∈ ns) → Keep [a] H H' → Src H' a → Q (.str x) H') :
    tCall (spPick K) [] E0 (tCons (tVar i) (tCons (tOp rCat (tLst ta) (tVar j)) tNil)) σ H Q := by
  have u10 := Nat.le_of_ble_eq_true n
  refine ⟨_, hi, LlE.fresh (K := K) (m := [a]) (H0 := H) (ds := us.map PyData.str ++ ns.map PyData.str) (LlE.cat (es := ns.map PyData.str) s.live (LlE.lst (ds := us.map PyData.str) s.live l (Nat.ble_eq_true_of_le (by rw [List.length_map]; omega))) (.var hj dn) (by rw [List.length_map, List.length_map]; omega)) Keep.refl fun p xs H1 np k1 hp dx => ?_⟩
  rw [← List.map_append] at dx
  have lx : xs.length = us.length + ns.length := by rw [dx.length, List.length_map, List.length_append]
  refine ⟨a, p, xs, rfl, s.keep k1 (by simp), .inl (SqL.of hp), by simpa using np, by omega, by omega, fun j v H2 hv k2 s2 => ?_⟩
  obtain ⟨x, rfl, hx⟩ := strs_pick dx hv
  exact k x H2 (List.mem_append.mp hx) ((Keep.of_nil k1).trans k2) s2
/-- pick of [..] + names + names -/
theorem pick2 {K : PySem.W.Frag} {σ : L2.St} {H : Hp} {a : Addr} {ns us : List Str} {vn : V} {ta : TA} {i j : Nat} {Q : VK} (hi : σ[i]? = some (some (.ref a))) (hj : σ[j]? = some (some vn)) (s : Src H a) (dn : Dl K (off [a] H) vn (nsD ns)) (n3 : ns.length ≤ 3)
    (l : LlA K [a] ta σ H (us.map .str)) (n : Nat.ble us.length 10 = true) (u0 : 0 < us.length) (k : ∀ x H', (x ∈ us ∨ x ∈ ns) → Keep [a] H H' → Src H' a → Q (.str x) H') :
    tCall (spPick K) [] E0 (tCons (tVar i) (tCons (tOp rCat (tOp rCat (tLst ta) (tVar j)) (tVar j)) tNil)) σ H Q := by
  have u10 := Nat.le_of_ble_eq_true n
  refine ⟨_, hi, LlE.fresh (K := K) (m := [a]) (H0 := H) (ds := (us.map PyData.str ++ ns.map PyData.str) ++ ns.map PyData.str) (LlE.cat (es := ns.map PyData.str) s.live (LlE.cat (es := ns.map PyData.str) s.live (LlE.lst (ds := us.map PyData.str) s.live l (Nat.ble_eq_true_of_le (by rw [List.length_map]; omega))) (.var hj dn) (by rw [List.length_map, List.length_map]; omega)) (.var hj dn) (by rw [List.length_append, List.length_map, List.length_map]; omega)) Keep.refl fun p xs H1 np k1 hp dx => ?_⟩
  rw [← List.map_append, ← List.map_append] at dx
  have lx : xs.length = us.length + ns.length + ns.length := by rw [dx.length, List.length_map, List.length_append, List.length_append]
  refine ⟨a, p, xs, rfl, s.keep k1 (by simp), .inl (SqL.of hp), by simpa using np, by omega, by omega, fun j v H2 hv k2 s2 => ?_⟩
  obtain ⟨x, rfl, hx⟩ := strs_pick dx hv
  refine k x H2 ?_ ((Keep.of_nil k1).trans k2) s2
  rcases List.mem_append.mp hx with hx | hx
  · exact List.mem_append.mp hx
  · exact .inr hx
section
variable {P : Program} {w : World} {K : PySem.W.Frag} {mg : Str → Option Value} {base : Heap}
abbrev s__law_test : Stmt := (top 66)
abbrev N__law_test : List Str := ["source", "names", "one", "other"]
abbrev P__law_test : List Str := ["source", "names"]
theorem sc__law_test : FnScope N__law_test P__law_test (defScope s__law_test) := ⟨rfl, rfl, rfl, by decide +kernel, rfl, by decide +kernel, by decide +kernel⟩
theorem D_law_test (W : Cw fas fns K mg) (D_law_draw : DefOk P w K mg base CX0 1 "_law_draw" P__law_draw spDraw) (D_law_pick : DefOk P w K mg base CX0 2 "_law_pick" P__law_pick (spPick K)) : DefOk P w K mg base CX0 3 "_law_test" P__law_test (spTest K) := by
  refine DefOk.of W 23 55 (st := s__law_test) rfl rfl sc__law_test (fun _ _ _ _ _ _ us hl => match us, hl with | [_, _], _ => rfl) (fun vs H Q E h => ?_) (fun cdv A outer s H vs Q E hr h => ?_)
  · obtain ⟨a, vn, ns, rfl, _⟩ := h
    rfl
  · obtain ⟨a, vn, ns, rfl, hs, dn, n3, k⟩ := h
    refine ⟨_, PSs.nox (Evl.pss_cut (ps_set (i := 2) sc__law_test.nd rfl (by first | exact Or.inl rfl | exact Or.inr rfl) (SM.pe_callD D_law_pick (hr.mono (by decide)) pass0 (pa_cons (pv 0) (pa_cons (pe_op op_cat (pe_lst (pa_cons pe_str (pa_cons pe_str (pa_cons pe_str pa_nil)))) (pv 1)) pa_nil)))) (Evl.pss_cut (ps_set (i := 3) sc__law_test.nd rfl (by first | exact Or.inl rfl | exact Or.inr rfl) (SM.pe_callD D_law_pick (hr.mono (by decide)) pass0 (pa_cons (pv 0) (pa_cons (pe_op op_cat (pe_op op_cat (pe_lst (pa_cons pe_str (pa_cons pe_str (pa_cons pe_str pa_nil)))) (pv 1)) (pv 1)) pa_nil)))) (pss_one (ps_ret (pe_tup (pa_cons (pv 2) (pa_cons (pv 3) (pa_cons (pe_cmpR op_gt (SM.pe_callD D_law_draw (hr.mono (by decide)) pass0 (pa_cons (pv 0) (pa_cons pe_int pa_nil))) pe_int (nomark _)) pa_nil)))))))), ?_⟩
    refine ⟨fun σ' H' => ∃ x, σ' = [some (.ref a), some vn, some (.str x), none] ∧ (x = "here" ∨ x = "new" ∨ x ∈ ns) ∧ Keep [a] H H' ∧ Src H' a, ?_, ?_⟩
    · refine rd_asg (pick1 (us := ["here", "here", "new"]) rfl rfl hs dn n3 (by repeat' first | exact LlA.nil | refine LlA.cons ?_ ?_ | exact LlE.str | exact LlE.bl | exact LlE.var rfl (.str _) | refine LlE.lst hs.live ?_ | refine LlE.tup hs.live ?_) rfl (by decide) fun x H' hx k' s' => ?_)
      exact ⟨x, rfl, by simpa [or_assoc] using hx, k', s'⟩
    rintro σ' H1 ⟨x, rfl, hx, k1, s1⟩
    refine ⟨fun σ' H' => ∃ y, σ' = [some (.ref a), some vn, some (.str x), some (.str y)] ∧ (y = "new" ∨ y = "here" ∨ y = "nothing" ∨ y ∈ ns) ∧ Keep [a] H1 H' ∧ Src H' a, ?_, ?_⟩
    · refine rd_asg (pick2 (us := ["new", "nothing", "here"]) rfl rfl s1 (dn.k k1) n3 (by repeat' first | exact LlA.nil | refine LlA.cons ?_ ?_ | exact LlE.str | exact LlE.bl | exact LlE.var rfl (.str _) | refine LlE.lst s1.live ?_ | refine LlE.tup s1.live ?_) rfl (by decide) fun y H' hy k' s' => ?_)
      refine ⟨y, rfl, ?_, k', s'⟩
      rcases hy with hy | hy
      · simp only [List.mem_cons, List.not_mem_nil, or_false] at hy
        rcases hy with e | e | e <;> simp [e]
      · exact .inr (.inr (.inr hy))
    rintro σ' H2 ⟨y, rfl, hy, k2, s2⟩
    refine rd_ret ⟨_, rfl, _, rfl, _, rfl, a, 4, rfl, s2, by decide, by decide, fun r H3 r0 r1 k3 s3 => ⟨r, 0, rfl, rfl, (by show 3 ≤ sizeLine; decide), fun q nq => ?_⟩⟩
    exact k (.ref q) _ (x, y, decide ((0 : Int) < r)) (k1.trans (k2.trans (k3.trans (Keep.new nq)))) (s3.keep (Keep.new (m := []) nq) (by simp)) (.tup (SqT.of upd_same) (.cons (.str _) (.cons (.str _) (.cons (.bl _) .nil)))) ⟨hx, hy⟩
abbrev s__law_steps : Stmt := (top 67)
abbrev N__law_steps : List Str := ["source", "names", "most", "found", "turn", "target"]
abbrev P__law_steps : List Str := ["source", "names", "most"]
theorem sc__law_steps : FnScope N__law_steps P__law_steps (defScope s__law_steps) := ⟨rfl, rfl, rfl, by decide +kernel, rfl, by decide +kernel, by decide +kernel⟩
theorem D_law_steps (W : Cw fas fns K mg) (D_law_draw : DefOk P w K mg base CX0 1 "_law_draw" P__law_draw spDraw) (D_law_pick : DefOk P w K mg base CX0 2 "_law_pick" P__law_pick (spPick K)) : DefOk P w K mg base CX0 3 "_law_steps" P__law_steps (spSteps2 K) := by
  refine DefOk.of W 24 56 (st := s__law_steps) rfl rfl sc__law_steps (fun _ _ _ _ _ _ us hl => match us, hl with | [_, _, _], _ => rfl) (fun vs H Q E h => ?_) (fun cdv A outer s H vs Q E hr h => ?_)
  · obtain ⟨a, vn, ns, most, rfl, _⟩ := h
    rfl
  · obtain ⟨a, vn, ns, most, rfl, hs, dn, n3, m0, m4, k⟩ := h
    refine ⟨_, PSs.nox (Evl.pss_cut (ps_set (i := 3) sc__law_steps.nd rfl (by first | exact Or.inl rfl | exact Or.inr rfl) (pe_lst pa_nil)) (Evl.pss_cut (ps_for PassesOwn.never rfl (pi_range1 (by rfl) (W.fre 79) (pa_cons (SM.pe_callD D_law_draw (hr.mono (by decide)) pass0 (pa_cons (pv 0) (pa_cons (pe_op op_add (pv 2) pe_int) pa_nil))) pa_nil)) (pg_name (i := 4) sc__law_steps.nd rfl (by first | exact Or.inl rfl | exact Or.inr rfl)) (Evl.pss_cut (ps_set (i := 5) sc__law_steps.nd rfl (by first | exact Or.inl rfl | exact Or.inr rfl) (SM.pe_callD D_law_pick (hr.mono (by decide)) pass0 (pa_cons (pv 0) (pa_cons (pe_op op_cat (pe_op op_cat (pe_lst (pa_cons pe_str pa_nil)) (pv 1)) (pv 1)) pa_nil)))) (pss_one (ps_expr (pe_bm PySem.F.plainAttrs_list PySem.F.slot_list_append PySem.F.type_list_append mt_append (pv 3) (pa_cons (pe_tup (pa_cons (pv 5) (pa_cons (SM.pe_callD D_law_pick (hr.mono (by decide)) pass0 (pa_cons (pv 0) (pa_cons (pe_op op_cat (pe_lst (pa_cons pe_str (pa_cons pe_str (pa_cons pe_str (pa_cons pe_str pa_nil))))) (pv 1)) pa_nil))) pa_nil))) pa_nil)))))) (pss_one (ps_ret (pe_callTy call_tuple_of (by rfl) (W.fre 83) (by decide +kernel) (pa_cons (pv 3) pa_nil)))))), ?_⟩
    refine ⟨fun σ' H' => ∃ p, σ' = [some (.ref a), some vn, some (.int most), some (.ref p), none, none] ∧ H p = none ∧ Keep [] H H' ∧ H' p = some (.lst []), ?_, ?_⟩
    · exact ⟨Nat.zero_le _, fun p hp => ⟨p, rfl, hp, Keep.new hp, upd_same⟩⟩
    rintro σ' H1 ⟨p, rfl, np, k1, lp1⟩
    obtain ⟨x0, y0, ea0, _⟩ := id hs
    have pa : p ≠ a := (ne_of_none ea0 np).symm
    have hs1 := hs.keep k1 (by simp)
    let Pv : Nat → L2.St → Hp → Prop := fun i σ' H' => ∃ (xs : List V) (ss : List (Str × Str)) (t g : Option V), σ' = [some (.ref a), some vn, some (.int most), some (.ref p), t, g] ∧ Keep [a] H H' ∧ Src H' a ∧ H' p = some (.lst xs) ∧ DtAll K H' xs (ss.map stepD) ∧ ss.length = i ∧ ∀ s ∈ ss, GoodS ns s
    refine ⟨fun σ' H' => ∃ i : Nat, (i : Int) ≤ most ∧ Pv i σ' H', ?_, ?_⟩
    · refine ⟨_, rfl, _, rfl, _, _, rfl, rfl, a, _, rfl, hs1, by omega, by omega, fun r H2 r0 r1 k2 s2 => ⟨r, rfl, by omega, by omega, for_range (lo := 0) Pv
        ⟨[], [], none, none, rfl, (Keep.of_nil k1).trans k2, s2, k2 _ _ (by simpa using pa) lp1, .nil, rfl, fun s z => by cases z⟩ ?_ ?_⟩⟩
      · rintro i σ' H3 hi ⟨xs, ss, t, g, rfl, k3, s3, lp, dx, hss, hg⟩
        refine ⟨fun σ' H' => ∃ tg, σ' = [some (.ref a), some vn, some (.int most), some (.ref p), some (.int (0 + (i : Int))), some (.str tg)] ∧ (tg = "here" ∨ tg ∈ ns) ∧ Keep [a] H3 H' ∧ Src H' a, ?_, ?_⟩
        · refine rd_asg (pick2 (us := ["here"]) rfl rfl s3 (dn.k k3) n3 (by repeat' first | exact LlA.nil | refine LlA.cons ?_ ?_ | exact LlE.str | exact LlE.bl | exact LlE.var rfl (.str _) | refine LlE.lst s3.live ?_ | refine LlE.tup s3.live ?_) rfl (by decide) fun x H' hx k' s' => ?_)
          exact ⟨x, rfl, by simpa using hx, k', s'⟩
        rintro σ' H4 ⟨tg, rfl, htg, k4, s4⟩
        have lp4 := k4 _ _ (by simpa using pa) lp
        have dx4 := dx.keep k4 s3.soft
        refine ⟨_, rfl, .inl ⟨rfl, _, SqL.of lp4⟩, _, rfl, ?_⟩
        refine pick1 (us := ["new", "new", "here", "nothing"]) rfl rfl s4 (dn.k (k3.trans k4)) n3 (by repeat' first | exact LlA.nil | refine LlA.cons ?_ ?_ | exact LlE.str | exact LlE.bl | exact LlE.var rfl (.str _) | refine LlE.lst s4.live ?_ | refine LlE.tup s4.live ?_) rfl (by decide) fun sr H5 hsr k5 s5 => ?_
        have lp5 := k5 _ _ (by simpa using pa) lp4
        refine ⟨(by show 2 ≤ sizeLine; decide), fun q4 n4 => ?_⟩
        have k6 : Keep [] H5 (upd H5 q4 (.tup [.str tg, .str sr])) := Keep.new n4
        have dx6 := (dx4.keep k5 s4.soft).k0 k6
        have lp6 := k6.to lp5
        refine ⟨p, xs, _, rfl, rfl, lp6, ?_, ?_⟩
        · rw [dx.length, List.length_map, hss]
          exact Nat.lt_of_lt_of_le (show i < 100 by omega) (by decide)
        · have k7 : Keep [p] (upd H5 q4 (.tup [.str tg, .str sr])) (upd (upd H5 q4 (.tup [.str tg, .str sr])) p (.lst (xs ++ [.ref q4]))) := Keep.at_ (by simp)
          refine ⟨xs ++ [.ref q4], ss ++ [(tg, sr)], _, _, rfl, ?_, ?_, upd_same, ?_, by rw [List.length_append, hss]; rfl, ?_⟩
          · exact Keep.own (k3.trans (k4.trans (k5.trans (Keep.of_nil k6)))) np
          · exact (s5.keep k6 (by simp)).keep k7 (by simpa using pa.symm)
          · rw [List.map_append]
            refine (DtAll.append dx6 (.cons (.tup (SqT.of upd_same) (.cons (.str _) (.cons (.str _) .nil))) .nil)).keep k7 (Soft.lst lp6)
          · intro z hz
            rcases List.mem_append.mp hz with hz | hz
            · exact hg z hz
            · rw [List.mem_singleton.mp hz]
              refine ⟨htg, ?_⟩
              rcases hsr with hsr | hsr
              · simp only [List.mem_cons, List.not_mem_nil, or_false] at hsr
                rcases hsr with e | e | e | e
                · exact .inl e
                · exact .inl e
                · exact .inr (.inl e)
                · exact .inr (.inr (.inl e))
              · exact .inr (.inr (.inr hsr))
      · rintro σ' H3 z
        exact ⟨r.toNat, by omega, z⟩
    rintro σ' H3 ⟨i, hi, xs, ss, t, g, rfl, k3, s3, lp, dx, hss, hg⟩
    refine ⟨_, rfl, p, xs, rfl, .inl ⟨SqL.of lp, fun q hq => ?_⟩⟩
    exact k _ _ ss (k3.trans (Keep.new hq)) (s3.keep (Keep.new (m := []) hq) (by simp)) (.tup (SqT.of upd_same) (dx.k0 (Keep.new hq))) (by omega) hg
end
end La
set_option Elab.async false
set_option linter.all false
set_option maxRecDepth 100000
set_option maxHeartbeats 4000000
namespace La
open PySem PySem.Spec PyProof.Rows L2 SM
section
variable {P : Program} {w : World} {K : PySem.W.Frag} {mg : Str → Option Value} {base : Heap}
abbrev s__law_row : Stmt := (top 68)
abbrev N__law_row : List Str := ["source", "names", "is_last", "many", "tests", "turn", "first"]
abbrev P__law_row : List Str := ["source", "names", "is_last"]
theorem sc__law_row : FnScope N__law_row P__law_row (defScope s__law_row) := ⟨rfl, rfl, rfl, by decide +kernel, rfl, by decide +kernel, by decide +kernel⟩
theorem D_law_row (W : Cw fas fns K mg) (D_law_draw : DefOk P w K mg base CX0 1 "_law_draw" P__law_draw spDraw) (D_law_test : DefOk P w K mg base CX0 3 "_law_test" P__law_test (spTest K)) (D_law_steps : DefOk P w K mg base CX0 3 "_law_steps" P__law_steps (spSteps2 K)) : DefOk P w K mg base CX0 4 "_law_row" P__law_row (spRow K) := by
  refine DefOk.of W 25 57 (st := s__law_row) rfl rfl sc__law_row (fun _ _ _ _ _ _ us hl => match us, hl with | [_, _, _], _ => rfl) (fun vs H Q E h => ?_) (fun cdv A outer s H vs Q E hr h => ?_)
  · obtain ⟨a, vn, ns, b, rfl, _⟩ := h
    rfl
  · obtain ⟨a, vn, ns, b, rfl, hs, dn, n3, k⟩ := h
    refine ⟨_, PSs.nox (Evl.pss_cut (ps_par (i := 3) (j := 4) (by rfl) sc__law_row.nd rfl rfl (by decide) rfl rfl (pa_cons (pe_ifExp (pt_val (pv 2)) pe_int (pe_op op_add pe_int (SM.pe_callD D_law_draw (hr.mono (by decide)) pass0 (pa_cons (pv 0) (pa_cons pe_int pa_nil))))) (pa_cons (pe_lst pa_nil) pa_nil)) (by rfl)) (Evl.pss_cut (ps_for PassesOwn.never rfl (pi_range1 (by rfl) (W.fre 79) (pa_cons (pv 3) pa_nil)) (pg_name (i := 5) sc__law_row.nd rfl (by first | exact Or.inl rfl | exact Or.inr rfl)) (pss_one (ps_expr (pe_bm PySem.F.plainAttrs_list PySem.F.slot_list_append PySem.F.type_list_append mt_append (pv 4) (pa_cons (SM.pe_callD D_law_test (hr.mono (by decide)) pass0 (pa_cons (pv 0) (pa_cons (pv 1) pa_nil))) pa_nil))))) (Evl.pss_cut (ps_if (pt_cmpR op_eq (SM.pe_callD D_law_draw (hr.mono (by decide)) pass0 (pa_cons (pv 0) (pa_cons pe_int pa_nil))) pe_int (nomark _)) (Evl.pss_cut (ps_set (i := 6) sc__law_row.nd rfl (by first | exact Or.inl rfl | exact Or.inr rfl) (SM.pe_callD D_law_steps (hr.mono (by decide)) pass0 (pa_cons (pv 0) (pa_cons (pv 1) (pa_cons pe_int pa_nil))))) (pss_one (ps_ret (pe_tup (pa_cons (pe_callTy call_tuple_of (by rfl) (W.fre 83) (by decide +kernel) (pa_cons (pv 4) pa_nil)) (pa_cons (pv 6) (pa_cons (SM.pe_callD D_law_steps (hr.mono (by decide)) pass0 (pa_cons (pv 0) (pa_cons (pv 1) (pa_cons pe_int pa_nil)))) pa_nil))))))) pss_nil) (pss_one (ps_ret (pe_tup (pa_cons (pe_callTy call_tuple_of (by rfl) (W.fre 83) (by decide +kernel) (pa_cons (pv 4) pa_nil)) (pa_cons (SM.pe_callD D_law_steps (hr.mono (by decide)) pass0 (pa_cons (pv 0) (pa_cons (pv 1) (pa_cons pe_int pa_nil)))) pa_nil)))))))), ?_⟩
    refine ⟨fun σ' H' => ∃ (n : Int) (p : Addr), σ' = [some (.ref a), some vn, some (.bl b), some (.int n), some (.ref p), none, none] ∧ 0 ≤ n ∧ n ≤ 2 ∧ (b = true → n = 0) ∧ H p = none ∧ p ≠ a ∧ Keep [a] H H' ∧ Src H' a ∧ H' p = some (.lst []), ?_, ?_⟩
    · have fin : ∀ (n : Int) H1, 0 ≤ n → n ≤ 2 → (b = true → n = 0) → Keep [a] H H1 → Src H1 a → (0 : Nat) ≤ sizeLine ∧ ∀ p, H1 p = none → ∃ v w', [V.int n, V.ref p] = [v, w'] ∧ ∃ (n' : Int) (p' : Addr), (([some (.ref a), some vn, some (.bl b), none, none, none, none] : L2.St).set 3 (some v)).set 4 (some w') = [some (.ref a), some vn, some (.bl b), some (.int n'), some (.ref p'), none, none] ∧ 0 ≤ n' ∧ n' ≤ 2 ∧ (b = true → n' = 0) ∧ H p' = none ∧ p' ≠ a ∧ Keep [a] H (upd H1 p (.lst [])) ∧ Src (upd H1 p (.lst [])) a ∧ (upd H1 p (.lst [])) p' = some (.lst []) := by
        intro n H1 n0 n2 nb k1 s1
        refine ⟨Nat.zero_le _, fun p hp => ⟨_, _, rfl, n, p, rfl, n0, n2, nb, ?_, ?_, k1.trans (Keep.new hp), s1.keep (Keep.new (m := []) hp) (by simp), upd_same⟩⟩
        · exact k1.free (by simpa using (ne_of_none s1.choose_spec.choose_spec.1 hp).symm) hp
        · exact (ne_of_none s1.choose_spec.choose_spec.1 hp).symm
      refine ⟨_, rfl, b, rfl, ?_⟩
      cases b with
      | true => exact fin 0 H (by decide) (by decide) (fun _ => rfl) Keep.refl hs
      | false =>
        refine iteF ⟨_, rfl, a, 2, rfl, hs, by decide, by decide, fun r H1 r0 r1 k1 s1 => ⟨_, _, rfl, rfl, ?_⟩⟩
        exact fin (1 + r) H1 (by omega) (by omega) (fun z => by cases z) k1 s1
    rintro σ' H1 ⟨n, p, rfl, n0, n2, nb, np, pa, k1, s1, lp1⟩
    let Pv : Nat → L2.St → Hp → Prop := fun i σ' H' => ∃ (xs : List V) (ts : List (Str × Str × Bool)) (t : Option V), σ' = [some (.ref a), some vn, some (.bl b), some (.int n), some (.ref p), t, none] ∧ Keep [a] H H' ∧ Src H' a ∧ H' p = some (.lst xs) ∧ DtAll K H' xs (ts.map testD) ∧ ts.length = i ∧ ∀ s ∈ ts, GoodT ns s
    refine ⟨Pv n.toNat, ?_, ?_⟩
    · refine ⟨_, rfl, n, rfl, by omega, by omega, for_range (lo := 0) Pv ⟨[], [], none, rfl, k1, s1, lp1, .nil, rfl, fun s z => by cases z⟩ ?_ ?_⟩
      · rintro i σ' H3 hi ⟨xs, ts, t, rfl, k3, s3, lp, dx, hts, hg⟩
        refine ⟨_, rfl, .inl ⟨rfl, _, SqL.of lp⟩, _, rfl, _, rfl, a, vn, ns, rfl, s3, dn.k k3, n3, fun v H4 t4 k4 s4 dt gt => ⟨p, xs, v, rfl, rfl, k4 _ _ (by simpa using pa) lp, ?_, ?_⟩⟩
        · rw [dx.length, List.length_map, hts]
          exact Nat.lt_of_lt_of_le (show i < 100 by omega) (by decide)
        · have lp4 := k4 _ _ (by simpa using pa) lp
          have kp : Keep [p] H4 (upd H4 p (.lst (xs ++ [v]))) := Keep.at_ (by simp)
          refine ⟨xs ++ [v], ts ++ [t4], _, rfl, Keep.own (k3.trans k4) np, s4.keep kp (by simpa using pa.symm), upd_same, ?_, by rw [List.length_append, hts]; rfl, ?_⟩
          · rw [List.map_append]
            exact ((dx.keep k4 s3.soft).append (.cons dt .nil)).keep kp (Soft.lst lp4)
          · intro z hz
            rcases List.mem_append.mp hz with hz | hz
            · exact hg z hz
            · rw [List.mem_singleton.mp hz]
              exact gt
      · rintro σ' H3 z
        exact z
    rintro σ' H3 ⟨xs, ts, t, rfl, k3, s3, lp, dx, hts, hg⟩
    have tl : ts.length ≤ 4 := by omega
    have tz : b = true → ts = [] := fun z => by
      have := nb z
      subst this
      exact List.eq_nil_of_length_eq_zero hts
    let M : L2.St → Hp → Prop := fun σ' H' => σ' = [some (.ref a), some vn, some (.bl b), some (.int n), some (.ref p), t, none] ∧ Keep [a] H H' ∧ Src H' a ∧ H' p = some (.lst xs) ∧ DtAll K H' xs (ts.map testD)
    refine ⟨M, ?_, ?_⟩
    · refine ⟨_, rfl, a, 3, rfl, s3, by decide, by decide, fun r H4 r0 r1 k4 s4 => ⟨rfl, _, rfl, ite2 (fun _ => ?_) (fun _ => ?_)⟩⟩
      · have lp4 := k4 _ _ (by simpa using pa) lp
        have dx4 := dx.keep k4 s3.soft
        refine ⟨fun σ' H' => ∃ v ss, σ' = [some (.ref a), some vn, some (.bl b), some (.int n), some (.ref p), t, some v] ∧ Keep [a] H4 H' ∧ Src H' a ∧ Dt K H' v (stepsD ss) ∧ ss.length ≤ 4 ∧ ∀ s ∈ ss, GoodS ns s, ?_, ?_⟩
        · refine ⟨_, rfl, _, rfl, a, vn, ns, 2, rfl, s4, dn.k (k3.trans k4), n3, by decide, by decide, fun v H5 ss k5 s5 ds l5 g5 => ?_⟩
          exact ⟨v, ss, rfl, k5, s5, ds, by omega, g5⟩
        rintro σ' H5 ⟨v, ss, rfl, k5, s5, ds, l5, g5⟩
        have lp5 := k5 _ _ (by simpa using pa) lp4
        have dx5 := dx4.keep k5 s4.soft
        refine ⟨_, rfl, p, xs, rfl, .inl ⟨SqL.of lp5, fun q hq => ?_⟩⟩
        have kq : Keep [] H5 (upd H5 q (.tup xs)) := Keep.new hq
        have s6 := s5.keep kq (by simp)
        have dtq : Dt K (upd H5 q (.tup xs)) (.ref q) (testsD ts) := .tup (SqT.of upd_same) (dx5.k0 kq)
        refine ⟨_, rfl, _, rfl, _, rfl, a, vn, ns, 2, rfl, s6, dn.k (k3.trans (k4.trans (k5.trans (Keep.of_nil kq)))), n3, by decide, by decide, fun v2 H7 ss2 k7 s7 ds2 l7 g7 => ⟨(by show 3 ≤ sizeLine; decide), fun q2 hq2 => ?_⟩⟩
        have kq2 : Keep [] H7 (upd H7 q2 (.tup [.ref q, v, v2])) := Keep.new hq2
        exact k (.ref q2) _ ⟨ts, ss, some ss2⟩ (k3.trans (k4.trans (k5.trans ((Keep.of_nil kq).trans (k7.trans (Keep.of_nil kq2)))))) (s7.keep kq2 (by simp))
          (.tup (SqT.of upd_same) (.cons ((dtq.keep k7 s6.soft).k0 kq2) (.cons (((ds.k0 kq).keep k7 s6.soft).k0 kq2) (.cons (ds2.k0 kq2) .nil))))
          ⟨⟨tl, hg⟩, ⟨l5, g5⟩, fun y z => by cases z; exact ⟨by omega, g7⟩⟩ tz
      · exact ⟨rfl, k3.trans k4, s4, k4 _ _ (by simpa using pa) lp, dx.keep k4 s3.soft⟩
    rintro σ' H4 ⟨rfl, k4, s4, lp4, dx4⟩
    refine ⟨_, rfl, p, xs, rfl, .inl ⟨SqL.of lp4, fun q hq => ?_⟩⟩
    have kq : Keep [] H4 (upd H4 q (.tup xs)) := Keep.new hq
    have s6 := s4.keep kq (by simp)
    have dtq : Dt K (upd H4 q (.tup xs)) (.ref q) (testsD ts) := .tup (SqT.of upd_same) (dx4.k0 kq)
    refine ⟨_, rfl, _, rfl, a, vn, ns, 3, rfl, s6, dn.k (k4.trans (Keep.of_nil kq)), n3, by decide, by decide, fun v2 H7 ss2 k7 s7 ds2 l7 g7 => ⟨(by show 2 ≤ sizeLine; decide), fun q2 hq2 => ?_⟩⟩
    have kq2 : Keep [] H7 (upd H7 q2 (.tup [.ref q, v2])) := Keep.new hq2
    exact k (.ref q2) _ ⟨ts, ss2, none⟩ (k4.trans ((Keep.of_nil kq).trans (k7.trans (Keep.of_nil kq2)))) (s7.keep kq2 (by simp))
      (.tup (SqT.of upd_same) (.cons ((dtq.keep k7 s6.soft).k0 kq2) (.cons (ds2.k0 kq2) .nil)))
      ⟨⟨tl, hg⟩, ⟨by show ss2.length ≤ 4; omega, g7⟩, fun y z => by cases z⟩ tz
end
end La
set_option Elab.async false
set_option linter.all false
set_option maxRecDepth 100000
set_option maxHeartbeats 4000000
namespace La
open PySem PySem.Spec PyProof.Rows L2 SM
section
variable {K : PySem.W.Frag} {m : List Addr} {σ : L2.St} {H : Hp}
mutual
theorem Dl_dt {H : Hp} : ∀ {v : V} {d : PyData}, Dl K H v d → onlyT d = true → Dt K H v d
  | _, _, .non, _ => .non
  | _, _, .bl b, _ => .bl b
  | _, _, .int i, _ => .int i
  | _, _, .str x, _ => .str x
  | _, _, .lst s t, h => by rw [onlyT] at h; cases h
  | _, _, .tup s t, h => .tup s (DlAll_dt t (by rw [onlyT] at h; exact h))
  | _, _, .dic s, h => by rw [onlyT] at h; cases h
theorem DlAll_dt {H : Hp} : ∀ {vs : List V} {ds : List PyData}, DlAll K H vs ds → onlyTs ds = true → DtAll K H vs ds
  | _, _, .nil, _ => .nil
  | _, _, .cons s t, h => by
    rw [onlyTs, Bool.and_eq_true] at h
    exact .cons (Dl_dt s h.1) (DlAll_dt t h.2)
end
theorem onlyT_steps (k : List (Str × Str)) : onlyT (stepsD k) = true := by rw [stepsD, onlyT]; exact onlyTs_all onlyT_step _
theorem onlyT_tests (k : List (Str × Str × Bool)) : onlyT (testsD k) = true := by rw [testsD, onlyT]; exact onlyTs_all onlyT_test _
theorem offsK {n m : List Addr} {H H' : Hp} (k : Keep n H H') : Keep n (off m H) (off m H') := fun b o hn e => by
  obtain ⟨z, e⟩ := off_some e
  rw [off_out z]
  exact k b o hn e
theorem offsS {n m : List Addr} {H : Hp} (s : Soft n H) : Soft n (off m H) := fun b z xs => ⟨fun e => (s b z xs).1 (off_some e).2, fun o e => (s b z xs).2 o (off_some e).2⟩
/-- lines of a rule as data -/
def linesL (ls : List Ln) : PyData := .list (ls.map lnD)
/-- lines.append(..), the new one a line -/
theorem app_line {te : TE} {D : Ends} {p : Addr} {i : Nat} {ys : List V} {ms : List Ln} {z : Ln} (hi : σ[i]? = some (some (.ref p))) (lp : H p = some (.lst ys)) (dx : DtAll K (off m H) ys (ms.map lnD)) (few : ms.length ≤ 50) (h : LlE K m te σ H (lnD z))
    (k : ∀ v H', Keep [p] H H' → H' p = some (.lst (ys ++ [v])) → DtAll K (off m H') (ys ++ [v]) ((ms ++ [z]).map lnD) → D.nx σ H') : tDrop (tBM K "list" rAppend (tVar i) (tCons te tNil)) D σ H := by
  refine ⟨_, hi, .inl ⟨rfl, _, SqL.of lp⟩, h H Keep.refl _ fun v H1 k1 d1 => ⟨p, ys, v, rfl, rfl, k1.to lp, ?_, ?_⟩⟩
  · rw [dx.length, List.length_map]
    exact Nat.lt_of_lt_of_le (show ms.length < 100 by omega) (by decide)
  · have kp : Keep [p] H1 (upd H1 p (.lst (ys ++ [v]))) := Keep.at_ (by simp)
    refine k v _ ((Keep.of_nil k1).trans kp) upd_same ?_
    rw [List.map_append]
    exact ((dx.k0 (offsK k1)).append (.cons (Dl_dt d1 (onlyT_line z)) .nil)).keep (offsK kp) (offsS (Soft.lst (k1.to lp)))
end
theorem any_strs {ns : List Str} (x : Str) : ((ns.map PyData.str).any fun z => PyData.eqv z (.str x)) = decide (x ∈ ns) := any_str x ns
theorem shapedL {ns : List Str} (h : OkN ns) : SeqAt.shaped (.list (ns.map PyData.str)) = true := by
  refine (Lay.list (n := 0) fun d z => ?_).shaped (by decide)
  obtain ⟨s, hs, rfl⟩ := List.mem_map.mp z
  exact .str (h s hs)
theorem eqv_lnil (ds : List PyData) : PyData.eqv (.list ds) (.list []) = ds.isEmpty := by
  cases ds <;> rw [PyData.eqv, PyData.eqvAll] <;> rfl
theorem dpNames {K : PySem.W.Frag} {H : Hp} {a : Addr} {ns : List Str} (h : H a = some (.lst (ns.map .str))) : Dp K H (.ref a) (.list (ns.map .str)) := .lst (SqL.of h) (dpStrs ns)
theorem all1 {α : Type} {P : α → Prop} {a : α} (h : P a) : ∀ x ∈ [a], P x := fun x z => by rw [List.mem_singleton.mp z]; exact h
theorem all2 {α : Type} {P : α → Prop} {a b : α} (h : P a) (h' : P b) : ∀ x ∈ [a, b], P x := fun x z => by
  rcases List.mem_cons.mp z with e | z
  · rw [e]; exact h
  · exact all1 h' x z
theorem all3 {α : Type} {P : α → Prop} {a b c : α} (h : P a) (h' : P b) (h2 : P c) : ∀ x ∈ [a, b, c], P x := fun x z => by
  rcases List.mem_cons.mp z with e | z
  · rw [e]; exact h
  · exact all2 h' h2 x z
theorem all0 {α : Type} {P : α → Prop} : ∀ x ∈ ([] : List α), P x := fun x z => by cases z
theorem gl_mk {ns : List Str} {ts : List (Str × Str × Bool)} {ss : List (Str × Str)} (lt : ts.length ≤ 4) (ht : ∀ t ∈ ts, GoodT ns t) (ls : ss.length ≤ 4) (hs : ∀ s ∈ ss, GoodS ns s) : GoodL ns ⟨ts, ss, none⟩ := ⟨⟨lt, ht⟩, ⟨ls, hs⟩, fun k z => by cases z⟩
theorem gl_ask {ns : List Str} {ts : List (Str × Str × Bool)} {ss kk : List (Str × Str)} (lt : ts.length ≤ 4) (ht : ∀ t ∈ ts, GoodT ns t) (ls : ss.length ≤ 4) (hs : ∀ s ∈ ss, GoodS ns s) (lk : kk.length ≤ 4) (hk : ∀ s ∈ kk, GoodS ns s) : GoodL ns ⟨ts, ss, some kk⟩ := ⟨⟨lt, ht⟩, ⟨ls, hs⟩, fun k z => by cases z; exact ⟨lk, hk⟩⟩
theorem regs_okN {ns : List Str} (h : regsD (ns.map .str) = true) : OkN ns := fun s hs => by
  rw [regsD, Bool.and_eq_true, Bool.and_eq_true] at h
  have := List.all_eq_true.mp h.2.1 _ (List.mem_map_of_mem hs)
  rw [isName, Bool.and_eq_true] at this
  exact word_ok this.1
theorem ll_ife {K : PySem.W.Frag} {m : List Addr} {σ : L2.St} {H0 : Hp} {c : TT} {ta tb : TE} {d : PyData} {b : Bool} (hc : ∀ H1, Keep [] H0 H1 → ∀ Q : Bool → Hp → Prop, Q b H1 → c σ H1 Q) (h : b = true → LlE K m ta σ H0 d) (h' : b = false → LlE K m tb σ H0 d) : LlE K m (tIf c ta tb) σ H0 d := by
  intro H k0 Q k
  refine hc H k0 _ ?_
  cases b with
  | true => exact iteT (h rfl H k0 Q k)
  | false => exact iteF (h' rfl H k0 Q k)
/-- the lines of a rule that keeps most changes -/
def spGood2 (K : PySem.W.Frag) : Sp := fun vs H Q _ => ∃ (m : List Addr) (vn : V) (ns : List Str), vs = [vn] ∧ Live m H ∧ Dl K (off m H) vn (nsD ns) ∧ regsD (ns.map .str) = true ∧
  ∀ v H' ms, Keep [] H H' → Dl K (off m H') v (linesL ms) → VRule ns ms → ms.length ≤ 7 → Q v H'
section
variable {P : Program} {w : World} {K : PySem.W.Frag} {mg : Str → Option Value} {base : Heap}
abbrev s__law_good : Stmt := (top 69)
abbrev N__law_good : List Str := ["names", "own", "name", "aside", "lines", "was", "plan", "take", "both", "moved_on"]
abbrev P__law_good : List Str := ["names"]
theorem sc__law_good : FnScope N__law_good P__law_good (defScope s__law_good) := ⟨rfl, rfl, rfl, by decide +kernel, rfl, by decide +kernel, by decide +kernel⟩
theorem D_law_good (W : Cw fas fns K mg) : DefOk P w K mg base CX0 1 "_law_good" P__law_good (spGood2 K) := by
  refine DefOk.of W 26 58 (st := s__law_good) rfl rfl sc__law_good (fun _ _ _ _ _ _ us hl => match us, hl with | [_], _ => rfl) (fun vs H Q E h => ?_) (fun cdv A outer s H vs Q E hr h => ?_)
  · obtain ⟨m, vn, ns, rfl, _⟩ := h
    rfl
  · obtain ⟨m, vn, ns, rfl, lv, dn, hreg, k⟩ := h
    have n3 := nsLen hreg
    have okn := regs_okN hreg
    obtain ⟨na, rfl, hna'⟩ := dn.names
    have hna := (off_some hna').2
    refine ⟨_, PSs.nox (Evl.pss_cut (ps_setLc (i := 1) (own := [("name", 2)]) (g := gName 2) (tt := tTest (tOp (SM.rNotInA K) (tVar 2) (tLst (tCons (tC (.str "beside")) (tCons (tC (.str "elder")) tNil))))) (by rfl) sc__law_good.nd rfl rfl (sw_true rfl rfl rfl (by decide +kernel)) (pi_list (pv 0)) (blkOk_by (own := [("name", 2)]) (N := N__law_good) (sc := defScope s__law_good) (by decide +kernel)) (fun _ _ _ _ _ => pg_name (i := 2) sc__law_good.nd rfl (Or.inl rfl)) (fun _ _ _ _ _ => pts_one (pt_cmpR (SM.op_notInA (SM.units65 hr)) (pv 2) (pe_lst (pa_cons pe_str (pa_cons pe_str pa_nil))) (by rfl))) (fun _ _ _ _ _ => (pv 2))) (Evl.pss_cut (ps_if (pt_cmpR (op_eqD hr.units) (pv 1) (pe_lst pa_nil) (nomark _)) (Evl.pss_cut (ps_set (i := 3) sc__law_good.nd rfl (by first | exact Or.inl rfl | exact Or.inr rfl) (pe_ifExp (pt_cmpR (SM.op_inA (SM.units65 hr)) pe_str (pv 0) (by rfl)) (pe_tup (pa_cons (pe_tup (pa_cons pe_str (pa_cons pe_str pa_nil))) pa_nil)) (pe_tup pa_nil))) (Evl.pss_cut (ps_set (i := 4) sc__law_good.nd rfl (by first | exact Or.inl rfl | exact Or.inr rfl) (pe_lst (pa_cons (pe_tup (pa_cons (pe_tup (pa_cons (pe_tup (pa_cons pe_str (pa_cons pe_str (pa_cons pe_bl pa_nil)))) pa_nil)) (pa_cons (pe_tup pa_nil) pa_nil))) (pa_cons (pe_tup (pa_cons (pe_tup (pa_cons (pe_tup (pa_cons pe_str (pa_cons pe_str (pa_cons pe_bl pa_nil)))) pa_nil)) (pa_cons (pe_tup (pa_cons (pe_tup (pa_cons pe_str (pa_cons pe_str pa_nil))) pa_nil)) pa_nil))) pa_nil)))) (pss_one (ps_ret (pe_op op_cat (pv 4) (pe_lst (pa_cons (pe_tup (pa_cons (pe_tup pa_nil) (pa_cons (pe_op op_catA (pv 3) (pe_tup (pa_cons (pe_tup (pa_cons pe_str (pa_cons pe_str pa_nil))) pa_nil))) (pa_cons (pe_tup pa_nil) pa_nil)))) pa_nil))))))) pss_nil) (Evl.pss_cut (ps_par (i := 5) (j := 6) (by rfl) sc__law_good.nd rfl rfl (by decide) rfl rfl (pa_cons (pe_ix ix_seq (pv 1) pe_int (fun _ _ => rfl)) (pa_cons (pe_ix ix_seq (pv 1) (pe_un un_neg pe_int) (fun _ _ => rfl)) pa_nil)) (by rfl)) (Evl.pss_cut (ps_par3 (i := 7) (j := 8) (l := 4) (by rfl) sc__law_good.nd rfl rfl rfl (by decide) (by decide) (by decide) rfl rfl rfl (pa_cons (pe_tup (pa_cons (pe_tup (pa_cons pe_str (pa_cons pe_str pa_nil))) (pa_cons (pe_tup (pa_cons (pv 5) (pa_cons pe_str pa_nil))) pa_nil))) (pa_cons (pe_tup (pa_cons (pe_tup (pa_cons (pv 5) (pa_cons pe_str pa_nil))) pa_nil)) (pa_cons (pe_lst pa_nil) pa_nil))) (by rfl)) (Evl.pss_cut (ps_if (pt_cmpR op_ne (pv 6) (pv 5) (nomark _)) (pss_one (ps_par (i := 7) (j := 8) (by rfl) sc__law_good.nd rfl rfl (by decide) rfl rfl (pa_cons (pe_op op_catA (pe_tup (pa_cons (pe_tup (pa_cons (pv 6) (pa_cons pe_str pa_nil))) pa_nil)) (pv 7)) (pa_cons (pe_tup (pa_cons (pe_tup (pa_cons (pv 6) (pa_cons pe_str pa_nil))) (pa_cons (pe_tup (pa_cons (pv 5) (pa_cons pe_str pa_nil))) pa_nil))) pa_nil)) (by rfl))) pss_nil) (Evl.pss_cut (ps_if (pt_cmpR (SM.op_inA (SM.units65 hr)) pe_str (pv 0) (by rfl)) (Evl.pss_cut (ps_set (i := 9) sc__law_good.nd rfl (by first | exact Or.inl rfl | exact Or.inr rfl) (pe_tup (pa_cons (pe_tup (pa_cons pe_str (pa_cons pe_str (pa_cons pe_bl pa_nil)))) (pa_cons (pe_tup (pa_cons pe_str (pa_cons (pv 5) (pa_cons pe_bl pa_nil)))) pa_nil)))) (Evl.pss_cut (ps_expr (pe_bm PySem.F.plainAttrs_list PySem.F.slot_list_append PySem.F.type_list_append mt_append (pv 4) (pa_cons (pe_tup (pa_cons (pv 9) (pa_cons (pe_tup (pa_cons (pe_tup (pa_cons pe_str (pa_cons pe_str pa_nil))) (pa_cons (pe_tup (pa_cons (pv 5) (pa_cons pe_str pa_nil))) (pa_cons (pe_tup (pa_cons pe_str (pa_cons pe_str pa_nil))) pa_nil)))) pa_nil))) pa_nil))) (Evl.pss_cut (ps_set (i := 9) sc__law_good.nd rfl (by first | exact Or.inl rfl | exact Or.inr rfl) (pe_tup (pa_cons (pe_tup (pa_cons pe_str (pa_cons pe_str (pa_cons pe_bl pa_nil)))) (pa_cons (pe_tup (pa_cons pe_str (pa_cons pe_str (pa_cons pe_bl pa_nil)))) pa_nil)))) (pss_one (ps_expr (pe_bm PySem.F.plainAttrs_list PySem.F.slot_list_append PySem.F.type_list_append mt_append (pv 4) (pa_cons (pe_tup (pa_cons (pv 9) (pa_cons (pe_tup (pa_cons (pe_tup (pa_cons pe_str (pa_cons pe_str pa_nil))) (pa_cons (pe_tup (pa_cons pe_str (pa_cons pe_str pa_nil))) (pa_cons (pe_tup (pa_cons (pv 5) (pa_cons pe_str pa_nil))) pa_nil)))) pa_nil))) pa_nil))))))) pss_nil) (Evl.pss_cut (ps_expr (pe_bm PySem.F.plainAttrs_list PySem.F.slot_list_append PySem.F.type_list_append mt_append (pv 4) (pa_cons (pe_tup (pa_cons (pe_tup (pa_cons (pe_tup (pa_cons pe_str (pa_cons (pv 5) (pa_cons pe_bl pa_nil)))) pa_nil)) (pa_cons (pv 7) pa_nil))) pa_nil))) (Evl.pss_cut (ps_if (pt_cmpR op_ne (pv 6) (pv 5) (nomark _)) (pss_one (ps_expr (pe_bm PySem.F.plainAttrs_list PySem.F.slot_list_append PySem.F.type_list_append mt_append (pv 4) (pa_cons (pe_tup (pa_cons (pe_tup (pa_cons (pe_tup (pa_cons pe_str (pa_cons (pv 6) (pa_cons pe_bl pa_nil)))) pa_nil)) (pa_cons (pe_op op_catA (pe_tup (pa_cons (pe_tup (pa_cons (pv 5) (pa_cons pe_str pa_nil))) pa_nil)) (pv 7)) pa_nil))) pa_nil)))) pss_nil) (Evl.pss_cut (ps_expr (pe_bm PySem.F.plainAttrs_list PySem.F.slot_list_append PySem.F.type_list_append mt_append (pv 4) (pa_cons (pe_tup (pa_cons (pe_tup (pa_cons (pe_tup (pa_cons pe_str (pa_cons pe_str (pa_cons pe_bl pa_nil)))) pa_nil)) (pa_cons (pv 8) pa_nil))) pa_nil))) (Evl.pss_cut (ps_expr (pe_bm PySem.F.plainAttrs_list PySem.F.slot_list_append PySem.F.type_list_append mt_append (pv 4) (pa_cons (pe_tup (pa_cons (pe_tup (pa_cons (pe_tup (pa_cons pe_str (pa_cons (pv 5) (pa_cons pe_bl pa_nil)))) pa_nil)) (pa_cons (pe_ifExp (pt_cmpR op_ne (pv 6) (pv 5) (nomark _)) (pe_tup (pa_cons (pe_tup (pa_cons (pv 6) (pa_cons (pv 5) pa_nil))) pa_nil)) (pe_tup pa_nil)) pa_nil))) pa_nil))) (Evl.pss_cut (ps_expr (pe_bm PySem.F.plainAttrs_list PySem.F.slot_list_append PySem.F.type_list_append mt_append (pv 4) (pa_cons (pe_ifExp (pt_cmpR (SM.op_inA (SM.units65 hr)) pe_str (pv 0) (by rfl)) (pe_tup (pa_cons (pe_tup pa_nil) (pa_cons (pe_op op_catA (pe_tup (pa_cons (pe_tup (pa_cons pe_str (pa_cons pe_str pa_nil))) pa_nil)) (pv 7)) pa_nil))) (pe_tup (pa_cons (pe_tup pa_nil) (pa_cons (pv 7) (pa_cons (pv 8) pa_nil))))) pa_nil))) (pss_one (ps_ret (pv 4)))))))))))))), ?_⟩
    refine ⟨fun σ' H' => ∃ ow, σ' = [some (.ref na), some (.ref ow), none, none, none, none, none, none, none, none] ∧ Keep [] H H' ∧ ow ∉ m ∧ H' ow = some (.lst ((ns.filter fun s => !isPlace s).map .str)), ?_, ?_⟩
    · refine ⟨_, rfl, na, rfl, ⟨_, SqL.of hna⟩, fun D hD => lcFL (f := fun s => !isPlace s) (Nat.le_of_ble_eq_true rfl) (SqL.of hna) (by omega) hD (fun H2 k2 z hz Q2 q2 => ?_) fun H' k' e' => ?_⟩
      · refine ⟨_, rfl, (by show 2 ≤ sizeLine; decide), fun q hq => .inl ⟨.str z, [.str "beside", .str "elder"], .str z, .lst (SqL.of upd_same) (.cons (.str _) (.cons (.str _) .nil)), shaped_str (okn z hz), (by decide +kernel), _, rfl, ?_⟩⟩
        rw [places_any]
        exact q2 _ (Keep.new hq)
      · exact ⟨D, rfl, k', lv.out hD, e'⟩
    rintro σ' H1 ⟨ow, rfl, k1, npo, how⟩
    have own_in : ∀ s ∈ ns.filter (fun s => !isPlace s), s ∈ ns := fun s hs => (List.mem_filter.mp hs).1
    have okw : OkN (ns.filter fun s => !isPlace s) := fun s hs => okn s (own_in s hs)
    generalize ns.filter (fun s => !isPlace s) = own at how own_in okw
    have lv1 := lv.keep k1
    have dn1 : ∀ {H' : Hp}, Keep [] H1 H' → Dp K H' (.ref na) (.list (ns.map .str)) := fun kk => dpNames (kk _ _ (by simp) (k1 _ _ (by simp) hna))
    have hasP : ∀ (x : Str) {H' : Hp} {σ : L2.St} {Q : Bool → Hp → Prop}, PyData.strOk x = true → σ[0]? = some (some (.ref na)) → Keep [] H1 H' → Q (decide (x ∈ ns)) H' → tTest (tOp (SM.rInA K) (tC (.str x)) (tVar 0)) σ H' Q := by
      intro x H' σ Q ox hi kk q
      refine ⟨_, hi, .inl ⟨.str x, ns.map .str, .str x, dn1 kk, shaped_str ox, shapedL okn, _, rfl, ?_⟩⟩
      rw [any_strs]
      exact q
    let M1 : L2.St → Hp → Prop := fun σ' H' => σ' = [some (.ref na), some (.ref ow), none, none, none, none, none, none, none, none] ∧ Keep [] H1 H' ∧ own ≠ []
    refine ⟨M1, ?_, ?_⟩
    · refine ⟨_, rfl, Nat.zero_le _, fun q hq => ?_⟩
      have kq : Keep [] H1 (upd H1 q (.lst [])) := Keep.new hq
      refine ⟨.list (own.map .str), .list [], dpNames (kq.to how), .lst (SqL.of upd_same) .nil, shapedL okw, (by decide +kernel), _, rfl, ?_⟩
      rw [eqv_lnil]
      cases own with
      | cons o os => exact ⟨rfl, kq, List.cons_ne_nil _ _⟩
      | nil =>
        have lvq := lv1.keep kq
        refine iteT ?_
        refine ⟨fun σ' H' => ∃ va ss, σ' = [some (.ref na), some (.ref ow), none, some va, none, none, none, none, none, none] ∧ Keep [] H1 H' ∧ Dl K (off m H') va (stepsD ss) ∧ ss.length ≤ 1 ∧ ∀ s ∈ ss, GoodS ns s, ?_, ?_⟩
        · refine rd_asg (rd_ife (hasP "beside" (by decide +kernel) rfl kq (ite2 (fun hb => ?_) (fun _ => ?_))))
          · have hb' : ("beside" : Str) ∈ ns := of_decide_eq_true hb
            refine LlE.tup (m := m) (K := K) (ds := [stepD ("beside", "here")]) lvq (by repeat' first | exact LlA.nil | refine LlA.cons ?_ ?_ | exact LlE.str | exact LlE.bl | exact LlE.var rfl (.str _) | refine LlE.lst lvq ?_ | refine LlE.tup lvq ?_) rfl _ Keep.refl _ fun v H' k' d => ?_
            exact ⟨v, [("beside", "here")], rfl, kq.trans k', d, by decide, all1 ⟨.inr hb', .inr (.inl rfl)⟩⟩
          · refine LlE.tup (m := m) (K := K) (ds := []) lvq .nil rfl _ Keep.refl _ fun v H' k' d => ?_
            exact ⟨v, [], rfl, kq.trans k', d, by decide, all0⟩
        rintro σ' H2 ⟨va, ss, rfl, k2, da, ls, gs⟩
        have lv2 := lv1.keep k2
        let z1 : Ln := ⟨[("here", "new", true)], [], none⟩
        let z2 : Ln := ⟨[("here", "nothing", true)], [("here", "new")], none⟩
        refine ⟨fun σ' H' => ∃ vl, σ' = [some (.ref na), some (.ref ow), none, some va, some vl, none, none, none, none, none] ∧ Keep [] H2 H' ∧ Dl K (off m H') vl (.list [lnD z1, lnD z2]), ?_, ?_⟩
        · refine rd_asg (LlE.lst (m := m) (K := K) (ds := [lnD z1, lnD z2]) lv2 (by repeat' first | exact LlA.nil | refine LlA.cons ?_ ?_ | exact LlE.str | exact LlE.bl | exact LlE.var rfl (.str _) | refine LlE.lst lv2 ?_ | refine LlE.tup lv2 ?_) rfl H2 Keep.refl _ fun v H' k' d => ?_)
          exact ⟨v, rfl, k', d⟩
        rintro σ' H3 ⟨vl, rfl, k3, dl⟩
        have lv3 := lv2.keep k3
        have da3 := da.k0 k3
        let z3 : Ln := ⟨[], ss ++ ([("here", "new")] : List (Str × Str)), some []⟩
        refine rd_ret (LlE.cat (K := K) (m := m) (ds := [lnD z1, lnD z2]) (es := [lnD z3]) lv3 (.var rfl dl) (LlE.lst lv3 (.cons (LlE.tup (ds := [testsD [], stepsD (ss ++ ([("here", "new")] : List (Str × Str))), stepsD []]) lv3 (.cons (LlE.tup (ds := []) lv3 .nil) (.cons (LlE.cast (LlE.catA (ds := ss.map stepD) (es := [stepD ("here", "new")]) lv3 (.var rfl da3) (LlE.tup lv3 (by repeat' first | exact LlA.nil | refine LlA.cons ?_ ?_ | exact LlE.str | exact LlE.bl | exact LlE.var rfl (.str _) | refine LlE.lst lv3 ?_ | refine LlE.tup lv3 ?_) rfl) ?_) ?_) (.cons (LlE.tup (ds := []) lv3 .nil) .nil)))) .nil) rfl) (Nat.le_of_ble_eq_true rfl) H3 Keep.refl _ fun v H' k' d => ?_)
        · rw [List.length_map]
          show ss.length + 1 ≤ 100
          omega
        · rw [stepsD, List.map_append]
          rfl
        · refine k v H' [z1, z2, z3] (k1.trans (k2.trans (k3.trans k'))) d ⟨hreg, ⟨Nat.le_of_ble_eq_true rfl, Nat.le_of_ble_eq_true rfl⟩, ?_, ?_⟩ (Nat.le_of_ble_eq_true rfl)
          · refine all3 ?_ ?_ ?_
            · exact gl_mk (by decide) (all1 ⟨.inl rfl, .inl rfl⟩) (by decide) all0
            · exact gl_mk (by decide) (all1 ⟨.inl rfl, .inr (.inr (.inl rfl))⟩) (by decide) (all1 ⟨.inl rfl, .inl rfl⟩)
            · refine gl_ask (by decide) all0 ?_ ?_ (by decide) all0
              · rw [List.length_append]
                show ss.length + 1 ≤ 4
                omega
              · intro s hs
                rcases List.mem_append.mp hs with hs | hs
                · exact gs s hs
                · exact all1 (P := GoodS ns) ⟨.inl rfl, .inl rfl⟩ s hs
          · intro z hz
            have : z = z3 := by
              have e : ([z1, z2, z3] : List Ln)[2]? = some z := hz
              simpa using e.symm
            rw [this]
    rintro σ' H2 ⟨rfl, k2, own0⟩
    have k02 : Keep [] H H2 := k1.trans k2
    have lv2 := lv1.keep k2
    have how2 := k2 _ _ (by simp) how
    obtain ⟨wa, hwa⟩ : ∃ wa, own[0]? = some wa := by
      cases own with
      | nil => exact absurd rfl own0
      | cons o os => exact ⟨o, rfl⟩
    have ol : 0 < own.length := List.length_pos_iff.mpr own0
    obtain ⟨pl, hpl⟩ : ∃ pl, own[own.length - 1]? = some pl := ⟨own[own.length - 1]'(by omega), List.getElem?_eq_getElem _⟩
    have wi : wa ∈ ns := own_in _ (List.mem_of_getElem? hwa)
    have pi : pl ∈ ns := own_in _ (List.mem_of_getElem? hpl)
    have dow : Dl K (off m H2) (.ref ow) (.list (own.map .str)) := .lst (by rw [off_out npo]; exact how2) (DlAll.strs own)
    refine ⟨fun σ' H' => σ' = [some (.ref na), some (.ref ow), none, none, none, some (.str wa), some (.str pl), none, none, none] ∧ Keep [] H2 H', ?_, ?_⟩
    · refine rd_par (rd_cons (LlE.ixL (K := K) (m := m) (n := 0) (i := 0) (d := .str wa) (.var rfl dow) (fun H1 Q q => q) (by rw [List.getElem?_map, hwa]; rfl) (.inl rfl) H2 Keep.refl _ fun v H3 k3 d3 => rd_cons (LlE.ixL (K := K) (m := m) (n := own.length - 1) (i := -1) (d := .str pl) (.var rfl dow) (fun H1 Q q => ⟨_, rfl, q⟩) (by rw [List.getElem?_map, hpl]; rfl) (.inr ⟨rfl, by rw [List.length_map]⟩) H3 k3 _ fun u H4 k4 d4 => ?_)))
      cases d3
      cases d4
      exact ⟨_, _, rfl, rfl, k3.trans k4⟩
    rintro σ' H3 ⟨rfl, k3⟩
    have lv3 := lv2.keep k3
    let S : V → V → V → Option V → L2.St := fun vl vt vb mo => [some (.ref na), some (.ref ow), none, none, some vl, some (.str wa), some (.str pl), some vt, some vb, mo]
    let tk : List (Str × Str) := [("here", "new"), (wa, "new")]
    let bt : List (Str × Str) := [(wa, "new")]
    have gtk : tk.length ≤ 3 ∧ ∀ s ∈ tk, GoodS ns s := ⟨Nat.le_of_ble_eq_true rfl, all2 ⟨.inl rfl, .inl rfl⟩ ⟨.inr wi, .inl rfl⟩⟩
    have gbt : bt.length ≤ 2 ∧ ∀ s ∈ bt, GoodS ns s := ⟨Nat.le_of_ble_eq_true rfl, all1 ⟨.inr wi, .inl rfl⟩⟩
    refine ⟨fun σ' H' => ∃ vt vb p, σ' = S (.ref p) vt vb none ∧ Keep [] H3 H' ∧ H3 p = none ∧ p ∉ m ∧ H' p = some (.lst []) ∧ Dt K (off m H') vt (stepsD tk) ∧ Dt K (off m H') vb (stepsD bt), ?_, ?_⟩
    · refine show tCons _ _ _ _ _ from rd_cons (LlE.tup (m := m) (K := K) (ds := tk.map stepD) lv3 (by repeat' first | exact LlA.nil | refine LlA.cons ?_ ?_ | exact LlE.str | exact LlE.bl | exact LlE.var rfl (.str _) | refine LlE.lst lv3 ?_ | refine LlE.tup lv3 ?_) rfl H3 Keep.refl _ fun vt H4 k4 dt => rd_cons (LlE.tup (m := m) (K := K) (ds := bt.map stepD) lv3 (by repeat' first | exact LlA.nil | refine LlA.cons ?_ ?_ | exact LlE.str | exact LlE.bl | exact LlE.var rfl (.str _) | refine LlE.lst lv3 ?_ | refine LlE.tup lv3 ?_) rfl H4 k4 _ fun vb H5 k5 db => ⟨Nat.zero_le _, fun p hp => ?_⟩))
      have kp : Keep [] H5 (upd H5 p (.lst [])) := Keep.new hp
      have kk := k4.trans k5
      exact ⟨_, _, _, rfl, vt, vb, p, rfl, kk.trans kp, kk.free (by simp) hp, (lv3.keep kk).out hp, upd_same, Dl_dt ((dt.k0 k5).k0 kp) (onlyT_steps _), Dl_dt (db.k0 kp) (onlyT_steps _)⟩
    rintro σ' H4 ⟨vt, vb, p, rfl, k4, np, pm, lp4, dt4, db4⟩
    have lv4 := lv3.keep k4
    have k04 : Keep [] H H4 := (k02.trans k3).trans k4
    have np0 : H p = none := (k02.trans k3).free (by simp) np
    let M4 : L2.St → Hp → Prop := fun σ' H' => ∃ vt vb ta ba, σ' = S (.ref p) vt vb none ∧ Keep [] H4 H' ∧ Dt K (off m H') vt (stepsD ta) ∧ Dt K (off m H') vb (stepsD ba) ∧ (ta.length ≤ 3 ∧ ∀ s ∈ ta, GoodS ns s) ∧ (ba.length ≤ 2 ∧ ∀ s ∈ ba, GoodS ns s)
    refine ⟨M4, ?_, ?_⟩
    · refine ⟨_, rfl, _, rfl, rfl, _, rfl, ite2 (fun _ => ?_) (fun _ => ⟨vt, vb, tk, bt, rfl, Keep.refl, dt4, db4, gtk, gbt⟩)⟩
      let tk2 : List (Str × Str) := (pl, "new") :: tk
      let bt2 : List (Str × Str) := [(pl, "new"), (wa, "new")]
      refine rd_par (rd_cons (LlE.catA (m := m) (K := K) (ds := [stepD (pl, "new")]) (es := tk.map stepD) lv4 (LlE.tup lv4 (by repeat' first | exact LlA.nil | refine LlA.cons ?_ ?_ | exact LlE.str | exact LlE.bl | exact LlE.var rfl (.str _) | refine LlE.lst lv4 ?_ | refine LlE.tup lv4 ?_) rfl) (.var rfl dt4.dl) (Nat.le_of_ble_eq_true rfl) H4 Keep.refl _ fun v H5 k5 d5 => rd_cons (LlE.tup (m := m) (K := K) (ds := bt2.map stepD) lv4 (by repeat' first | exact LlA.nil | refine LlA.cons ?_ ?_ | exact LlE.str | exact LlE.bl | exact LlE.var rfl (.str _) | refine LlE.lst lv4 ?_ | refine LlE.tup lv4 ?_) rfl H5 k5 _ fun u H6 k6 d6 => ?_)))
      exact ⟨_, _, rfl, v, u, tk2, bt2, rfl, k5.trans k6, Dl_dt (d5.k0 k6) (onlyT_steps tk2), Dl_dt d6 (onlyT_steps bt2), ⟨Nat.le_of_ble_eq_true rfl, all3 ⟨.inr pi, .inl rfl⟩ ⟨.inl rfl, .inl rfl⟩ ⟨.inr wi, .inl rfl⟩⟩, ⟨Nat.le_of_ble_eq_true rfl, all2 ⟨.inr pi, .inl rfl⟩ ⟨.inr wi, .inl rfl⟩⟩⟩
    rintro σ' H5 ⟨vt, vb, ta, ba, rfl, k5, dt5, db5, gta, gba⟩
    have lv5 := lv4.keep k5
    have k05 : Keep [] H H5 := k04.trans k5
    have lp5 := k5 _ _ (by simp) lp4
    -- the lines as they grow
    let N : Nat → L2.St → Hp → Prop := fun n σ' H' => ∃ (mo : Option V) (ys : List V) (ms : List Ln), σ' = S (.ref p) vt vb mo ∧ Keep [p] H5 H' ∧ H' p = some (.lst ys) ∧ DtAll K (off m H') ys (ms.map lnD) ∧ ms.length ≤ n ∧ ∀ z ∈ ms, GoodL ns z
    have persist : ∀ {H' ys}, Keep [p] H5 H' → H' p = some (.lst ys) → Live m H' ∧ Keep [] H1 H' ∧ Dl K (off m H') vt (stepsD ta) ∧ Dl K (off m H') vb (stepsD ba) := by
      intro H' ys kk lp
      refine ⟨fun b hb e => ?_, fun b o _ e => kk b o ?_ (((k2.trans k3).trans (k4.trans k5)) b o (by simp) e), (dt5.keep (offsK kk) (offsS (Soft.lst lp5))).dl, (db5.keep (offsK kk) (offsS (Soft.lst lp5))).dl⟩
      · cases h : H5 b with
        | none => exact lv5 b hb h
        | some o =>
          rw [kk b o (by rw [List.mem_singleton]; exact fun z => pm (z ▸ hb)) h] at e
          cases e
      · rw [List.mem_singleton]
        intro z
        rw [z] at e
        rw [(k2.trans k3).free (by simp) np] at e
        cases e
    have addL : ∀ {n : Nat} {mo : Option V} {ys : List V} {ms : List Ln} {z : Ln} {te : TE} {H' : Hp} {D : Ends}, Keep [p] H5 H' → H' p = some (.lst ys) → DtAll K (off m H') ys (ms.map lnD) → ms.length ≤ n → n ≤ 40 → (∀ z ∈ ms, GoodL ns z) → GoodL ns z → LlE K m te (S (.ref p) vt vb mo) H' (lnD z) →
        (∀ σ H, N (n + 1) σ H → D.nx σ H) → tDrop (tBM K "list" rAppend (tVar 4) (tCons te tNil)) D (S (.ref p) vt vb mo) H' := by
      intro n mo ys ms z te H' D kk lp dx hn n40 hg gz he hk
      refine app_line (K := K) (m := m) (z := z) rfl lp dx (by omega) he fun v H2 kp lp2 dx2 => hk _ _ ⟨mo, _, ms ++ [z], rfl, kk.trans kp, lp2, dx2, ?_, ?_⟩
      · rw [List.length_append]
        show ms.length + 1 ≤ n + 1
        omega
      · intro y hy
        rcases List.mem_append.mp hy with hy | hy
        · exact hg y hy
        · rw [List.mem_singleton.mp hy]
          exact gz
    refine ⟨N 2, ?_, ?_⟩
    · refine rd_if (hasP "elder" (by decide +kernel) rfl ((k2.trans k3).trans (k4.trans k5)) (ite2 (fun hb => ?_) (fun _ => ⟨none, [], [], rfl, Keep.refl, lp5, .nil, Nat.zero_le _, all0⟩)))
      have hel : ("elder" : Str) ∈ ns := of_decide_eq_true hb
      let t1 : List (Str × Str × Bool) := [("here", "nothing", true), ("elder", wa, true)]
      let t2 : List (Str × Str × Bool) := [("here", "nothing", true), ("elder", "nothing", false)]
      refine ⟨fun σ' H' => ∃ mo, σ' = S (.ref p) vt vb (some mo) ∧ Keep [] H5 H' ∧ Dl K (off m H') mo (testsD t1), ?_, ?_⟩
      · refine rd_asg (LlE.tup (m := m) (K := K) (ds := t1.map testD) lv5 (by repeat' first | exact LlA.nil | refine LlA.cons ?_ ?_ | exact LlE.str | exact LlE.bl | exact LlE.var rfl (.str _) | refine LlE.lst lv5 ?_ | refine LlE.tup lv5 ?_) rfl H5 Keep.refl _ fun v H' k' d => ?_)
        exact ⟨v, rfl, k', d⟩
      rintro σ' H6 ⟨mo, rfl, k6, d6⟩
      have lp6 := k6 _ _ (by simp) lp5
      have lv6 := lv5.keep k6
      refine ⟨N 1, ?_, ?_⟩
      · refine addL (n := 0) (z := ⟨t1, [("here", "new"), (wa, "new"), ("elder", "nothing")], none⟩) (Keep.of_nil k6) lp6 .nil (Nat.le_refl _) (by decide) all0 (gl_mk (Nat.le_of_ble_eq_true rfl) (all2 ⟨.inl rfl, .inr (.inr (.inl rfl))⟩ ⟨.inr (.inr hel), .inr (.inr (.inr wi))⟩) (Nat.le_of_ble_eq_true rfl) (all3 ⟨.inl rfl, .inl rfl⟩ ⟨.inr wi, .inl rfl⟩ ⟨.inr hel, .inr (.inr (.inl rfl))⟩)) ?_ (fun _ _ z => z)
        exact LlE.tup (ds := [testsD t1, stepsD [("here", "new"), (wa, "new"), ("elder", "nothing")]]) lv6 (.cons (.var rfl d6) (.cons (LlE.tup (ds := ([("here", "new"), (wa, "new"), ("elder", "nothing")] : List (Str × Str)).map stepD) lv6 (by repeat' first | exact LlA.nil | refine LlA.cons ?_ ?_ | exact LlE.str | exact LlE.bl | exact LlE.var rfl (.str _) | refine LlE.lst lv6 ?_ | refine LlE.tup lv6 ?_) rfl) .nil)) rfl
      rintro σ' H7 ⟨mo7, y7, m7, rfl, k7, lp7, dx7, hm7, hg7⟩
      obtain ⟨lv7, _, _, _⟩ := persist k7 lp7
      refine ⟨fun σ' H' => ∃ mo, σ' = S (.ref p) vt vb (some mo) ∧ Keep [] H7 H' ∧ Dl K (off m H') mo (testsD t2), ?_, ?_⟩
      · refine rd_asg (LlE.tup (m := m) (K := K) (ds := t2.map testD) lv7 (by repeat' first | exact LlA.nil | refine LlA.cons ?_ ?_ | exact LlE.str | exact LlE.bl | exact LlE.var rfl (.str _) | refine LlE.lst lv7 ?_ | refine LlE.tup lv7 ?_) rfl H7 Keep.refl _ fun v H' k' d => ?_)
        exact ⟨v, rfl, k', d⟩
      rintro σ' H8 ⟨mo8, rfl, k8, d8⟩
      have lp8 := k8 _ _ (by simp) lp7
      have lv8 := lv7.keep k8
      refine addL (n := 1) (z := ⟨t2, [("here", "elder"), ("elder", "nothing"), (wa, "new")], none⟩) (k7.trans (Keep.of_nil k8)) lp8 (dx7.k0 (offsK k8)) hm7 (by decide) hg7 (gl_mk (Nat.le_of_ble_eq_true rfl) (all2 ⟨.inl rfl, .inr (.inr (.inl rfl))⟩ ⟨.inr (.inr hel), .inr (.inr (.inl rfl))⟩) (Nat.le_of_ble_eq_true rfl) (all3 ⟨.inl rfl, .inr (.inr (.inr hel))⟩ ⟨.inr hel, .inr (.inr (.inl rfl))⟩ ⟨.inr wi, .inl rfl⟩)) ?_ (fun _ _ z => z)
      exact LlE.tup (ds := [testsD t2, stepsD [("here", "elder"), ("elder", "nothing"), (wa, "new")]]) lv8 (.cons (.var rfl d8) (.cons (LlE.tup (ds := ([("here", "elder"), ("elder", "nothing"), (wa, "new")] : List (Str × Str)).map stepD) lv8 (by repeat' first | exact LlA.nil | refine LlA.cons ?_ ?_ | exact LlE.str | exact LlE.bl | exact LlE.var rfl (.str _) | refine LlE.lst lv8 ?_ | refine LlE.tup lv8 ?_) rfl) .nil)) rfl
    rintro σ' H6 ⟨mo, ys, ms, rfl, k6, lp6, dx6, hm6, hg6⟩
    refine ⟨N 3, ?_, ?_⟩
    · obtain ⟨lv, _, dt, db⟩ := persist k6 lp6
      refine addL (n := 2) (z := ⟨[("here", wa, true)], ta, none⟩) k6 lp6 dx6 hm6 (by decide) hg6 (gl_mk (Nat.le_of_ble_eq_true rfl) (all1 ⟨.inl rfl, .inr (.inr (.inr wi))⟩) (by omega) gta.2) ?_ (fun _ _ z => z)
      exact LlE.tup (ds := [testsD [("here", wa, true)], stepsD ta]) lv (.cons (LlE.tup (ds := ([("here", wa, true)] : List (Str × Str × Bool)).map testD) lv (by repeat' first | exact LlA.nil | refine LlA.cons ?_ ?_ | exact LlE.str | exact LlE.bl | exact LlE.var rfl (.str _) | refine LlE.lst lv ?_ | refine LlE.tup lv ?_) rfl) (.cons (.var rfl dt) .nil)) rfl
    rintro σ' H7 ⟨mo, ys, ms, rfl, k7, lp7, dx7, hm7, hg7⟩
    refine ⟨N 4, ?_, ?_⟩
    · obtain ⟨lv, _, dt, db⟩ := persist k7 lp7
      refine ⟨_, rfl, _, rfl, rfl, _, rfl, ite2 (fun _ => ?_) (fun _ => ⟨mo, ys, ms, rfl, k7, lp7, dx7, by omega, hg7⟩)⟩
      refine addL (n := 3) (z := ⟨[("here", pl, true)], ([(wa, "here")] : List (Str × Str)) ++ ta, none⟩) k7 lp7 dx7 hm7 (by decide) hg7 (gl_mk (Nat.le_of_ble_eq_true rfl) (all1 ⟨.inl rfl, .inr (.inr (.inr pi))⟩) (by rw [List.length_append]; show 1 + ta.length ≤ 4; omega) fun s hs => ?_) ?_ (fun _ _ z => z)
      · rcases List.mem_append.mp hs with hs | hs
        · exact all1 (P := GoodS ns) ⟨.inr wi, .inr (.inl rfl)⟩ s hs
        · exact gta.2 s hs
      · refine LlE.tup (ds := [testsD [("here", pl, true)], stepsD (([(wa, "here")] : List (Str × Str)) ++ ta)]) lv (.cons (LlE.tup (ds := ([("here", pl, true)] : List (Str × Str × Bool)).map testD) lv (by repeat' first | exact LlA.nil | refine LlA.cons ?_ ?_ | exact LlE.str | exact LlE.bl | exact LlE.var rfl (.str _) | refine LlE.lst lv ?_ | refine LlE.tup lv ?_) rfl) (.cons (LlE.cast (LlE.catA (ds := [stepD (wa, "here")]) (es := ta.map stepD) lv (LlE.tup lv (by repeat' first | exact LlA.nil | refine LlA.cons ?_ ?_ | exact LlE.str | exact LlE.bl | exact LlE.var rfl (.str _) | refine LlE.lst lv ?_ | refine LlE.tup lv ?_) rfl) (.var rfl dt) ?_) ?_) .nil)) rfl
        · rw [List.length_map]
          show 1 + ta.length ≤ 100
          omega
        · rw [stepsD, List.map_append]
          rfl
    rintro σ' H8 ⟨mo, ys, ms, rfl, k8, lp8, dx8, hm8, hg8⟩
    refine ⟨N 5, ?_, ?_⟩
    · obtain ⟨lv, _, dt, db⟩ := persist k8 lp8
      refine addL (n := 4) (z := ⟨[("here", "new", true)], ba, none⟩) k8 lp8 dx8 hm8 (by decide) hg8 (gl_mk (Nat.le_of_ble_eq_true rfl) (all1 ⟨.inl rfl, .inl rfl⟩) (by omega) gba.2) ?_ (fun _ _ z => z)
      exact LlE.tup (ds := [testsD [("here", "new", true)], stepsD ba]) lv (.cons (LlE.tup (ds := ([("here", "new", true)] : List (Str × Str × Bool)).map testD) lv (by repeat' first | exact LlA.nil | refine LlA.cons ?_ ?_ | exact LlE.str | exact LlE.bl | exact LlE.var rfl (.str _) | refine LlE.lst lv ?_ | refine LlE.tup lv ?_) rfl) (.cons (.var rfl db) .nil)) rfl
    rintro σ' H9 ⟨mo, ys, ms, rfl, k9, lp9, dx9, hm9, hg9⟩
    refine ⟨N 6, ?_, ?_⟩
    · obtain ⟨lv, _, dt, db⟩ := persist k9 lp9
      let b : Bool := !decide (V.str pl = V.str wa)
      let ss : List (Str × Str) := if b = true then [(pl, wa)] else []
      have gss : ss.length ≤ 4 ∧ ∀ s ∈ ss, GoodS ns s := by
        show (if b = true then [(pl, wa)] else [] : List (Str × Str)).length ≤ 4 ∧ ∀ s ∈ (if b = true then [(pl, wa)] else [] : List (Str × Str)), GoodS ns s
        split
        · exact ⟨Nat.le_of_ble_eq_true rfl, all1 ⟨.inr pi, .inr (.inr (.inr wi))⟩⟩
        · exact ⟨Nat.zero_le _, all0⟩
      refine addL (n := 5) (z := ⟨[("new", wa, true)], ss, none⟩) k9 lp9 dx9 hm9 (by decide) hg9 (gl_mk (Nat.le_of_ble_eq_true rfl) (all1 ⟨.inr (.inl rfl), .inr (.inr (.inr wi))⟩) gss.1 gss.2) ?_ (fun _ _ z => z)
      refine LlE.tup (ds := [testsD [("new", wa, true)], stepsD ss]) lv (.cons (LlE.tup (ds := ([("new", wa, true)] : List (Str × Str × Bool)).map testD) lv (by repeat' first | exact LlA.nil | refine LlA.cons ?_ ?_ | exact LlE.str | exact LlE.bl | exact LlE.var rfl (.str _) | refine LlE.lst lv ?_ | refine LlE.tup lv ?_) rfl) (.cons (ll_ife (b := b) (fun H1 _ Q q => ⟨_, rfl, _, rfl, rfl, _, rfl, q⟩) (fun e => ?_) (fun e => ?_)) .nil)) rfl
      · have : ss = [(pl, wa)] := if_pos e
        rw [this]
        exact LlE.tup (ds := ([(pl, wa)] : List (Str × Str)).map stepD) lv (by repeat' first | exact LlA.nil | refine LlA.cons ?_ ?_ | exact LlE.str | exact LlE.bl | exact LlE.var rfl (.str _) | refine LlE.lst lv ?_ | refine LlE.tup lv ?_) rfl
      · have : ss = [] := if_neg (by rw [e]; decide)
        rw [this]
        exact LlE.tup (ds := []) lv .nil rfl
    rintro σ' HA ⟨mo, ys, ms, rfl, kA, lpA, dxA, hmA, hgA⟩
    obtain ⟨lvA, kA1, dtA, dbA⟩ := persist kA lpA
    let b : Bool := decide (("beside" : Str) ∈ ns)
    let z : Ln := if b = true then ⟨[], ([("beside", "here")] : List (Str × Str)) ++ ta, none⟩ else ⟨[], ta, some ba⟩
    have gz : GoodL ns z ∧ z.tests = [] := by
      show GoodL ns (if b = true then ⟨[], ([("beside", "here")] : List (Str × Str)) ++ ta, none⟩ else ⟨[], ta, some ba⟩) ∧ (if b = true then ⟨[], ([("beside", "here")] : List (Str × Str)) ++ ta, none⟩ else ⟨[], ta, some ba⟩ : Ln).tests = []
      split
      · rename_i hb
        have hb' : ("beside" : Str) ∈ ns := of_decide_eq_true hb
        refine ⟨gl_mk (Nat.zero_le _) all0 (by rw [List.length_append]; show 1 + ta.length ≤ 4; omega) fun s hs => ?_, rfl⟩
        rcases List.mem_append.mp hs with hs | hs
        · exact all1 (P := GoodS ns) ⟨.inr hb', .inr (.inl rfl)⟩ s hs
        · exact gta.2 s hs
      · exact ⟨gl_ask (Nat.zero_le _) all0 (by omega) gta.2 (by omega) gba.2, rfl⟩
    refine ⟨fun σ' H' => ∃ ys, σ' = S (.ref p) vt vb mo ∧ Keep [p] H5 H' ∧ H' p = some (.lst ys) ∧ DtAll K (off m H') ys ((ms ++ [z]).map lnD), ?_, ?_⟩
    · refine app_line (K := K) (m := m) (z := z) rfl lpA dxA (by omega) ?_ fun v H2 kp lp2 dx2 => ⟨_, rfl, kA.trans kp, lp2, dx2⟩
      refine ll_ife (b := b) (fun H1 k' Q q => hasP "beside" (by decide +kernel) rfl (kA1.trans k') q) (fun e => ?_) (fun e => ?_)
      · have : z = ⟨[], ([("beside", "here")] : List (Str × Str)) ++ ta, none⟩ := if_pos e
        rw [this]
        refine LlE.tup (ds := [testsD [], stepsD (([("beside", "here")] : List (Str × Str)) ++ ta)]) lvA (.cons (LlE.tup (ds := []) lvA .nil rfl) (.cons (LlE.cast (LlE.catA (ds := [stepD ("beside", "here")]) (es := ta.map stepD) lvA (LlE.tup lvA (by repeat' first | exact LlA.nil | refine LlA.cons ?_ ?_ | exact LlE.str | exact LlE.bl | exact LlE.var rfl (.str _) | refine LlE.lst lvA ?_ | refine LlE.tup lvA ?_) rfl) (.var rfl dtA) ?_) ?_) .nil)) rfl
        · rw [List.length_map]
          show 1 + ta.length ≤ 100
          omega
        · rw [stepsD, List.map_append]
          rfl
      · have : z = ⟨[], ta, some ba⟩ := if_neg (by rw [e]; decide)
        rw [this]
        exact LlE.tup (ds := [testsD [], stepsD ta, stepsD ba]) lvA (.cons (LlE.tup (ds := []) lvA .nil rfl) (.cons (.var rfl dtA) (.cons (.var rfl dbA) .nil))) rfl
    rintro σ' HB ⟨zs, rfl, kB, lpB, dxB⟩
    refine ⟨_, rfl, k (.ref p) HB (ms ++ [z]) (k05.offNew kB np0) (.lst (by rw [off_out pm]; exact lpB) dxB.dl) ⟨hreg, ?_, fun y hy => ?_, fun y hy => ?_⟩ ?_⟩
    · rw [List.length_append]
      show 1 ≤ ms.length + 1 ∧ ms.length + 1 ≤ 8
      omega
    · rcases List.mem_append.mp hy with hy | hy
      · exact hgA y hy
      · rw [List.mem_singleton.mp hy]
        exact gz.1
    · rw [List.length_append, List.length_singleton, Nat.add_sub_cancel, List.getElem?_append_right (Nat.le_refl _), Nat.sub_self] at hy
      cases hy
      exact gz.2
    · rw [List.length_append]
      show ms.length + 1 ≤ 7
      omega
end
end La
set_option Elab.async false
set_option linter.all false
set_option maxRecDepth 100000
set_option maxHeartbeats 4000000
namespace La
open PySem PySem.Spec PyProof.Rows L2 SM
theorem VRule.lastOf {ns : List Str} {ls is : List Ln} {e : Ln} (h : VRule ns ls) (q : ls = is ++ [e]) : e.tests = [] := by
  refine h.last e ?_
  rw [q, List.length_append, List.length_singleton, Nat.add_sub_cancel, List.getElem?_append_right (Nat.le_refl _), Nat.sub_self]
  rfl
theorem vrule_of {ns : List Str} {is : List Ln} {e : Ln} (r : regsD (ns.map .str) = true) (few : is.length ≤ 7) (g : ∀ z ∈ is, GoodL ns z) (ge : GoodL ns e) (t : e.tests = []) : VRule ns (is ++ [e]) := by
  refine ⟨r, ?_, fun y hy => ?_, fun y hy => ?_⟩
  · rw [List.length_append]
    show 1 ≤ is.length + 1 ∧ is.length + 1 ≤ 8
    omega
  · rcases List.mem_append.mp hy with hy | hy
    · exact g y hy
    · rw [List.mem_singleton.mp hy]
      exact ge
  · rw [List.length_append, List.length_singleton, Nat.add_sub_cancel, List.getElem?_append_right (Nat.le_refl _), Nat.sub_self] at hy
    cases hy
    exact t
/-- the same tail behind other lines -/
theorem VRule.tail {ns : List Str} {fr fr' tl : List Ln} (h : VRule ns (fr ++ tl)) (n : tl ≠ []) (g : ∀ z ∈ fr', GoodL ns z) (few : (fr' ++ tl).length ≤ 8) : VRule ns (fr' ++ tl) := by
  obtain ⟨is, e, rfl⟩ : ∃ is e, tl = is ++ [e] := ⟨tl.dropLast, tl.getLast n, (List.dropLast_concat_getLast n).symm⟩
  rw [← List.append_assoc]
  refine vrule_of h.regs ?_ (fun y hy => ?_) (h.good _ (by simp)) (h.lastOf (is := fr ++ is) (by rw [List.append_assoc]))
  · simp only [List.length_append, List.length_singleton] at few ⊢
    omega
  · rcases List.mem_append.mp hy with hy | hy
    · exact g y hy
    · exact h.good y (by simp [hy])
theorem lines_shaped {ns : List Str} {ls : List Ln} (o : OkN ns) (g : ∀ z ∈ ls, GoodL ns z) : SeqAt.shaped (linesL ls) = true := by
  refine (Lay.list (n := 60) fun d z => ?_).shaped (by decide)
  obtain ⟨l, hl, rfl⟩ := List.mem_map.mp z
  exact ((g l hl).lay (n := 0) o).mono (by decide)
/-- a list's tail's data, compared with [] -/
theorem ne_nil {K : PySem.W.Frag} {m : List Addr} {σ : L2.St} {H0 H : Hp} {te : TE} {ds : List PyData} {Q : Bool → Hp → Prop} (l : LlE K m te σ H0 (.list ds)) (k0 : Keep [] H0 H) (s : SeqAt.shaped (.list ds) = true) (dpn : ∀ {v H'}, Dl K H' v (.list ds) → Dp K H' v (.list ds)) (k : ∀ H', Keep [] H H' → Q (!ds.isEmpty) H') : tTest (tOp (rNeD K) te (tLst tNil)) σ H Q := by
  refine l H k0 _ fun v H1 k1 d1 => ⟨Nat.zero_le _, fun q hq => ?_⟩
  have kq : Keep [] H1 (upd H1 q (.lst [])) := Keep.new hq
  refine ⟨.list ds, .list [], dpn (d1.k0 kq).whole, .lst (SqL.of upd_same) .nil, s, (by decide +kernel), _, rfl, ?_⟩
  rw [eqv_lnil]
  exact k _ (k1.trans kq)
theorem dp_lines {K : PySem.W.Frag} {H : Hp} {v : V} {ls : List Ln} (h : Dl K H v (linesL ls)) : Dp K H v (linesL ls) := by
  obtain ⟨a, xs, rfl, ha, hx⟩ := h.lst_of
  exact .lst (SqL.of ha) (DlAll_dt hx (onlyTs_all onlyT_line _)).dp
mutual
theorem dt_off {K : PySem.W.Frag} {m : List Addr} {H : Hp} (s : Soft m H) : ∀ {v : V} {d : PyData}, Dt K H v d → Dt K (off m H) v d
  | _, _, .non => .non
  | _, _, .bl b => .bl b
  | _, _, .int i => .int i
  | _, _, .str x => .str x
  | _, _, .tup (a := a) (xs := xs) q t => .tup (by
      rcases q with (q | ⟨o, q⟩) | q
      · exact .inl (.inl (by rw [off_out (fun z => (s a z xs).1 q)]; exact q))
      · exact .inl (.inr ⟨o, by rw [off_out (fun z => (s a z xs).2 o q)]; exact q⟩)
      · exact .inr q) (dtAll_off s t)
theorem dtAll_off {K : PySem.W.Frag} {m : List Addr} {H : Hp} (s : Soft m H) : ∀ {vs : List V} {ds : List PyData}, DtAll K H vs ds → DtAll K (off m H) vs ds
  | _, _, .nil => .nil
  | _, _, .cons q t => .cons (dt_off s q) (dtAll_off s t)
end
theorem rcat_dl {K : PySem.W.Frag} {m : List Addr} {H : Hp} {x y : V} {ds es : List PyData} {Q : VK} (l : Live m H) (hx : Dl K (off m H) x (.list ds)) (hy : Dl K (off m H) y (.list es)) (n : ds.length + es.length ≤ 100) (k : ∀ v H', Keep [] H H' → Dl K (off m H') v (.list (ds ++ es)) → Q v H') : rCat x y H Q := by
  obtain ⟨a, xs, rfl, ha, da⟩ := hx.lst_of
  obtain ⟨b, ys, rfl, hb, db⟩ := hy.lst_of
  refine ⟨a, b, xs, ys, rfl, rfl, (off_some ha).2, (off_some hb).2, ?_, fun p hp => ?_⟩
  · rw [da.length, db.length]
    exact Nat.le_trans n (by decide)
  · exact k _ _ (Keep.new hp) (.lst (off_new l hp) ((da.append db).k0 (Keep.new hp)))
def spBent2 (K : PySem.W.Frag) : Sp := fun vs H Q _ => ∃ (a : Addr) (vn vl : V) (ns : List Str) (ls : List Ln), vs = [.ref a, vn, vl] ∧ Src H a ∧ Dl K (off [a] H) vn (nsD ns) ∧ Dl K (off [a] H) vl (linesL ls) ∧ VRule ns ls ∧
  ∀ v H' ls', Keep [a] H H' → Src H' a → Dl K (off [a] H') v (linesL ls') → VRule ns ls' → Q v H'
section
variable {P : Program} {w : World} {K : PySem.W.Frag} {mg : Str → Option Value} {base : Heap}
abbrev s__law_bent : Stmt := (top 70)
abbrev N__law_bent : List Str := ["source", "names", "lines", "kind", "at", "front", "line", "rest"]
abbrev P__law_bent : List Str := ["source", "names", "lines"]
theorem sc__law_bent : FnScope N__law_bent P__law_bent (defScope s__law_bent) := ⟨rfl, rfl, rfl, by decide +kernel, rfl, by decide +kernel, by decide +kernel⟩
theorem D_law_bent (W : Cw fas fns K mg) (D_law_draw : DefOk P w K mg base CX0 1 "_law_draw" P__law_draw spDraw) (D_law_row : DefOk P w K mg base CX0 4 "_law_row" P__law_row (spRow K)) : DefOk P w K mg base CX0 5 "_law_bent" P__law_bent (spBent2 K) := by
  refine DefOk.of W 27 59 (st := s__law_bent) rfl rfl sc__law_bent (fun _ _ _ _ _ _ us hl => match us, hl with | [_, _, _], _ => rfl) (fun vs H Q E h => ?_) (fun cdv A outer s H vs Q E hr h => ?_)
  · obtain ⟨a, vn, vl, ns, ls, rfl, _⟩ := h
    rfl
  · obtain ⟨a, vn, vl, ns, ls, rfl, hs, dn, dl, hv, k⟩ := h
    refine ⟨_, PSs.nox (Evl.pss_cut (ps_par (i := 3) (j := 4) (by rfl) sc__law_bent.nd rfl rfl (by decide) rfl rfl (pa_cons (SM.pe_callD D_law_draw (hr.mono (by decide)) pass0 (pa_cons (pv 0) (pa_cons pe_int pa_nil))) (pa_cons (SM.pe_callD D_law_draw (hr.mono (by decide)) pass0 (pa_cons (pv 0) (pa_cons (pe_callB call_len_seq (by rfl) (W.fre 74) (by decide +kernel) (pa_cons (pv 2) pa_nil)) pa_nil))) pa_nil)) (by rfl)) (Evl.pss_cut (ps_par3 (i := 5) (j := 6) (l := 7) (by rfl) sc__law_bent.nd rfl rfl rfl (by decide) (by decide) (by decide) rfl rfl rfl (pa_cons (pe_slice sl_list (pv 2) po_none (po_some (pv 4))) (pa_cons (pe_ix ix_seq (pv 2) (pv 4) (fun _ _ => rfl)) (pa_cons (pe_slice sl_list (pv 2) (po_some (pe_op op_add (pv 4) pe_int)) po_none) pa_nil))) (by rfl)) (Evl.pss_cut (ps_if (PW.pt (pw_and (pt_cmpR op_eq (pv 3) pe_int (nomark _)) (pw_and1 (pt_cmpR (op_neD hr.units) (pv 7) (pe_lst pa_nil) (nomark _))))) (pss_one (ps_ret (pe_op op_cat (pv 5) (pv 7)))) pss_nil) (Evl.pss_cut (ps_if (pt_cmpR op_eq (pv 3) pe_int (nomark _)) (pss_one (ps_ret (pe_op op_cat (pe_op op_cat (pv 5) (pe_lst (pa_cons (pe_op op_catA (pe_tup (pa_cons (pe_ix ix_seq (pv 6) pe_int (fun _ _ => rfl)) (pa_cons (SM.pe_revT (pe_ix ix_seq (pv 6) pe_int (fun _ _ => rfl))) pa_nil))) (pe_slice SM.sl_tupA (pv 6) (po_some pe_int) po_none)) pa_nil))) (pv 7)))) pss_nil) (Evl.pss_cut (ps_if (pt_cmpR op_eq (pv 3) pe_int (nomark _)) (pss_one (ps_ret (pe_op op_cat (pe_op op_cat (pv 5) (pe_lst (pa_cons (pe_op op_catA (pe_tup (pa_cons (pe_ix ix_seq (pv 6) pe_int (fun _ _ => rfl)) (pa_cons (pe_slice SM.sl_tupA (pe_ix ix_seq (pv 6) pe_int (fun _ _ => rfl)) (po_some pe_int) po_none) pa_nil))) (pe_slice SM.sl_tupA (pv 6) (po_some pe_int) po_none)) pa_nil))) (pv 7)))) pss_nil) (Evl.pss_cut (ps_if (PW.pt (pw_and (pt_cmpR op_eq (pv 3) pe_int (nomark _)) (pw_and1 (pt_cmpR op_gt (pe_callB call_len_seq (by rfl) (W.fre 74) (by decide +kernel) (pa_cons (pv 7) pa_nil)) pe_int (nomark _))))) (pss_one (ps_ret (pe_op op_cat (pe_op op_cat (pv 5) (pe_lst (pa_cons (pe_ix ix_seq (pv 7) pe_int (fun _ _ => rfl)) (pa_cons (pv 6) pa_nil)))) (pe_slice sl_list (pv 7) (po_some pe_int) po_none)))) pss_nil) (Evl.pss_cut (ps_if (PW.pt (pw_and (pt_cmpR op_eq (pv 3) pe_int (nomark _)) (pw_and1 (pt_cmpR op_lt (pe_callB call_len_seq (by rfl) (W.fre 74) (by decide +kernel) (pa_cons (pv 2) pa_nil)) pe_int (nomark _))))) (pss_one (ps_ret (pe_op op_cat (pe_op op_cat (pv 5) (pe_lst (pa_cons (SM.pe_callD D_law_row (hr.mono (by decide)) pass0 (pa_cons (pv 0) (pa_cons (pv 1) (pa_cons pe_bl pa_nil)))) (pa_cons (pv 6) pa_nil)))) (pv 7)))) pss_nil) (Evl.pss_cut (ps_if (pt_cmpR op_eq (pv 3) pe_int (nomark _)) (pss_one (ps_ret (pe_op op_cat (pe_slice sl_list (pv 2) po_none (po_some (pe_un un_neg pe_int))) (pe_lst (pa_cons (SM.pe_callD D_law_row (hr.mono (by decide)) pass0 (pa_cons (pv 0) (pa_cons (pv 1) (pa_cons pe_bl pa_nil)))) pa_nil))))) pss_nil) (Evl.pss_cut (ps_if (pt_cmpR op_eq (pv 3) pe_int (nomark _)) (pss_one (ps_ret (pe_op op_cat (pe_op op_cat (pv 5) (pe_lst (pa_cons (pe_tup (pa_cons (pe_ix ix_seq (pv 6) pe_int (fun _ _ => rfl)) (pa_cons (pe_ix ix_seq (pv 6) pe_int (fun _ _ => rfl)) (pa_cons (pe_tup pa_nil) pa_nil)))) pa_nil))) (pv 7)))) pss_nil) (pss_one (ps_ret (pv 2)))))))))))), ?_⟩
    have okn := hv.okN.2.1
    obtain ⟨la, lxs, rfl, hla, dlx⟩ := dl.lst_of
    have lx : lxs.length = ls.length := by rw [dlx.length, List.length_map]
    have fw := hv.few
    refine ⟨fun σ' H' => ∃ (kd : Int) (j : Nat), σ' = [some (.ref a), some vn, some (.ref la), some (.int kd), some (.int (j : Int)), none, none, none] ∧ j < ls.length ∧ Keep [a] H H' ∧ Src H' a, ?_, ?_⟩
    · refine ⟨_, rfl, a, 8, rfl, hs, by decide, by decide, fun r H1 r0 r1 k1 s1 => ?_⟩
      refine ⟨_, rfl, _, rfl, la, lxs, rfl, .inl (SqL.of (off_some (hla |> fun h => k1.off _ _ h)).2), a, _, rfl, s1, by omega, by omega, fun r2 H2 r3 r4 k2 s2 => ?_⟩
      obtain ⟨j, rfl⟩ := Int.eq_ofNat_of_zero_le r3
      exact ⟨_, _, rfl, r, j, rfl, by omega, k1.trans k2, s2⟩
    rintro σ' H2 ⟨kd, j, rfl, hj, k2, s2⟩
    have dn2 := dn.k k2
    have dl2 := dl.k k2
    obtain ⟨z, hz⟩ : ∃ z, ls[j]? = some z := ⟨_, List.getElem?_eq_getElem hj⟩
    have hzd : (ls.map lnD)[j]? = some (lnD z) := by rw [List.getElem?_map, hz]; rfl
    have gz := hv.good z (List.mem_of_getElem? hz)
    have cut : ls = ls.take j ++ z :: ls.drop (j + 1) := by
      have e1 : ls.drop j = z :: ls.drop (j + 1) := by
        rw [List.drop_eq_getElem_cons hj]
        congr 1
        rw [List.getElem?_eq_getElem hj] at hz
        exact Option.some.inj hz
      rw [← e1, List.take_append_drop]
    refine ⟨fun σ' H' => ∃ vf vz vr, σ' = [some (.ref a), some vn, some (.ref la), some (.int kd), some (.int (j : Int)), some vf, some vz, some vr] ∧ Keep [] H2 H' ∧ Dl K (off [a] H') vf (linesL (ls.take j)) ∧ Dl K (off [a] H') vz (lnD z) ∧ Dl K (off [a] H') vr (linesL (ls.drop (j + 1))), ?_, ?_⟩
    · refine show tCons _ _ _ _ _ from rd_cons (LlE.takeL (n := j) s2.live (.var rfl dl2) (fun H1 Q q => ⟨_, rfl, _, rfl, q⟩) H2 Keep.refl _ fun vf H3 k3 d3 => rd_cons (LlE.ixL (n := j) (i := (j : Int)) (.var rfl dl2) (fun H1 Q q => ⟨_, rfl, q⟩) hzd (.inl rfl) H3 k3 _ fun vz H4 k4 d4 => rd_cons (LlE.dropL (n := j + 1) s2.live (.var rfl dl2) (fun H1 Q q => ⟨_, rfl, _, _, rfl, rfl, _, rfl, q⟩) H4 (k3.trans k4) _ fun vr H5 k5 d5 => ?_)))
      refine ⟨_, _, _, rfl, vf, vz, vr, rfl, k3.trans (k4.trans k5), ?_, d4.k0 k5, ?_⟩
      · rw [linesL, List.map_take]
        exact d3.k0 (k4.trans k5)
      · rw [linesL, List.map_drop]
        exact d5
    rintro σ' H3 ⟨vf, vz, vr, rfl, k3, df, dz, dr⟩
    let S : L2.St := [some (.ref a), some vn, some (.ref la), some (.int kd), some (.int (j : Int)), some vf, some vz, some vr]
    have s3 := s2.keep k3 (by simp)
    have k03 : Keep [a] H H3 := k2.trans (Keep.of_nil k3)
    let M : L2.St → Hp → Prop := fun σ' H' => σ' = S ∧ Keep [a] H3 H' ∧ Src H' a
    have fin : ∀ {te : TE} {H' : Hp} {ls' : List Ln}, Keep [a] H3 H' → Src H' a → LlE K [a] te S H' (linesL ls') → VRule ns ls' → tRet te { nx := M, rt := Q } S H' := by
      intro te H' ls' kk ss h hv'
      exact rd_ret (h H' Keep.refl _ fun v H4 k4 d4 => k v H4 ls' (k03.trans (kk.trans (Keep.of_nil k4))) (ss.keep k4 (by simp)) d4 hv')
    have F : ∀ {H'}, Keep [a] H3 H' → LlE K [a] (tVar 5) S H' (linesL (ls.take j)) := fun kk => .var rfl (df.k kk)
    have Z : ∀ {H'}, Keep [a] H3 H' → LlE K [a] (tVar 6) S H' (lnD z) := fun kk => .var rfl (dz.k kk)
    have R : ∀ {H'}, Keep [a] H3 H' → LlE K [a] (tVar 7) S H' (linesL (ls.drop (j + 1))) := fun kk => .var rfl (dr.k kk)
    have Z0 : ∀ {H'}, Keep [a] H3 H' → LlE K [a] (tOp (rIx K) (tVar 6) (tC (.int 0))) S H' (testsD z.tests) := fun kk => LlE.ixT (n := 0) (i := 0) (Z kk) (fun H1 Q q => q) rfl (.inl rfl)
    have Z1 : ∀ {H'}, Keep [a] H3 H' → LlE K [a] (tOp (rIx K) (tVar 6) (tC (.int 1))) S H' (stepsD z.steps) := fun kk => LlE.ixT (n := 1) (i := 1) (Z kk) (fun H1 Q q => q) rfl (.inl rfl)
    have kl : (keepD z.keep).length ≤ 1 := by cases z.keep <;> simp [keepD]
    have Z2 : ∀ {H'}, Keep [a] H3 H' → Src H' a → LlE K [a] (tSl (SM.rSlA K) (tVar 6) (tPart (tC (.int 2))) tNoPart) S H' (.tuple (keepD z.keep)) := fun kk ss => LlE.dropT (n := 2) (ds := testsD z.tests :: stepsD z.steps :: keepD z.keep) ss.live (Z kk) (fun H1 Q q => ⟨_, rfl, q⟩)
    -- one line exchanged
    have one : ∀ {te : TE} {H' : Hp} {z' : Ln}, Keep [a] H3 H' → Src H' a → LlE K [a] te S H' (lnD z') → GoodL ns z' → (z.tests = [] → z'.tests = []) → tRet (tOp rCat (tOp rCat (tVar 5) (tLst (tCons te tNil))) (tVar 7)) { nx := M, rt := Q } S H' := by
      intro te H' z' kk ss h g t
      refine fin (ls' := ls.set j z') kk ss ?_ (hv.put hz g t)
      rw [← set_cut z' hj]
      refine LlE.cast (LlE.cat (ds := (ls.take j).map lnD ++ [lnD z']) (es := (ls.drop (j + 1)).map lnD) ss.live (LlE.cat ss.live (F kk) (LlE.lst ss.live (.cons h .nil) rfl) ?_) (R kk) ?_) ?_
      · rw [List.length_map, List.length_take]
        show min j ls.length + 1 ≤ 100
        omega
      · rw [List.length_append, List.length_map, List.length_map, List.length_take, List.length_drop]
        show min j ls.length + 1 + (ls.length - (j + 1)) ≤ 100
        omega
      · rw [linesL, List.map_append, List.map_append]
        rfl
    have stay : ∀ {H'}, Keep [a] H3 H' → Src H' a → M S H' := fun kk ss => ⟨rfl, kk, ss⟩
    -- 0
    refine ⟨M, ?_, ?_⟩
    · refine rd_ifK rfl (ne_nil (R Keep.refl) Keep.refl (lines_shaped okn fun y hy => hv.good y (List.mem_of_mem_drop hy)) (fun h => dp_lines h) fun H4 k4 => ite2 (fun hb => ?_) (fun _ => stay (Keep.of_nil k4) (s3.keep k4 (by simp)))) (stay Keep.refl s3)
      have s4 := s3.keep k4 (by simp)
      have kk : Keep [a] H3 H4 := Keep.of_nil k4
      have ne : ls.drop (j + 1) ≠ [] := by
        intro e
        rw [e] at hb
        cases hb
      refine fin (ls' := ls.take j ++ ls.drop (j + 1)) kk s4 (LlE.cast (LlE.cat (ds := (ls.take j).map lnD) (es := (ls.drop (j + 1)).map lnD) s4.live (F kk) (R kk) ?_) ?_) (VRule.tail (fr := ls.take j ++ [z]) (by rw [List.append_assoc]; show VRule ns (ls.take j ++ (z :: ls.drop (j + 1))); rw [← cut]; exact hv) ne (fun y hy => hv.good y (List.mem_of_mem_take hy)) ?_)
      · rw [List.length_map, List.length_map, List.length_take, List.length_drop]
        omega
      · rw [linesL, List.map_append]
      · rw [List.length_append, List.length_take, List.length_drop]
        omega
    rintro σ' H4 ⟨rfl, k4, s4⟩
    -- 1
    refine ⟨M, ?_, ?_⟩
    · refine rd_ifK1 rfl (one (z' := ⟨z.tests, z.steps.reverse, z.keep⟩) k4 s4 (LlE.cast (LlE.catA (ds := [testsD z.tests, stepsD z.steps.reverse]) s4.live (LlE.tup s4.live (.cons (Z0 k4) (.cons (LlE.cast (LlE.revT s4.live (Z1 k4)) (by rw [stepsD, List.map_reverse])) .nil)) rfl) (Z2 k4 s4) ?_) rfl) ⟨gz.tests, ⟨by rw [List.length_reverse]; exact gz.steps.1, fun y hy => gz.steps.2 y (List.mem_reverse.mp hy)⟩, gz.keep⟩ (fun e => e)) (stay k4 s4)
      show 2 + (keepD z.keep).length ≤ 100
      omega
    rintro σ' H5 ⟨rfl, k5, s5⟩
    -- 2
    refine ⟨M, ?_, ?_⟩
    · refine rd_ifK1 rfl (one (z' := ⟨z.tests, z.steps.drop 1, z.keep⟩) k5 s5 (LlE.cast (LlE.catA (ds := [testsD z.tests, stepsD (z.steps.drop 1)]) s5.live (LlE.tup s5.live (.cons (Z0 k5) (.cons (LlE.cast (LlE.dropT (n := 1) s5.live (Z1 k5) (fun H1 Q q => ⟨_, rfl, q⟩)) (by rw [stepsD, List.map_drop])) .nil)) rfl) (Z2 k5 s5) ?_) rfl) ⟨gz.tests, ⟨by rw [List.length_drop]; have := gz.steps.1; omega, fun y hy => gz.steps.2 y (List.mem_of_mem_drop hy)⟩, gz.keep⟩ (fun e => e)) (stay k5 s5)
      show 2 + (keepD z.keep).length ≤ 100
      omega
    rintro σ' H6 ⟨rfl, k6, s6⟩
    -- 3
    refine ⟨M, ?_, ?_⟩
    · refine rd_ifK rfl (rd_test (rd_op (LlE.len (.inl (R k6)) Keep.refl fun H7 k7 => ⟨_, _, rfl, rfl, _, rfl, ite2 (fun hb => ?_) (fun _ => stay (k6.trans (Keep.of_nil k7)) (s6.keep k7 (by simp)))⟩))) (stay k6 s6)
      have s7 := s6.keep k7 (by simp)
      have kk : Keep [a] H3 H7 := k6.trans (Keep.of_nil k7)
      have hb' : j + 2 < ls.length := by
        have := of_decide_eq_true hb
        rw [List.length_map, List.length_drop] at this
        omega
      obtain ⟨z2, hz2⟩ : ∃ z2, ls[j + 1]? = some z2 := ⟨_, List.getElem?_eq_getElem (show j + 1 < ls.length by omega)⟩
      have hd0 : ((ls.drop (j + 1)).map lnD)[0]? = some (lnD z2) := by rw [List.getElem?_map, List.getElem?_drop, Nat.add_zero, hz2]; rfl
      refine fin (ls' := ls.take j ++ [z2, z] ++ ls.drop (j + 2)) kk s7 (LlE.cast (LlE.cat (ds := (ls.take j).map lnD ++ [lnD z2, lnD z]) (es := ((ls.drop (j + 1)).map lnD).drop 1) s7.live (LlE.cat s7.live (F kk) (LlE.lst s7.live (.cons (LlE.ixL (n := 0) (i := 0) (R kk) (fun H1 Q q => q) hd0 (.inl rfl)) (.cons (Z kk) .nil)) rfl) ?_) (LlE.dropL (n := 1) s7.live (R kk) (fun H1 Q q => ⟨_, rfl, q⟩)) ?_) ?_) (hv.swap hz hz2 hb')
      · rw [List.length_map, List.length_take]
        show min j ls.length + 2 ≤ 100
        omega
      · simp only [List.length_append, List.length_map, List.length_take, List.length_drop, List.length_cons, List.length_nil]
        omega
      · rw [linesL, List.map_append, List.map_append, ← List.map_drop, List.drop_drop]
        rfl
    rintro σ' H7 ⟨rfl, k7, s7⟩
    -- 4
    refine ⟨M, ?_, ?_⟩
    · have L : ∀ {H'}, Keep [a] H3 H' → LlE K [a] (tVar 2) S H' (linesL ls) := fun kk => .var rfl ((dl2.k0 k3).k kk)
      refine rd_ifK rfl (rd_test (rd_op (LlE.len (.inl (L k7)) Keep.refl fun H8 k8 => ⟨_, _, rfl, rfl, _, rfl, ite2 (fun hb => ?_) (fun _ => stay (k7.trans (Keep.of_nil k8)) (s7.keep k8 (by simp)))⟩))) (stay k7 s7)
      have s8 := s7.keep k8 (by simp)
      have kk : Keep [a] H3 H8 := k7.trans (Keep.of_nil k8)
      have hb' : ls.length < 8 := by
        have := of_decide_eq_true hb
        rw [List.length_map] at this
        omega
      refine rd_ret (rd_op (rd_op (rd_var rfl (?_))))
      refine ⟨_, rfl, _, rfl, a, vn, ns, false, rfl, s8, (dn2.k0 k3).k kk, hv.okN.1, fun vx H9 zx k9 s9 dx gx _ => ⟨_, rfl, (by show 2 ≤ sizeLine; decide), fun q hq => ?_⟩⟩
      have k9' : Keep [a] H3 H9 := kk.trans k9
      have kq : Keep [] H9 (upd H9 q (.lst [vx, vz])) := Keep.new hq
      have sq := s9.keep kq (by simp)
      have kq' : Keep [a] H3 (upd H9 q (.lst [vx, vz])) := k9'.trans (Keep.of_nil kq)
      have dq : Dl K (off [a] (upd H9 q (.lst [vx, vz]))) (.ref q) (.list [lnD zx, lnD z]) := by
        refine .lst (off_new s9.live hq) (.cons ?_ (.cons (dz.k kq') .nil))
        exact (Dt.keep (offsK kq) (offsS Soft.nil) (dt_off s9.soft dx)).dl
      refine rcat_dl (ds := (ls.take j).map lnD) sq.live (df.k kq') dq ?_ fun v1 H10 kA dA => rd_var rfl ?_
      · rw [List.length_map, List.length_take]
        show min j ls.length + 2 ≤ 100
        omega
      have kA' : Keep [a] H3 H10 := kq'.trans (Keep.of_nil kA)
      have sA := sq.keep kA (by simp)
      refine rcat_dl (es := (ls.drop (j + 1)).map lnD) sA.live dA (dr.k kA') ?_ fun v2 H11 kB dB => ?_
      · simp only [List.length_append, List.length_map, List.length_take, List.length_drop, List.length_cons, List.length_nil]
        omega
      refine k v2 H11 ((ls.take j ++ [zx]) ++ z :: ls.drop (j + 1)) (k03.trans (kA'.trans (Keep.of_nil kB))) (sA.keep kB (by simp)) ?_ (VRule.tail (fr := ls.take j) (by rw [← cut]; exact hv) (List.cons_ne_nil _ _) (fun y hy => ?_) ?_)
      · have e : linesL ((ls.take j ++ [zx]) ++ z :: ls.drop (j + 1)) = .list (((ls.take j).map lnD ++ [lnD zx, lnD z]) ++ (ls.drop (j + 1)).map lnD) := by
          rw [linesL, List.map_append, List.map_append]
          simp only [List.map_cons, List.map_nil, List.append_assoc, List.cons_append, List.nil_append]
        rw [e]
        exact dB
      · rcases List.mem_append.mp hy with hy | hy
        · exact hv.good y (List.mem_of_mem_take hy)
        · rw [List.mem_singleton.mp hy]
          exact gx
      · simp only [List.length_append, List.length_take, List.length_drop, List.length_cons, List.length_nil]
        omega
    rintro σ' H8 ⟨rfl, k8, s8⟩
    have L : ∀ {H'}, Keep [a] H3 H' → LlE K [a] (tVar 2) S H' (linesL ls) := fun kk => .var rfl ((dl2.k0 k3).k kk)
    -- 5
    refine ⟨M, ?_, ?_⟩
    · refine rd_ifK1 rfl (rd_ret (rd_op (LlE.initL s8.live (L k8) (fun H1 Q q => ⟨1, rfl, -1, rfl, q⟩) H8 Keep.refl _ fun vi H9 k9 d9 => ?_))) (stay k8 s8)
      have s9 := s8.keep k9 (by simp)
      have kk : Keep [a] H3 H9 := k8.trans (Keep.of_nil k9)
      refine ⟨_, rfl, _, rfl, a, vn, ns, true, rfl, s9, (dn2.k0 k3).k kk, hv.okN.1, fun vx HA zx kA sA dx gx tx => ⟨(by show 1 ≤ sizeLine; decide), fun q hq => ?_⟩⟩
      have kq : Keep [] HA (upd HA q (.lst [vx])) := Keep.new hq
      have sq := sA.keep kq (by simp)
      have dq : Dl K (off [a] (upd HA q (.lst [vx]))) (.ref q) (.list [lnD zx]) :=
        .lst (off_new sA.live hq) (.cons (Dt.keep (offsK kq) (offsS Soft.nil) (dt_off sA.soft dx)).dl .nil)
      refine rcat_dl sq.live ((d9.k kA).k0 kq) dq ?_ fun v2 HB kB dB => ?_
      · rw [List.length_take, List.length_map]
        show min (ls.length - 1) ls.length + 1 ≤ 100
        omega
      refine k v2 HB (ls.take (ls.length - 1) ++ [zx]) (k03.trans (kk.trans (kA.trans (Keep.of_nil (kq.trans kB))))) (sq.keep kB (by simp)) ?_ (vrule_of hv.regs ?_ (fun y hy => hv.good y (List.mem_of_mem_take hy)) gx (tx rfl))
      · have e : linesL (ls.take (ls.length - 1) ++ [zx]) = .list ((ls.map lnD).take ((ls.map lnD).length - 1) ++ [lnD zx]) := by
          rw [linesL, List.map_append, List.map_take, List.length_map]
          rfl
        rw [e]
        exact dB
      · rw [List.length_take]
        omega
    rintro σ' H9 ⟨rfl, k9, s9⟩
    -- 6
    refine ⟨M, ?_, ?_⟩
    · exact rd_ifK1 rfl (one (z' := ⟨z.tests, z.steps, some []⟩) k9 s9 (LlE.tup s9.live (.cons (Z0 k9) (.cons (Z1 k9) (.cons (LlE.tup (ds := []) s9.live .nil rfl) .nil))) rfl) ⟨gz.tests, gz.steps, fun y e => by cases e; exact ⟨Nat.zero_le _, fun s z => by cases z⟩⟩ (fun e => e)) (stay k9 s9)
    rintro σ' HA ⟨rfl, kA, sA⟩
    exact fin kA sA (L kA) hv
end
end La
set_option Elab.async false
set_option linter.all false
set_option maxRecDepth 100000
set_option maxHeartbeats 4000000
namespace La
open PySem PySem.Spec PyProof.Rows L2 SM
/-- a rule's plan: names and lines -/
def ruleD (ns : List Str) (ls : List Ln) : PyData := .list [nsD ns, linesL ls]
def spRuleD (K : PySem.W.Frag) : Sp := fun vs H Q _ => ∃ (a : Addr) (most : Int), vs = [.ref a, .int most] ∧ Src H a ∧ 1 ≤ most ∧ most ≤ 3 ∧
  ∀ v ns ls H', VRule ns ls → Keep [a] H H' → Src H' a → Dl K (off [a] H') v (ruleD ns ls) → Q v H'
def spMade (K : PySem.W.Frag) : Sp := fun vs H Q _ => ∃ (m : List Addr) (v : V) (ns : List Str) (ls : List Ln), vs = [v] ∧ Dl K (off m H) v (ruleD ns ls) ∧ VRule ns ls ∧ ∀ x H', Keep [] H H' → H x = none → RuleIs K H' x ns ls → Q (.ref x) H'
section
variable {P : Program} {w : World} {K : PySem.W.Frag} {mg : Str → Option Value} {base : Heap}
abbrev s__law_rule : Stmt := (top 71)
abbrev N__law_rule : List Str := ["source", "most", "names", "lines", "many", "turn"]
abbrev P__law_rule : List Str := ["source", "most"]
theorem sc__law_rule : FnScope N__law_rule P__law_rule (defScope s__law_rule) := ⟨rfl, rfl, rfl, by decide +kernel, rfl, by decide +kernel, by decide +kernel⟩
theorem D_law_rule (W : Cw fas fns K mg) (D_law_draw : DefOk P w K mg base CX0 1 "_law_draw" P__law_draw spDraw) (D_law_registers : DefOk P w K mg base CX0 4 "_law_registers" P__law_registers (spRegisters K)) (D_law_good : DefOk P w K mg base CX0 1 "_law_good" P__law_good (spGood2 K))
    (D_law_row : DefOk P w K mg base CX0 4 "_law_row" P__law_row (spRow K)) (D_law_bent : DefOk P w K mg base CX0 5 "_law_bent" P__law_bent (spBent2 K)) : DefOk P w K mg base CX0 6 "_law_rule" P__law_rule (spRuleD K) := by
  refine DefOk.of W 28 60 (st := s__law_rule) rfl rfl sc__law_rule (fun _ _ _ _ _ _ us hl => match us, hl with | [_, _], _ => rfl) (fun vs H Q E h => ?_) (fun cdv A outer s H vs Q E hr h => ?_)
  · obtain ⟨a, most, rfl, _⟩ := h
    rfl
  · obtain ⟨a, most, rfl, hs, m1, m3, k⟩ := h
    refine ⟨_, PSs.nox (Evl.pss_cut (ps_set (i := 2) sc__law_rule.nd rfl (by first | exact Or.inl rfl | exact Or.inr rfl) (SM.pe_callD D_law_registers (hr.mono (by decide)) pass0 (pa_cons (pv 0) (pa_cons (pv 1) pa_nil)))) (Evl.pss_cut (ps_set (i := 3) sc__law_rule.nd rfl (by first | exact Or.inl rfl | exact Or.inr rfl) (SM.pe_callD D_law_good (hr.mono (by decide)) pass0 (pa_cons (pv 2) pa_nil))) (Evl.pss_cut (ps_if (pt_cmpR op_eq (SM.pe_callD D_law_draw (hr.mono (by decide)) pass0 (pa_cons (pv 0) (pa_cons pe_int pa_nil))) pe_int (nomark _)) (Evl.pss_cut (ps_set (i := 4) sc__law_rule.nd rfl (by first | exact Or.inl rfl | exact Or.inr rfl) (SM.pe_callD D_law_draw (hr.mono (by decide)) pass0 (pa_cons (pv 0) (pa_cons pe_int pa_nil)))) (pss_one (ps_setLc (i := 3) (own := [("turn", 5)]) (g := gName 5) (tt := tYes) (te := tCall (spRow K) [] E0 (tCons (tVar 0) (tCons (tVar 2) (tCons (tOp rEq (tVar 5) (tVar 4)) tNil)))) (by rfl) sc__law_rule.nd rfl rfl (sw_true rfl rfl rfl (by decide +kernel)) (pi_range1 (by rfl) (W.fre 79) (pa_cons (pe_op op_add (pv 4) pe_int) pa_nil)) (blkOk_by (own := [("turn", 5)]) (N := N__law_rule) (sc := defScope s__law_rule) (by decide +kernel)) (fun _ _ _ _ _ => pg_name (i := 5) sc__law_rule.nd rfl (Or.inl rfl)) (fun _ _ _ _ _ => pts_nil) (fun _ _ _ _ _ => (SM.pe_callD D_law_row (hr.mono (by decide)) pass0 (pa_cons (pv 0) (pa_cons (pv 2) (pa_cons (pe_cmpR op_eq (pv 5) (pv 4) (nomark _)) pa_nil)))))))) pss_nil) (Evl.pss_cut (ps_for PassesOwn.never rfl (pi_range1 (by rfl) (W.fre 79) (pa_cons (SM.pe_callD D_law_draw (hr.mono (by decide)) pass0 (pa_cons (pv 0) (pa_cons pe_int pa_nil))) pa_nil)) (pg_name (i := 5) sc__law_rule.nd rfl (by first | exact Or.inl rfl | exact Or.inr rfl)) (pss_one (ps_set (i := 3) sc__law_rule.nd rfl (by first | exact Or.inl rfl | exact Or.inr rfl) (SM.pe_callD D_law_bent (hr.mono (by decide)) pass0 (pa_cons (pv 0) (pa_cons (pv 2) (pa_cons (pv 3) pa_nil))))))) (pss_one (ps_ret (pe_lst (pa_cons (pv 2) (pa_cons (pv 3) pa_nil))))))))), ?_⟩
    refine ⟨fun σ' H' => ∃ vn ns, σ' = [some (.ref a), some (.int most), some vn, none, none, none] ∧ regsD (ns.map .str) = true ∧ Keep [a] H H' ∧ Src H' a ∧ Dl K (off [a] H') vn (nsD ns), ?_, ?_⟩
    · exact ⟨_, rfl, _, rfl, a, most, rfl, hs, m1, m3, fun v ns H' r k' s' d => ⟨v, ns, rfl, r, k', s', d⟩⟩
    rintro σ' H1 ⟨vn, ns, rfl, hreg, k1, s1, dn⟩
    let T : V → Option V → Option V → L2.St := fun vl x4 x5 => [some (.ref a), some (.int most), some vn, some vl, x4, x5]
    let M : L2.St → Hp → Prop := fun σ' H' => ∃ vl ls x4 x5, σ' = T vl x4 x5 ∧ Keep [a] H1 H' ∧ Src H' a ∧ Dl K (off [a] H') vl (linesL ls) ∧ VRule ns ls
    refine ⟨fun σ' H' => ∃ vl ls, σ' = T vl none none ∧ Keep [] H1 H' ∧ Dl K (off [a] H') vl (linesL ls) ∧ VRule ns ls, ?_, ?_⟩
    · exact ⟨_, rfl, [a], vn, ns, rfl, s1.live, dn, hreg, fun v H' ms k' d hv _ => ⟨v, ms, rfl, k', d, hv⟩⟩
    rintro σ' H2 ⟨vl, ls, rfl, k2, dl, hv⟩
    have s2 := s1.keep k2 (by simp)
    have dn2 := dn.k0 k2
    have n3 := nsLen hreg
    refine ⟨M, ?_, ?_⟩
    · refine ⟨_, rfl, a, 3, rfl, s2, by decide, by decide, fun r H3 r0 r1 k3 s3 => ⟨rfl, _, rfl, ite2 (fun _ => ?_) (fun _ => ⟨vl, ls, none, none, rfl, (Keep.of_nil k2).trans k3, s3, dl.k k3, hv⟩)⟩⟩
      refine ⟨fun σ' H' => ∃ n : Nat, σ' = T vl (some (.int (n : Int))) none ∧ n ≤ 3 ∧ Keep [a] H3 H' ∧ Src H' a, ?_, ?_⟩
      · refine ⟨_, rfl, a, 4, rfl, s3, by decide, by decide, fun r2 H4 r3 r4 k4 s4 => ?_⟩
        obtain ⟨n, rfl⟩ := Int.eq_ofNat_of_zero_le r3
        exact ⟨n, rfl, by omega, k4, s4⟩
      rintro σ' H4 ⟨n, rfl, n3', k4, s4⟩
      have k24 : Keep [a] H2 H4 := k3.trans k4
      refine rd_asg ⟨_, rfl, _, _, rfl, rfl, _, rfl, by omega, by omega, fun D hD => ?_⟩
      have Da : D ≠ a := (ne_of_none s4.choose_spec.choose_spec.1 hD).symm
      refine lc_range (lo := 0) (n := n + 1) (fun i H' => ∃ (xs : List V) (zs : List Ln), H' D = some (.lst xs) ∧ DtAll K H' xs (zs.map lnD) ∧ zs.length = i ∧ Keep [a] H4 H' ∧ Src H' a ∧ (∀ z ∈ zs, GoodL ns z) ∧ ∀ z, zs[n]? = some z → z.tests = []) ⟨[], [], upd_same, .nil, rfl, Keep.new hD, s4.keep (Keep.new (m := []) hD) (by simp), all0, fun z e => by cases e⟩ ?_ ?_
      · rintro i H' hi ⟨xs, zs, e', dx, lz, k', s', gz, tz⟩
        refine ⟨rfl, ?_⟩
        refine ⟨_, rfl, _, rfl, _, rfl, _, rfl, rfl, a, vn, ns, _, rfl, s', dn2.k (k24.trans k'), n3, fun v H5 z k5 s5 dz gz5 tz5 => ⟨xs, k5 _ _ (by simpa using Da) e', ?_, ?_⟩⟩
        · rw [dx.length, List.length_map, lz]
          exact Nat.lt_of_lt_of_le (show i < 100 by omega) (by decide)
        · have e5 := k5 _ _ (by simpa using Da) e'
          have kp : Keep [D] H5 (upd H5 D (.lst (xs ++ [v]))) := Keep.at_ (by simp)
          refine ⟨xs ++ [v], zs ++ [z], upd_same, ?_, by rw [List.length_append, lz]; rfl, Keep.own (k'.trans k5) hD, s5.keep kp (by simpa using Da.symm), ?_, ?_⟩
          · rw [List.map_append]
            exact ((dx.keep k5 s'.soft).append (.cons dz .nil)).keep kp (Soft.lst e5)
          · intro y hy
            rcases List.mem_append.mp hy with hy | hy
            · exact gz y hy
            · rw [List.mem_singleton.mp hy]
              exact gz5
          · intro y hy
            rcases Nat.lt_or_ge n zs.length with h | h
            · rw [List.getElem?_append_left h] at hy
              exact tz y hy
            · have e : n = i := by
                have q := (List.getElem?_eq_some_iff.mp hy).1
                rw [List.length_append, List.length_singleton] at q
                omega
              subst e
              rw [List.getElem?_append_right (by omega), lz, Nat.sub_self] at hy
              cases hy
              exact tz5 (decide_eq_true (by rw [Int.zero_add]))
      · rintro H' ⟨xs, zs, e', dx, lz, k', s', gz, tz⟩
        refine ⟨.ref D, zs, _, _, rfl, ((Keep.of_nil k2).trans k24).trans k', s', .lst (by rw [off_out (by simpa using Da)]; exact e') (dtAll_off s'.soft dx).dl, hreg, by omega, gz, fun z hz => tz z ?_⟩
        rw [lz] at hz
        exact hz
    rintro σ' H5 ⟨vl5, ls5, x4, x5, rfl, k5, s5, dl5, hv5⟩
    let Pv : Nat → L2.St → Hp → Prop := fun i σ' H' => ∃ vl ls x5, σ' = T vl x4 x5 ∧ Keep [a] H1 H' ∧ Src H' a ∧ Dl K (off [a] H') vl (linesL ls) ∧ VRule ns ls
    refine ⟨Pv 0, ?_, ?_⟩
    · refine ⟨_, rfl, a, 3, rfl, s5, by decide, by decide, fun r H6 r0 r1 k6 s6 => ⟨r, rfl, by omega, by omega, for_range (lo := 0) Pv ⟨vl5, ls5, x5, rfl, k5.trans k6, s6, dl5.k k6, hv5⟩ ?_ (fun _ _ z => z)⟩⟩
      rintro i σ' H7 hi ⟨vl7, ls7, x7, rfl, k7, s7, dl7, hv7⟩
      exact ⟨_, rfl, _, rfl, _, rfl, a, vn, vl7, ns, ls7, rfl, s7, dn.k k7, dl7, hv7, fun v H8 ls8 k8 s8 d8 hv8 => ⟨v, ls8, _, rfl, k7.trans k8, s8, d8, hv8⟩⟩
    rintro σ' H6 ⟨vl6, ls6, x6, rfl, k6, s6, dl6, hv6⟩
    refine ⟨_, rfl, _, rfl, (by show 2 ≤ sizeLine; decide), fun p hp => ?_⟩
    have kp : Keep [] H6 (upd H6 p (.lst [vn, vl6])) := Keep.new hp
    exact k (.ref p) ns ls6 _ hv6 (k1.trans (k6.trans (Keep.of_nil kp))) (s6.keep kp (by simp)) (.lst (off_new s6.live hp) (.cons ((dn.k k6).k0 kp) (.cons (dl6.k0 kp) .nil)))
end
end La
set_option Elab.async false
set_option linter.all false
set_option maxRecDepth 100000
set_option maxHeartbeats 4000000
namespace La
open PySem PySem.Spec PyProof.Rows L2 SM
theorem lines_map_inj {a b : List Ln} (h : a.map lnD = b.map lnD) : a = b := map_inj (fun _ _ => line_inj) h
/-- Rule(..) of what may be made -/
theorem make_rule {K : PySem.W.Frag} {H : Hp} {x dx : Addr} {vr vl : V} {dr dl : PyData} {Q : VK} {E : XK} {ns : List Str} {ls : List Ln} (hx : H x = some (.ins (He.ga K "Rule") dx [])) (hr : Dq K H vr dr) (hl : Dq K H vl dl) (v : VRule ns ls)
    (er : itemsOf dr = ns.map .str) (el : itemsOf dl = ls.map lnD) (cr : isRegs dr = true) (cl : linesIn dl = true) (k : ∀ H', Keep [x] H H' → RuleIs K H' x ns ls → Q .non H') : spMakeRule K [.ref x, vr, vl] H Q E := by
  have es : strsOf (itemsOf dr) = ns := by rw [er, strsOf_map]
  refine ⟨x, dx, vr, vl, dr, dl, rfl, hx, hr, hl, fun e he y q => ?_, fun d hd => ?_, fun c => ?_, fun _ c => ?_, fun _ _ i fb => ?_, fun _ _ _ H' ls' e _ kk r => ?_⟩
  · rw [er] at he
    obtain ⟨s, hs, rfl⟩ := List.mem_map.mp he
    cases q
    exact Nat.le_trans (v.okN.2.2 _ hs) (by decide)
  · rw [el] at hd
    obtain ⟨z, hz, rfl⟩ := List.mem_map.mp hd
    exact goodL_lay v.okN.2.1 (v.good z hz)
  · rw [cr] at c
    cases c
  · rw [cl] at c
    cases c
  · rw [es, el, v.noBad] at fb
    cases fb
  · rw [es] at r
    rw [el] at e
    rw [← lines_map_inj e] at r
    exact k H' kk r
theorem VRule.regs2 {ns : List Str} {ls : List Ln} (v : VRule ns ls) : isRegs (.list (ns.map .str)) = true ∧ isRegs (.tuple (ns.map .str)) = true ∧ linesIn (.list (ls.map lnD)) = true ∧ linesIn (.tuple (ls.map lnD)) = true := by
  have h : (decide (1 ≤ (ls.map lnD).length) && decide ((ls.map lnD).length ≤ 8)) = true := by
    rw [List.length_map, Bool.and_eq_true, decide_eq_true_eq, decide_eq_true_eq]
    exact v.few
  exact ⟨v.regs, v.regs, h, h⟩
section
variable {P : Program} {w : World} {K : PySem.W.Frag} {mg : Str → Option Value} {base : Heap}
abbrev s__law_made : Stmt := (top 72)
abbrev N__law_made : List Str := ["rule"]
abbrev P__law_made : List Str := ["rule"]
theorem sc__law_made : FnScope N__law_made P__law_made (defScope s__law_made) := ⟨rfl, rfl, rfl, by decide +kernel, rfl, by decide +kernel, by decide +kernel⟩
theorem D_law_made (W : Cw fas fns K mg) (IR : ∃ fd, FnOk P w K mg base (CX P w) 5 (He.ma K (He.ga K "Rule") "__init__") fd ["self", "registers", "lines"] (spMakeRule K) ∧ Binds K fd ["self", "registers", "lines"] []) : DefOk P w K mg base CX0 7 "_law_made" P__law_made (spMade K) := by
  refine DefOk.of W 29 61 (st := s__law_made) rfl rfl sc__law_made (fun _ _ _ _ _ _ us hl => match us, hl with | [_], _ => rfl) (fun vs H Q E h => ?_) (fun cdv A outer s H vs Q E hr h => ?_)
  · obtain ⟨m, v, ns, ls, rfl, _⟩ := h
    rfl
  · obtain ⟨m, v, ns, ls, rfl, hp, hv, k⟩ := h
    obtain ⟨fdR, FR, bR⟩ := IR
    have MR : Mk K (He.ga K "Rule") (He.ma K (He.ga K "Rule") "__init__") := He.mkr_ok (W.fact 91)
    have gR := W.glo 40
    refine ⟨_, PSs.nox (pss_one (ps_ret (pe_make MR FR (hr.mono (by decide)) (by rfl) gR bR .nil (passes_call (W := fun _ _ _ _ => False) (E := E0) takes0 (fun _ _ _ _ h => h)) (pa_cons (pe_callTy call_list_of (by rfl) (W.fre 75) (by decide +kernel) (pa_cons (pe_ix ix_seq (pv 0) pe_int (fun _ _ => rfl)) pa_nil)) (pa_cons (pe_callTy call_list_of (by rfl) (W.fre 75) (by decide +kernel) (pa_cons (pe_ix ix_seq (pv 0) pe_int (fun _ _ => rfl)) pa_nil)) pa_nil))))), ?_⟩
    have hp0 : Dl K (off [] H) v (ruleD ns ls) := hp.whole.mono off_nil
    have X0 : LlE K [] (tOp (rIx K) (tVar 0) (tC (.int 0))) [some v] H (nsD ns) := LlE.ixL (n := 0) (i := 0) (.var rfl hp0) (fun H1 Q q => q) rfl (.inl rfl)
    have X1 : LlE K [] (tOp (rIx K) (tVar 0) (tC (.int 1))) [some v] H (linesL ls) := LlE.ixL (n := 1) (i := 1) (.var rfl hp0) (fun H1 Q q => q) rfl (.inl rfl)
    refine rd_ret (show tCons _ _ _ _ _ from rd_cons (rd_cb1 (X0 H Keep.refl _ fun v0 H1 k1 d0 => ?_)))
    obtain ⟨a0, rfl, h0'⟩ := d0.names
    have h0 := (off_some h0').2
    refine ⟨a0, _, rfl, .inl (SqL.of h0), fun l0 hl0 => ?_⟩
    have kl0 : Keep [] H1 (upd H1 l0 (.lst (ns.map .str))) := Keep.new hl0
    have k01 := k1.trans kl0
    refine rd_cons (rd_cb1 (X1 _ k01 _ fun v1 H2 k2 d1 => ?_))
    obtain ⟨a1, xs1, rfl, h1', dl1⟩ := d1.lst_of
    have h1 := (off_some h1').2
    have ds1 : DtAll K H2 xs1 (ls.map lnD) := DlAll_dt dl1.whole (onlyTs_all onlyT_line _)
    refine ⟨a1, xs1, rfl, .inl (SqL.of h1), fun l1 hl1 => ?_⟩
    have kl1 : Keep [] H2 (upd H2 l1 (.lst xs1)) := Keep.new hl1
    have k02 := k01.trans (k2.trans kl1)
    show ∀ x dx, _
    intro x dx nx ndx ne
    have ka : Keep [] (upd H2 l1 (.lst xs1)) (upd (upd H2 l1 (.lst xs1)) dx (.own x)) := Keep.new ndx
    have kb : Keep [] (upd (upd H2 l1 (.lst xs1)) dx (.own x)) (upd (upd (upd H2 l1 (.lst xs1)) dx (.own x)) x (.ins (He.ga K "Rule") dx [])) := Keep.new (by rw [upd_ne ne.symm]; exact nx)
    have kab := ka.trans kb
    have kl1ab := kl1.trans kab
    refine make_rule upd_same (dr := .list (ns.map .str)) (dl := .list (ls.map lnD)) ?_ ?_ hv rfl rfl hv.regs2.1 hv.regs2.2.2.1 fun H' k' ri => ⟨rfl, ?_⟩
    · exact .lst (.inl (.inl ((k2.trans kl1ab).to upd_same))) (DqAll.strs ns)
    · exact .lst (.inl (.inl (kab.to upd_same))) ((ds1.k0 kl1ab).dq)
    · exact k x H' (k02.trans (kab.offNew k' nx)) (k02.free (by simp) nx) ri
end
end La
set_option Elab.async false
set_option linter.all false
set_option maxRecDepth 100000
set_option maxHeartbeats 4000000
namespace La
open PySem PySem.Spec PyProof.Rows L2 SM
def nextN (g : Int) : PyData → Int
  | .int i => if i > g then i else g
  | _ => g
def isIdx (n : Int) : PyData → Bool
  | .int i => decide (0 ≤ i) && decide (i < n)
  | _ => false
def areN : Int → List PyData → Bool
  | _, [] => true
  | g, d :: ds => isIdx (g + 2) d && areN (nextN g d) ds
def isIntB : PyData → Bool
  | .int _ => true
  | .bool _ => true
  | _ => false
theorem kit_int {K : PySem.W.Frag} (d : PyData) : PySem.W.kitOne K (.type (tyN d)) (.type "int") = some (isIntB d) := by cases d <;> rfl
def isNums (n : Nat) : PyData → Bool
  | .tuple ds => decide (ds.length = n) && areN 0 ds
  | _ => false
def spIndex (K : PySem.W.Frag) : Sp := fun vs H Q _ => ∃ v d n, vs = [v, .int n] ∧ Dq K H v d ∧ Q (.bl (isIdx n d)) H
def spNums (K : PySem.W.Frag) : Sp := fun vs H Q _ => ∃ (v : V) (d : PyData) (n : Nat), vs = [v, .int (n : Int)] ∧ Dq K H v d ∧ Q (.bl (isNums n d)) H
theorem isIdx_int {n : Int} {d : PyData} (h : isIdx n d = true) : ∃ i, d = .int i ∧ 0 ≤ i ∧ i < n := by
  cases d with
  | int i =>
    rw [isIdx, Bool.and_eq_true, decide_eq_true_eq, decide_eq_true_eq] at h
    exact ⟨i, rfl, h⟩
  | _ => cases h
section
variable {P : Program} {w : World} {K : PySem.W.Frag} {mg : Str → Option Value} {base : Heap}
abbrev s_is_index : Stmt := (top 26)
abbrev N_is_index : List Str := ["value", "size"]
abbrev P_is_index : List Str := ["value", "size"]
theorem sc_is_index : FnScope N_is_index P_is_index (defScope s_is_index) := ⟨rfl, rfl, rfl, by decide +kernel, rfl, by decide +kernel, by decide +kernel⟩
theorem Dis_index (W : Cw fas fns K mg) : DefOk P w K mg base CX0 1 "is_index" P_is_index (spIndex K) := by
  refine DefOk.of W 3 23 (st := s_is_index) rfl rfl sc_is_index (fun _ _ _ _ _ _ us hl => match us, hl with | [_, _], _ => rfl) (fun vs H Q E h => ?_) (fun cdv A outer s H vs Q E hr h => ?_)
  · obtain ⟨v, d, n, rfl, _⟩ := h
    rfl
  · obtain ⟨v, d, n, rfl, hv, k⟩ := h
    refine ⟨_, PSs.nox (pss_one (ps_ret (pe_and (pe_callB call_isi (by rfl) (W.fre 73) (by decide +kernel) (pa_cons (pv 0) (pa_cons (pe_bltn (v := .ty "int") (by rfl) (W.fre 72) (show bootBuiltins "int" = some (.type "int") by decide +kernel) rfl) pa_nil))) (pe_and (pe_not (pe_callB call_isi (by rfl) (W.fre 73) (by decide +kernel) (pa_cons (pv 0) (pa_cons (pe_bltn (v := .ty "bool") (by rfl) (W.fre 70) (show bootBuiltins "bool" = some (.type "bool") by decide +kernel) rfl) pa_nil)))) (pe_one (pe_chain op_le op_lt pe_int (pv 0) (pv 1))))))), ?_⟩
    refine ⟨_, rfl, _, _, _, _, _, rfl, .ty _, hv.ty, kit_int d, _, rfl, ?_⟩
    cases hv with
    | int i =>
      refine iteT ⟨_, rfl, _, _, _, _, _, rfl, .ty _, .base (.int i), kit_bool (.int i), _, rfl, _, rfl, iteT ?_⟩
      refine ⟨_, rfl, _, _, rfl, rfl, _, rfl, ite2 (fun h => ?_) (fun h => ?_)⟩
      · refine ⟨_, rfl, _, _, rfl, rfl, ?_⟩
        have h' : 0 ≤ i := of_decide_eq_true h
        rw [isIdx, decide_eq_true h', Bool.true_and] at k
        exact k
      · have h' : ¬ 0 ≤ i := fun z => h (decide_eq_true z)
        rw [isIdx, decide_eq_false h', Bool.false_and] at k
        exact k
    | bl b => exact iteT ⟨_, rfl, _, _, _, _, _, rfl, .ty _, .base (.bl b), kit_bool (.bool b), _, rfl, _, rfl, iteF k⟩
    | non => exact iteF k
    | str b => exact iteF k
    | lst s t => exact iteF k
    | tup s t => exact iteF k
    | dic s t => exact iteF k
abbrev s_are_numbers : Stmt := (top 42)
abbrev N_are_numbers : List Str := ["value", "size", "greatest", "number"]
abbrev P_are_numbers : List Str := ["value", "size"]
theorem sc_are_numbers : FnScope N_are_numbers P_are_numbers (defScope s_are_numbers) := ⟨rfl, rfl, rfl, by decide +kernel, rfl, by decide +kernel, by decide +kernel⟩
theorem Dare_numbers (W : Cw fas fns K mg) (Dis_index : DefOk P w K mg base CX0 1 "is_index" P_is_index (spIndex K)) : DefOk P w K mg base CX0 2 "are_numbers" P_are_numbers (spNums K) := by
  refine DefOk.of W 5 37 (st := s_are_numbers) rfl rfl sc_are_numbers (fun _ _ _ _ _ _ us hl => match us, hl with | [_, _], _ => rfl) (fun vs H Q E h => ?_) (fun cdv A outer s H vs Q E hr h => ?_)
  · obtain ⟨v, d, n, rfl, _⟩ := h
    rfl
  · obtain ⟨v, d, n, rfl, hv, k⟩ := h
    refine ⟨_, PSs.nox (Evl.pss_cut (ps_if (PW.pt (pw_or (pt_not (pt_val (pe_callB call_isi (by rfl) (W.fre 73) (by decide +kernel) (pa_cons (pv 0) (pa_cons (pe_bltn (v := .ty "tuple") (by rfl) (W.fre 83) (show bootBuiltins "tuple" = some (.type "tuple") by decide +kernel) rfl) pa_nil))))) (pw_or1 (pt_cmpR op_ne (pe_callB call_len_seq (by rfl) (W.fre 74) (by decide +kernel) (pa_cons (pv 0) pa_nil)) (pv 1) (nomark _))))) (pss_one (ps_ret pe_bl)) pss_nil) (Evl.pss_cut (ps_set (i := 2) sc_are_numbers.nd rfl (by first | exact Or.inl rfl | exact Or.inr rfl) pe_int) (Evl.pss_cut (ps_for PassesOwn.never rfl (pi_tup (pv 0)) (pg_name (i := 3) sc_are_numbers.nd rfl (by first | exact Or.inl rfl | exact Or.inr rfl)) (Evl.pss_cut (ps_if (pt_not (pt_val (SM.pe_callD Dis_index (hr.mono (by decide)) pass0 (pa_cons (pv 3) (pa_cons (pe_op op_add (pv 2) pe_int) pa_nil))))) (pss_one (ps_ret pe_bl)) pss_nil) (pss_one (ps_set (i := 2) sc_are_numbers.nd rfl (by first | exact Or.inl rfl | exact Or.inr rfl) (pe_callB (call_max2 rfl) (by rfl) (W.fre 76) (by decide +kernel) (pa_cons (pv 2) (pa_cons (pv 3) pa_nil))))))) (pss_one (ps_ret pe_bl))))), ?_⟩
    refine ⟨fun σ' H' => σ' = [some v, some (.int (n : Int)), none, none] ∧ H' = H ∧ ∃ a xs ds, v = .ref a ∧ SqT K H a xs ∧ DqAll K H xs ds ∧ d = .tuple ds ∧ ds.length = n, ?_, ?_⟩
    · refine ⟨_, rfl, _, _, _, _, _, rfl, .ty _, hv.ty, kit_tup d, _, rfl, ?_⟩
      cases hv with
      | @tup a xs ds s t =>
        refine iteF ⟨_, rfl, _, _, rfl, .inr s, _, rfl, rfl, _, rfl, ite2 (fun h => ?_) (fun h => ?_)⟩
        · rw [isNums, decide_eq_false (fun z => by rw [t.length, z] at h; simp at h), Bool.false_and] at k
          exact k
        · have l2 : (xs.length : Int) = n := lenNe h
          exact ⟨rfl, rfl, a, xs, ds, rfl, s, t, rfl, by rw [← t.length]; omega⟩
      | non => exact iteT k
      | bl b => exact iteT k
      | int b => exact iteT k
      | str b => exact iteT k
      | lst s t => exact iteT k
      | dic s t => exact iteT k
    rintro σ' H1 ⟨rfl, rfl, a, xs, ds, rfl, sq, hd, rfl, ln⟩
    rw [isNums, decide_eq_true ln, Bool.true_and] at k
    let T : Int → Option V → L2.St := fun g x3 => [some (.ref a), some (.int (n : Int)), some (.int g), x3]
    refine ⟨fun σ' H' => σ' = T 0 none ∧ H' = H1, ⟨rfl, rfl⟩, ?_⟩
    rintro σ' H2 ⟨rfl, rfl⟩
    refine ⟨fun σ' H' => H' = H2 ∧ areN 0 ds = true, ?_, ?_⟩
    · refine ⟨_, rfl, a, rfl, ⟨_, sq⟩, for_tup (xs := xs) (fun i σ' H' => ∃ g x3, σ' = T g x3 ∧ H' = H2 ∧ areN 0 ds = areN g (ds.drop i)) ⟨0, none, rfl, rfl, rfl⟩ (fun i σ' H' _ z => by obtain ⟨_, _, _, e, _⟩ := z; rw [e]; exact sq) ?_ ?_⟩
      · rintro i y σ' H3 hy ⟨g, x3, rfl, rfl, ig⟩
        obtain ⟨e, he, hv⟩ := hd.get hy
        rw [List.drop_eq_getElem_cons (List.getElem?_eq_some_iff.mp he).1, (List.getElem?_eq_some_iff.mp he).2, areN] at ig
        refine ⟨fun σ' H' => σ' = T g (some y) ∧ H' = H3 ∧ isIdx (g + 2) e = true, ?_, ?_⟩
        · refine ⟨_, rfl, _, rfl, _, _, rfl, rfl, y, e, g + 2, rfl, hv, _, rfl, ite2 (fun h => ?_) (fun h => ?_)⟩
          · rw [ig, show isIdx (g + 2) e = false by simpa using h, Bool.false_and] at k
            exact k
          · exact ⟨rfl, rfl, by simpa using h⟩
        rintro σ' H4 ⟨rfl, rfl, hi⟩
        obtain ⟨z, rfl, z0, z1⟩ := isIdx_int hi
        cases hv
        refine ⟨_, rfl, _, rfl, _, _, rfl, ?_⟩
        refine ⟨_, _, rfl, rfl, ?_⟩
        rw [ig, hi, Bool.true_and]
        rfl
      · rintro σ' H3 ⟨g, x3, rfl, rfl, ig⟩
        rw [hd.length, List.drop_length, areN] at ig
        exact ⟨rfl, ig⟩
    rintro σ' H3 ⟨rfl, e⟩
    rw [e] at k
    exact k
end
end La
set_option Elab.async false
set_option linter.all false
set_option maxRecDepth 100000
set_option maxHeartbeats 4000000
namespace La
open PySem PySem.Spec PyProof.Rows L2 SM
/-- a getter that hands out what stands in a slot -/
def spSlot (K : PySem.W.Frag) (f : Addr → Addr → V) : Sp := fun vs H Q _ => ∃ (x dx t l y : Addr), vs = [.ref x] ∧ H x = some (.ins (He.ga K "Rule") dx (ruleFs t l y)) ∧ Q (f t l) H
section
variable {P : Program} {w : World} {K : PySem.W.Frag} {mg : Str → Option Value} {base : Heap}
abbrev s_Rule_registers : Stmt := (inClass (top 49) 1)
abbrev N_Rule_registers : List Str := ["self"]
abbrev P_Rule_registers : List Str := ["self"]
theorem sc_Rule_registers : FnScope N_Rule_registers P_Rule_registers (defScope s_Rule_registers) := ⟨rfl, rfl, rfl, by decide +kernel, rfl, by decide +kernel, by decide +kernel⟩
theorem I_registers (PP : PropAt K q_Rule_registers) (W : Cw fas fns K mg) :
    ∃ fd, FnOk P w K mg base CX0 1 (pga K "Rule" "registers") fd ["self"] (spSlot K fun t _ => .ref t) ∧ Binds K fd ["self"] [] := by
  obtain ⟨fd, F⟩ := PP.fn
  refine ⟨fd, FunD.ok F sc_Rule_registers (fun vs H Q E h => ?_) (fun cdv A outer s H vs Q E hr h => ?_), FunD.bindsN F (fun _ _ _ _ _ _ us hl => match us, hl with | [_], _ => rfl)⟩
  · obtain ⟨x, dx, t, l, y, rfl, _⟩ := h
    rfl
  · obtain ⟨x, dx, t, l, y, rfl, hx, k⟩ := h
    have CR : Cls K (He.ga K "Rule") := He.cls_ok (W.fact 87)
    have N1 : NoAttr K (He.ga K "Rule") "_registers" := He.noat_ok (W.fact 88)
    refine ⟨_, PSs.nox (pss_one (ps_ret (pe_fld (pv 0) rfl))), ?_⟩
    exact ⟨_, rfl, x, _, dx, _, _, rfl, hx, CR, N1, rfl, k⟩
end
def lastZ : PyData → Bool
  | .tuple ds => (match ds[ds.length - 1]? with | some (.int i) => decide (i = 0) | _ => false)
  | _ => false
def truthB : PyData → Bool
  | .bool b => b
  | _ => false
def isPat (n : Nat) : PyData → Bool
  | .tuple [a, m, b] => isNums n a && (isBool b && (PyData.eqv m (.str "own") || (lastZ a && (PyData.eqv m (.str "none") || (PyData.eqv m (.str "free") && truthB b)))))
  | _ => false
theorem isPat_len {n : Nat} {ds : List PyData} (h : ds.length ≠ 3) : isPat n (.tuple ds) = false := by
  match ds, h with
  | [], _ => rfl
  | [_], _ => rfl
  | [_, _], _ => rfl
  | [_, _, _], h => exact absurd rfl h
  | _ :: _ :: _ :: _ :: _, _ => rfl
theorem DqAll_getD {K : PySem.W.Frag} {H : Hp} : ∀ {vs : List V} {ds : List PyData}, DqAll K H vs ds → ∀ {i : Nat} {d : PyData}, ds[i]? = some d → ∃ v, vs[i]? = some v ∧ Dq K H v d
  | _, _, .nil, i, v, e => by simp at e
  | _, _, .cons h t, 0, v, e => by
    simp at e
    subst e
    exact ⟨_, rfl, h⟩
  | _, _, .cons h t, i + 1, v, e => by
    obtain ⟨d, e1, h1⟩ := DqAll_getD t (i := i) (d := v) (by simpa using e)
    exact ⟨d, by simpa using e1, h1⟩
theorem areN_ints : ∀ {ds : List PyData} {g : Int}, areN g ds = true → ∀ d ∈ ds, ∃ i, d = .int i ∧ 0 ≤ i
  | [], _, _, d, z => by cases z
  | e :: ds, g, h, d, z => by
    rw [areN, Bool.and_eq_true] at h
    rcases List.mem_cons.mp z with rfl | z
    · obtain ⟨i, e, h0, _⟩ := isIdx_int h.1
      exact ⟨i, e, h0⟩
    · exact areN_ints h.2 d z
theorem nums_last {n : Nat} {d : PyData} (h : isNums (n + 3) d = true) : ∃ ds i, d = .tuple ds ∧ lastZ (.tuple ds) = decide (i = 0) ∧ ds[ds.length - 1]? = some (.int i) := by
  cases d with
  | tuple ds =>
    rw [isNums, Bool.and_eq_true, decide_eq_true_eq] at h
    have hl : ds.length - 1 < ds.length := by omega
    obtain ⟨i, e, _⟩ := areN_ints h.2 _ (List.getElem_mem hl)
    have e' : ds[ds.length - 1]? = some (.int i) := by rw [List.getElem?_eq_getElem hl, e]
    exact ⟨ds, i, rfl, by rw [lastZ, e'], e'⟩
  | _ => cases h
def OkV (d : PyData) : Prop := Lay 60 d ∨ d = .dict []
def spPat (K : PySem.W.Frag) : Sp := fun vs H Q _ => ∃ (x : Addr) (v : V) (d : PyData) (ns : List Str) (ls : List Ln), vs = [.ref x, v] ∧ RuleIs K H x ns ls ∧ ns.length ≤ 3 ∧ Dq K H v d ∧ OkV d ∧ Q (.bl (isPat (ns.length + 3) d)) H
section
variable {P : Program} {w : World} {K : PySem.W.Frag} {mg : Str → Option Value} {base : Heap}
abbrev s_is_pattern : Stmt := (top 38)
abbrev N_is_pattern : List Str := ["rule", "value", "numbers", "mark", "amid"]
abbrev P_is_pattern : List Str := ["rule", "value"]
theorem sc_is_pattern : FnScope N_is_pattern P_is_pattern (defScope s_is_pattern) := ⟨rfl, rfl, rfl, by decide +kernel, rfl, by decide +kernel, by decide +kernel⟩
theorem Dis_pattern (PG : PropAt K q_Rule_registers) (W : Cw fas fns K mg) (Dare_numbers : DefOk P w K mg base CX0 2 "are_numbers" P_are_numbers (spNums K)) : DefOk P w K mg base CX0 3 "is_pattern" P_is_pattern (spPat K) := by
  refine DefOk.of W 4 33 (st := s_is_pattern) rfl rfl sc_is_pattern (fun _ _ _ _ _ _ us hl => match us, hl with | [_, _], _ => rfl) (fun vs H Q E h => ?_) (fun cdv A outer s H vs Q E hr h => ?_)
  · obtain ⟨x, v, d, ns, ls, rfl, _⟩ := h
    rfl
  · obtain ⟨x, v, d, ns, ls, rfl, ri, n3, hv, hl, k⟩ := h
    have CR : Cls K (He.ga K "Rule") := He.cls_ok (W.fact 87)
    obtain ⟨fdPg, FPg, bPg⟩ := I_registers (P := P) (w := w) (base := base) PG W
    refine ⟨_, PSs.nox (Evl.pss_cut (ps_if (PW.pt (pw_or (pt_not (pt_val (pe_callB call_isi (by rfl) (W.fre 73) (by decide +kernel) (pa_cons (pv 1) (pa_cons (pe_bltn (v := .ty "tuple") (by rfl) (W.fre 83) (show bootBuiltins "tuple" = some (.type "tuple") by decide +kernel) rfl) pa_nil))))) (pw_or1 (pt_cmpR op_ne (pe_callB call_len_seq (by rfl) (W.fre 74) (by decide +kernel) (pa_cons (pv 1) pa_nil)) pe_int (nomark _))))) (pss_one (ps_ret pe_bl)) pss_nil) (Evl.pss_cut (ps_asg (pv 1) (pg_tup (by rfl) (pgs_cons (pg_name (i := 2) sc_is_pattern.nd rfl (by first | exact Or.inl rfl | exact Or.inr rfl)) (pgs_cons (pg_name (i := 3) sc_is_pattern.nd rfl (by first | exact Or.inl rfl | exact Or.inr rfl)) (pgs_cons (pg_name (i := 4) sc_is_pattern.nd rfl (by first | exact Or.inl rfl | exact Or.inr rfl)) pgs_nil))))) (Evl.pss_cut (ps_if (PW.pt (pw_or (pt_not (pt_val (SM.pe_callD Dare_numbers (hr.mono (by decide)) pass0 (pa_cons (pv 2) (pa_cons (pe_op op_add (pe_callB call_len_seq (by rfl) (W.fre 74) (by decide +kernel) (pa_cons (pe_prop (pv 0) CR PG.of FPg (hr.mono (by decide)) bPg .nil pass0 rfl) pa_nil)) pe_int) pa_nil))))) (pw_or1 (pt_not (pt_val (pe_callB call_isi (by rfl) (W.fre 73) (by decide +kernel) (pa_cons (pv 4) (pa_cons (pe_bltn (v := .ty "bool") (by rfl) (W.fre 70) (show bootBuiltins "bool" = some (.type "bool") by decide +kernel) rfl) pa_nil)))))))) (pss_one (ps_ret pe_bl)) pss_nil) (Evl.pss_cut (ps_if (pt_cmpR (op_eqD hr.units) (pv 3) pe_str (nomark _)) (pss_one (ps_ret pe_bl)) pss_nil) (pss_one (ps_ret (pe_and (pe_cmpR op_eq (pe_ix ix_seq (pv 2) (pe_un un_neg pe_int) (fun _ _ => rfl)) pe_int (nomark _)) (pe_one (pe_or (pe_cmpR (op_eqD hr.units) (pv 3) pe_str (nomark _)) (pe_one (pe_and (pe_cmpR (op_eqD hr.units) (pv 3) pe_str (nomark _)) (pe_one (pv 4))))))))))))), ?_⟩
    let T : V → Option V → Option V → Option V → L2.St := fun v x2 x3 x4 => [some (.ref x), some v, x2, x3, x4]
    refine ⟨fun σ' H' => σ' = T v none none none ∧ H' = H ∧ ∃ a x0 x1 x2 d0 d1 d2, v = .ref a ∧ SqT K H a [x0, x1, x2] ∧ d = .tuple [d0, d1, d2] ∧ AnyV K H x0 d0 ∧ AnyV K H x1 d1 ∧ AnyV K H x2 d2, ?_, ?_⟩
    · refine ⟨_, rfl, _, _, _, _, _, rfl, .ty _, hv.ty, kit_tup d, _, rfl, ?_⟩
      cases hv with
      | @tup a xs ds s t =>
        have hl : Lay 60 (.tuple ds) := by
          rcases hl with h | h
          · exact h
          · cases h
        refine iteF ⟨_, rfl, _, _, rfl, .inr s, rfl, _, rfl, ite2 (fun h => ?_) (fun h => ?_)⟩
        · rw [isPat_len fun z => by rw [t.length, z] at h; exact absurd h (by decide)] at k
          exact k
        · have l2 := lenNe h
          rw [t.length] at l2
          obtain ⟨d0, d1, d2, rfl⟩ : ∃ d0 d1 d2, ds = [d0, d1, d2] := by
            match ds, l2 with
            | [d0, d1, d2], _ => exact ⟨d0, d1, d2, rfl⟩
          cases t with
          | cons t0 t =>
            cases t with
            | cons t1 t =>
              cases t with
              | cons t2 t =>
                cases t
                exact ⟨rfl, rfl, a, _, _, _, d0, d1, d2, rfl, s, rfl, ⟨t0, (hl.items d0 (by simp)).mono (by decide)⟩, ⟨t1, (hl.items d1 (by simp)).mono (by decide)⟩, ⟨t2, (hl.items d2 (by simp)).mono (by decide)⟩⟩
      | non => exact iteT k
      | bl b => exact iteT k
      | int b => exact iteT k
      | str b => exact iteT k
      | lst s t => exact iteT k
      | dic s t => exact iteT k
    rintro σ' H1 ⟨rfl, rfl, a, x0, x1, x2, d0, d1, d2, rfl, sq, rfl, h0, h1, h2⟩
    rw [isPat] at k
    refine ⟨fun σ' H' => σ' = T (.ref a) (some x0) (some x1) (some x2) ∧ H' = H1, ⟨_, rfl, a, _, rfl, sq, rfl, x0, _, rfl, x1, _, rfl, x2, _, rfl, rfl, rfl, rfl⟩, ?_⟩
    rintro σ' H2 ⟨rfl, rfl⟩
    refine ⟨fun σ' H' => σ' = T (.ref a) (some x0) (some x1) (some x2) ∧ H' = H2 ∧ isNums (ns.length + 3) d0 = true ∧ isBool d2 = true, ?_, ?_⟩
    · obtain ⟨dx, t, l, y, xs, ex, st, sl, dl⟩ := ri
      have el : ((ns.map V.str).length : Int) + 3 = ((ns.length + 3 : Nat) : Int) := by rw [List.length_map]; rfl
      refine ⟨_, rfl, _, rfl, x, dx, _, rfl, ex, x, dx, t, l, y, rfl, ex, t, ns.map V.str, rfl, .inr st, _, _, rfl, rfl, x0, d0, ns.length + 3, congrArg (fun z => [x0, V.int z]) el, h0.dq, _, rfl, ite2 (fun h => ?_) (fun h => ?_)⟩
      · rw [show isNums (ns.length + 3) d0 = false by simpa using h, Bool.false_and] at k
        exact k
      have e0 : isNums (ns.length + 3) d0 = true := by simpa using h
      refine ⟨_, rfl, _, _, _, _, _, rfl, .ty _, h2.dq.ty, kit_bool d2, _, rfl, ite2 (fun h => ?_) (fun h => ?_)⟩
      · rw [show isBool d2 = false by simpa using h, Bool.false_and, Bool.and_false] at k
        exact k
      · exact ⟨rfl, rfl, e0, by simpa using h⟩
    rintro σ' H3 ⟨rfl, rfl, e0, e2⟩
    rw [e0, e2, Bool.true_and, Bool.true_and] at k
    have p1 : Dp K H3 x1 d1 := h1.dq.toDp h1.lay.1
    have s1 : SeqAt.shaped d1 = true := h1.lay.shaped (by decide)
    refine ⟨fun σ' H' => σ' = T (.ref a) (some x0) (some x1) (some x2) ∧ H' = H3 ∧ PyData.eqv d1 (.str "own") = false, ?_, ?_⟩
    · refine ⟨_, rfl, d1, .str "own", p1, .str _, s1, shaped_str (by decide +kernel), _, rfl, ite2 (fun h => ?_) (fun h => ?_)⟩
      · rw [show PyData.eqv d1 (.str "own") = true from h, Bool.true_or] at k
        exact k
      · exact ⟨rfl, rfl, Bool.eq_false_iff.mpr h⟩
    rintro σ' H4 ⟨rfl, rfl, eo⟩
    rw [eo, Bool.false_or] at k
    obtain ⟨ds, i, rfl, li, el⟩ := nums_last e0
    have hq0 := h0.dq
    cases hq0 with
    | @tup a0 xs0 _ s0 t0 =>
      obtain ⟨u, hu, du⟩ := DqAll_getD t0 el
      cases du
      rw [li] at k
      have au : atI xs0 (-1) = some (.int i) := SM.at_neg (by rw [t0.length]; exact hu)
      refine ⟨_, rfl, 1, rfl, .inr (.inl ⟨a0, xs0, -1, _, rfl, rfl, s0, au, rfl, _, rfl, ite2 (fun h => ?_) (fun h => ?_)⟩)⟩
      · have i0 : i = 0 := V.int.inj (of_decide_eq_true h)
        rw [decide_eq_true i0, Bool.true_and] at k
        refine ⟨_, rfl, d1, .str "none", p1, .str _, s1, shaped_str (by decide +kernel), _, rfl, ite2 (fun h => ?_) (fun h => ?_)⟩
        · rw [show PyData.eqv d1 (.str "none") = true from h, Bool.true_or] at k
          exact k
        rw [show PyData.eqv d1 (.str "none") = false from Bool.eq_false_iff.mpr h, Bool.false_or] at k
        refine ⟨_, rfl, d1, .str "free", p1, .str _, s1, shaped_str (by decide +kernel), _, rfl, ite2 (fun h => ?_) (fun h => ?_)⟩
        · rw [show PyData.eqv d1 (.str "free") = true from h, Bool.true_and] at k
          refine ⟨_, rfl, ?_⟩
          have hq2 := h2.dq
          cases hq2 with
          | bl b => exact k
          | _ => cases e2
        · rw [show PyData.eqv d1 (.str "free") = false from Bool.eq_false_iff.mpr h, Bool.false_and] at k
          exact k
      · have i0 : ¬ i = 0 := fun z => h (by rw [z]; rfl)
        rw [decide_eq_false i0, Bool.false_and] at k
        exact k
end
end La
set_option Elab.async false
set_option linter.all false
set_option maxRecDepth 100000
set_option maxHeartbeats 4000000
namespace La
open PySem PySem.Spec PyProof.Rows L2 SM
def spShape (K : PySem.W.Frag) : Sp := fun vs H Q _ => ∃ (m : List Addr) (vr v : V) (d : PyData) (ns : List Str) (ls : List Ln), vs = [vr, v] ∧ Dl K (off m H) vr (ruleD ns ls) ∧ Dq K H v d ∧ OkV d ∧ ∀ H', Keep [] H H' → Q (.bl (isPat (ns.length + 3) d)) H'
theorem eqvS (x y : Str) : PyData.eqv (.str x) (.str y) = decide (x = y) := by
  rw [PyData.eqv]
  by_cases h : x = y
  · rw [h, decide_eq_true rfl]
    exact beq_self_eq_true _
  · rw [decide_eq_false h, Bool.eq_false_iff]
    exact fun z => h (eq_of_beq z)
theorem eqv_noS {d : PyData} (h : isStr d = false) (y : Str) : PyData.eqv d (.str y) = false := by
  cases d with
  | str x => cases h
  | _ => rw [PyData.eqv]
theorem isPat_noNums {n : Nat} {a m b : PyData} (h : isNums n a = false) : isPat n (.tuple [a, m, b]) = false := by rw [isPat, h, Bool.false_and]
theorem isPat_noStr {n : Nat} {a m b : PyData} (h : isStr m = false) : isPat n (.tuple [a, m, b]) = false := by
  rw [isPat, eqv_noS h, eqv_noS h, eqv_noS h]
  simp
theorem isPat_noBool {n : Nat} {a m b : PyData} (h : isBool b = false) : isPat n (.tuple [a, m, b]) = false := by
  rw [isPat, h]
  simp
theorem nnB {b : Bool} (h : ¬ (!b) = true) : b = true := by cases b <;> simp at h ⊢
theorem mem3 (x : Str) : ([PyData.str "none", PyData.str "own", PyData.str "free"].any fun z => z.eqv (.str x)) = decide (x = "none" ∨ x = "own" ∨ x = "free") := by
  have h := any_str x ["none", "own", "free"]
  simp only [List.mem_cons, List.not_mem_nil, or_false] at h
  exact h
theorem isPat_noIn {n : Nat} {a b : PyData} {x : Str} (h : ¬ (x = "none" ∨ x = "own" ∨ x = "free")) : isPat n (.tuple [a, .str x, b]) = false := by
  rw [isPat, eqvS, eqvS, eqvS, decide_eq_false (fun z => h (.inr (.inl z))), decide_eq_false (fun z => h (.inl z)), decide_eq_false (fun z => h (.inr (.inr z)))]
  simp
theorem isPat_full {n : Nat} {es : List PyData} {x : Str} {b : Bool} (h : areN 0 es = true) : isPat n (.tuple [.tuple es, .str x, .bool b]) =
    (decide (es.length = n) && (decide (x = "own") || (lastZ (.tuple es) && (decide (x = "none") || (decide (x = "free") && b))))) := by
  rw [isPat, isNums, h, eqvS, eqvS, eqvS, isBool, truthB, Bool.and_true, Bool.true_and]
section
variable {P : Program} {w : World} {K : PySem.W.Frag} {mg : Str → Option Value} {base : Heap}
abbrev s__law_is_shape : Stmt := (top 75)
abbrev N__law_is_shape : List Str := ["rule", "thing", "top", "number"]
abbrev P__law_is_shape : List Str := ["rule", "thing"]
theorem sc__law_is_shape : FnScope N__law_is_shape P__law_is_shape (defScope s__law_is_shape) := ⟨rfl, rfl, rfl, by decide +kernel, rfl, by decide +kernel, by decide +kernel⟩
theorem D_law_is_shape (W : Cw fas fns K mg) : DefOk P w K mg base CX0 1 "_law_is_shape" P__law_is_shape (spShape K) := by
  refine DefOk.of W 32 64 (st := s__law_is_shape) rfl rfl sc__law_is_shape (fun _ _ _ _ _ _ us hl => match us, hl with | [_, _], _ => rfl) (fun vs H Q E h => ?_) (fun cdv A outer s H vs Q E hr h => ?_)
  · obtain ⟨m, x, v, d, ns, ls, rfl, _⟩ := h
    rfl
  · obtain ⟨m, vr, v, d, ns, ls, rfl, hr', hv, hl, k⟩ := h
    refine ⟨_, PSs.nox (Evl.pss_cut (ps_if (PW.pt (pw_or (pt_not (pt_val (pe_callB call_isi (by rfl) (W.fre 73) (by decide +kernel) (pa_cons (pv 1) (pa_cons (pe_bltn (v := .ty "tuple") (by rfl) (W.fre 83) (show bootBuiltins "tuple" = some (.type "tuple") by decide +kernel) rfl) pa_nil))))) (pw_or (pt_cmpR op_ne (pe_callB call_len_seq (by rfl) (W.fre 74) (by decide +kernel) (pa_cons (pv 1) pa_nil)) pe_int (nomark _)) (pw_or1 (pt_not (pt_val (pe_callB call_isi (by rfl) (W.fre 73) (by decide +kernel) (pa_cons (pe_ix ix_seq (pv 1) pe_int (fun _ _ => rfl)) (pa_cons (pe_bltn (v := .ty "tuple") (by rfl) (W.fre 83) (show bootBuiltins "tuple" = some (.type "tuple") by decide +kernel) rfl) pa_nil))))))))) (pss_one (ps_ret pe_bl)) pss_nil) (Evl.pss_cut (ps_set (i := 2) sc__law_is_shape.nd rfl (by first | exact Or.inl rfl | exact Or.inr rfl) pe_int) (Evl.pss_cut (ps_for PassesOwn.never rfl (pi_tup (pe_ix ix_seq (pv 1) pe_int (fun _ _ => rfl))) (pg_name (i := 3) sc__law_is_shape.nd rfl (by first | exact Or.inl rfl | exact Or.inr rfl)) (Evl.pss_cut (ps_if (PW.pt (pw_or (pt_val (pe_callB call_isi (by rfl) (W.fre 73) (by decide +kernel) (pa_cons (pv 3) (pa_cons (pe_bltn (v := .ty "bool") (by rfl) (W.fre 70) (show bootBuiltins "bool" = some (.type "bool") by decide +kernel) rfl) pa_nil)))) (pw_or (pt_not (pt_val (pe_callB call_isi (by rfl) (W.fre 73) (by decide +kernel) (pa_cons (pv 3) (pa_cons (pe_bltn (v := .ty "int") (by rfl) (W.fre 72) (show bootBuiltins "int" = some (.type "int") by decide +kernel) rfl) pa_nil))))) (pw_or1 (pt_not (pt_chain op_le op_le pe_int (pv 3) (pe_op op_add (pv 2) pe_int))))))) (pss_one (ps_ret pe_bl)) pss_nil) (pss_one (ps_set (i := 2) sc__law_is_shape.nd rfl (by first | exact Or.inl rfl | exact Or.inr rfl) (pe_callB (call_max2 rfl) (by rfl) (W.fre 76) (by decide +kernel) (pa_cons (pv 2) (pa_cons (pv 3) pa_nil))))))) (Evl.pss_cut (ps_if (PW.pt (pw_or (pt_not (pt_val (pe_callB call_isi (by rfl) (W.fre 73) (by decide +kernel) (pa_cons (pe_ix ix_seq (pv 1) pe_int (fun _ _ => rfl)) (pa_cons (pe_bltn (v := .ty "str") (by rfl) (W.fre 82) (show bootBuiltins "str" = some (.type "str") by decide +kernel) rfl) pa_nil))))) (pw_or (pt_cmpR (SM.op_notInA (SM.units65 hr)) (pe_ix ix_seq (pv 1) pe_int (fun _ _ => rfl)) (pe_lst (pa_cons pe_str (pa_cons pe_str (pa_cons pe_str pa_nil)))) (by rfl)) (pw_or1 (pt_not (pt_val (pe_callB call_isi (by rfl) (W.fre 73) (by decide +kernel) (pa_cons (pe_ix ix_seq (pv 1) pe_int (fun _ _ => rfl)) (pa_cons (pe_bltn (v := .ty "bool") (by rfl) (W.fre 70) (show bootBuiltins "bool" = some (.type "bool") by decide +kernel) rfl) pa_nil))))))))) (pss_one (ps_ret pe_bl)) pss_nil) (Evl.pss_cut (ps_if (PW.pt (pw_or (pt_cmpR op_ne (pe_callB call_len_seq (by rfl) (W.fre 74) (by decide +kernel) (pa_cons (pe_ix ix_seq (pv 1) pe_int (fun _ _ => rfl)) pa_nil)) (pe_op op_add (pe_callB call_len_seq (by rfl) (W.fre 74) (by decide +kernel) (pa_cons (pe_ix ix_seq (pv 0) pe_int (fun _ _ => rfl)) pa_nil)) pe_int) (nomark _)) (pw_or1 (PW.pt (pw_and (pt_cmpR op_ne (pe_ix ix_seq (pv 1) pe_int (fun _ _ => rfl)) pe_str (nomark _)) (pw_and1 (pt_cmpR op_ne (pe_ix ix_seq (pe_ix ix_seq (pv 1) pe_int (fun _ _ => rfl)) (pe_un un_neg pe_int) (fun _ _ => rfl)) pe_int (nomark _)))))))) (pss_one (ps_ret pe_bl)) pss_nil) (pss_one (ps_ret (pe_or (pe_cmpR op_ne (pe_ix ix_seq (pv 1) pe_int (fun _ _ => rfl)) pe_str (nomark _)) (pe_one (pe_ix ix_seq (pv 1) pe_int (fun _ _ => rfl))))))))))), ?_⟩
    have k0 := k H Keep.refl
    let T : V → Option V → Option V → L2.St := fun v x2 x3 => [some vr, some v, x2, x3]
    refine ⟨fun σ' H' => σ' = T v none none ∧ H' = H ∧ ∃ a a0 x1 x2 xs es d1 d2, v = .ref a ∧ SqT K H a [.ref a0, x1, x2] ∧ d = .tuple [.tuple es, d1, d2] ∧ SqT K H a0 xs ∧ DqAll K H xs es ∧ AnyV K H x1 d1 ∧ AnyV K H x2 d2, ?_, ?_⟩
    · refine ⟨_, rfl, _, _, _, _, _, rfl, .ty _, hv.ty, kit_tup d, _, rfl, ?_⟩
      cases hv with
      | @tup a xs ds s t =>
        have hl : Lay 60 (.tuple ds) := by
          rcases hl with h | h
          · exact h
          · cases h
        refine iteF ⟨_, rfl, _, _, rfl, .inr s, rfl, _, rfl, ite2 (fun h => ?_) (fun h => ?_)⟩
        · rw [isPat_len fun z => by rw [t.length, z] at h; exact absurd h (by decide)] at k0
          exact k0
        · have l2 := lenNe h
          rw [t.length] at l2
          obtain ⟨d0, d1, d2, rfl⟩ : ∃ d0 d1 d2, ds = [d0, d1, d2] := by
            match ds, l2 with
            | [d0, d1, d2], _ => exact ⟨d0, d1, d2, rfl⟩
          cases t with
          | @cons x0 _ _ _ t0 t =>
            cases t with
            | cons t1 t =>
              cases t with
              | cons t2 t =>
                cases t
                refine ⟨_, rfl, .inr (.inl ⟨a, _, 0, x0, rfl, rfl, s, at0 _ _, _, _, _, _, _, rfl, .ty _, t0.ty, kit_tup d0, _, rfl, ?_⟩)⟩
                cases t0 with
                | @tup a0 ys es s0 u0 => exact iteF ⟨rfl, rfl, a, a0, _, _, ys, es, d1, d2, rfl, s, rfl, s0, u0, ⟨t1, (hl.items d1 (by simp)).mono (by decide)⟩, ⟨t2, (hl.items d2 (by simp)).mono (by decide)⟩⟩
                | non => exact iteT (by rw [isPat_noNums rfl] at k0; exact k0)
                | bl b => exact iteT (by rw [isPat_noNums rfl] at k0; exact k0)
                | int b => exact iteT (by rw [isPat_noNums rfl] at k0; exact k0)
                | str b => exact iteT (by rw [isPat_noNums rfl] at k0; exact k0)
                | lst s t => exact iteT (by rw [isPat_noNums rfl] at k0; exact k0)
                | dic s t => exact iteT (by rw [isPat_noNums rfl] at k0; exact k0)
      | non => exact iteT k0
      | bl b => exact iteT k0
      | int b => exact iteT k0
      | str b => exact iteT k0
      | lst s t => exact iteT k0
      | dic s t => exact iteT k0
    rintro σ' H1 ⟨rfl, rfl, a, a0, x1, x2, xs, es, d1, d2, rfl, sq, rfl, s0, hd, h1, h2⟩
    refine ⟨fun σ' H' => σ' = T (.ref a) (some (.int 0)) none ∧ H' = H1, ⟨rfl, rfl⟩, ?_⟩
    rintro σ' H2 ⟨rfl, rfl⟩
    refine ⟨fun σ' H' => ∃ g x3, σ' = T (.ref a) (some (.int g)) x3 ∧ H' = H2 ∧ areN 0 es = true, ?_, ?_⟩
    · refine ⟨_, rfl, .inr (.inl ⟨a, _, 0, _, rfl, rfl, sq, at0 _ _, a0, rfl, ⟨_, s0⟩, for_tup (xs := xs) (fun i σ' H' => ∃ g x3, σ' = T (.ref a) (some (.int g)) x3 ∧ H' = H2 ∧ areN 0 es = areN g (es.drop i)) ⟨0, none, rfl, rfl, rfl⟩ (fun i σ' H' _ z => by obtain ⟨_, _, _, e, _⟩ := z; rw [e]; exact s0) ?_ ?_⟩)⟩
      · rintro i y σ' H3 hy ⟨g, x3, rfl, rfl, ig⟩
        obtain ⟨e, he, hv⟩ := hd.get hy
        rw [List.drop_eq_getElem_cons (List.getElem?_eq_some_iff.mp he).1, (List.getElem?_eq_some_iff.mp he).2, areN] at ig
        have no : isIdx (g + 2) e = false → Q (.bl false) H3 := fun z => by
          have q := k0
          rw [isPat_noNums (by rw [isNums, ig, z, Bool.false_and, Bool.and_false])] at q
          exact q
        refine ⟨fun σ' H' => σ' = T (.ref a) (some (.int g)) (some y) ∧ H' = H3 ∧ isIdx (g + 2) e = true, ?_, ?_⟩
        · refine ⟨_, rfl, _, _, _, _, _, rfl, .ty _, hv.ty, kit_bool e, _, rfl, ?_⟩
          cases hv with
          | bl b => exact iteT (no rfl)
          | int z =>
            refine iteF ⟨_, rfl, _, _, _, _, _, rfl, .ty _, .base (.int z), kit_int (.int z), _, rfl, iteF ?_⟩
            refine ⟨_, rfl, _, _, rfl, rfl, _, rfl, ite2 (fun h => ?_) (fun h => ?_)⟩
            · refine ⟨_, rfl, _, _, rfl, rfl, _, _, rfl, rfl, _, rfl, ite2 (fun h3 => ?_) (fun h3 => ?_)⟩
              · refine no ?_
                have : ¬ z ≤ g + 1 := fun w => by simp [w] at h3
                rw [isIdx, decide_eq_false (show ¬ z < g + 2 by omega), Bool.and_false]
              · have h0' : 0 ≤ z := of_decide_eq_true h
                have : z ≤ g + 1 := by
                  rcases Int.lt_or_le (g + 1) z with w | w
                  · simp [show ¬ z ≤ g + 1 by omega] at h3
                  · exact w
                exact ⟨rfl, rfl, by rw [isIdx, decide_eq_true h0', decide_eq_true (show z < g + 2 by omega)]; rfl⟩
            · refine ⟨_, rfl, ?_⟩
              have h0' : ¬ 0 ≤ z := fun w => h (decide_eq_true w)
              refine iteT (no ?_)
              rw [isIdx, decide_eq_false h0', Bool.false_and]
          | non => exact iteF ⟨_, rfl, _, _, _, _, _, rfl, .ty _, .base .non, kit_int .none, _, rfl, iteT (no rfl)⟩
          | str b => exact iteF ⟨_, rfl, _, _, _, _, _, rfl, .ty _, .base (.str b), kit_int (.str b), _, rfl, iteT (no rfl)⟩
          | @lst _ _ ds s t => exact iteF ⟨_, rfl, _, _, _, _, _, rfl, .ty _, Dq.ty (.lst s t), kit_int (.list ds), _, rfl, iteT (no rfl)⟩
          | @tup _ _ ds s t => exact iteF ⟨_, rfl, _, _, _, _, _, rfl, .ty _, Dq.ty (.tup s t), kit_int (.tuple ds), _, rfl, iteT (no rfl)⟩
          | @dic _ kvs ds s t => exact iteF ⟨_, rfl, _, _, _, _, _, rfl, .ty _, Dq.ty (.dic s t), kit_int (.dict _), _, rfl, iteT (no rfl)⟩
        rintro σ' H4 ⟨rfl, rfl, hi⟩
        obtain ⟨z, rfl, z0, z1⟩ := isIdx_int hi
        cases hv
        refine ⟨_, rfl, _, rfl, _, _, rfl, ?_⟩
        refine ⟨_, _, rfl, rfl, ?_⟩
        rw [ig, hi, Bool.true_and]
        rfl
      · rintro σ' H3 ⟨g, x3, rfl, rfl, ig⟩
        rw [hd.length, List.drop_length, areN] at ig
        exact ⟨g, x3, rfl, rfl, ig⟩
    rintro σ' H3 ⟨g, x3, rfl, rfl, ig⟩
    refine ⟨fun σ' H' => ∃ x b, σ' = T (.ref a) (some (.int g)) x3 ∧ Keep [] H3 H' ∧ d1 = .str x ∧ d2 = .bool b ∧ x1 = .str x ∧ x2 = .bl b ∧ (x = "none" ∨ x = "own" ∨ x = "free"), ?_, ?_⟩
    · refine ⟨_, rfl, .inr (.inl ⟨a, _, 1, x1, rfl, rfl, sq, at1 _ _ _, _, _, _, _, _, rfl, .ty _, h1.dq.ty, kit_str d1, _, rfl, ite2 (fun h => ?_) (fun h => ?_)⟩)⟩
      · rw [isPat_noStr (by simpa using h)] at k0
        exact k0
      obtain ⟨x, rfl⟩ : ∃ x, d1 = .str x := by
        cases d1 with
        | str x => exact ⟨x, rfl⟩
        | _ => exact absurd rfl h
      obtain ⟨q1, l1⟩ := h1
      cases q1
      refine ⟨_, rfl, .inr (.inl ⟨a, _, 1, _, rfl, rfl, sq, at1 _ _ _, (by show 3 ≤ sizeLine; decide), fun q hq => ?_⟩)⟩
      have kq : Keep [] H3 (upd H3 q (.lst [.str "none", .str "own", .str "free"])) := Keep.new hq
      refine .inl ⟨.str x, [.str "none", .str "own", .str "free"], .str x, .lst (SqL.of upd_same) (.cons (.str _) (.cons (.str _) (.cons (.str _) .nil))), l1.shaped (by decide), (by decide +kernel), _, rfl, ite2 (fun h => ?_) (fun h => ?_)⟩
      · refine iteT ?_
        have q1 := k _ kq
        rw [isPat_noIn (by rw [mem3] at h; simpa using h)] at q1
        exact q1
      · refine ⟨_, rfl, .inr (.inl ⟨a, _, 2, x2, rfl, rfl, seqT_keep kq Soft.nil sq, at_of (j := 2) rfl rfl, _, _, _, _, _, rfl, .ty _, (h2.keep kq).dq.ty, kit_bool d2, _, rfl, ite2 (fun h3 => ?_) (fun h3 => ?_)⟩)⟩
        · have q1 := k _ kq
          rw [isPat_noBool (by simpa using h3)] at q1
          exact q1
        · obtain ⟨b, rfl⟩ : ∃ b, d2 = .bool b := by
            cases d2 with
            | bool b => exact ⟨b, rfl⟩
            | _ => exact absurd rfl h3
          obtain ⟨q2, l2⟩ := h2
          cases q2
          exact ⟨x, b, rfl, kq, rfl, rfl, rfl, rfl, of_decide_eq_true (by rw [mem3] at h; exact nnB h)⟩
    rintro σ' H4 ⟨x, b, rfl, k4, rfl, rfl, rfl, rfl, hx⟩
    have sq4 := seqT_keep k4 Soft.nil sq
    have s04 := seqT_keep k4 Soft.nil s0
    have hr4 := hr'.k0 k4
    obtain ⟨va, rs, rfl, hva, hrs⟩ := hr4.whole.lst_of
    obtain ⟨n0, hn0, dn0⟩ := hrs.getD (i := 0) (d := nsD ns) rfl
    obtain ⟨na, rfl, hna⟩ := dn0.names
    have el : ((ns.map V.str).length : Int) + 3 = ((ns.length + 3 : Nat) : Int) := by rw [List.length_map]; rfl
    have k4' := k H4 k4
    rw [isPat_full ig] at k4'
    let M : L2.St → Hp → Prop := fun σ' H' => σ' = T (.ref a) (some (.int g)) x3 ∧ H' = H4 ∧ es.length = ns.length + 3 ∧ (x = "own" ∨ lastZ (.tuple es) = true)
    refine ⟨M, ?_, ?_⟩
    · refine ⟨_, rfl, .inr (.inl ⟨a, _, 0, _, rfl, rfl, sq4, at0 _ _, a0, _, rfl, .inr s04, _, rfl, .inl ⟨va, rs, 0, _, rfl, rfl, SqL.of hva, at_of (j := 0) rfl hn0, na, _, rfl, .inl (SqL.of hna), _, _, rfl, rfl, rfl, _, rfl, ite2 (fun h => ?_) (fun h => ?_)⟩⟩)⟩
      · rw [decide_eq_false (fun z => by rw [hd.length, z] at h; have h' : (!decide (V.int ((ns.length + 3 : Nat) : Int) = V.int (((ns.map V.str).length : Int) + 3))) = true := h; rw [el] at h'; simp at h'), Bool.false_and] at k4'
        exact k4'
      have le : es.length = ns.length + 3 := by
        have := lenNe (m := ((ns.map V.str).length : Int) + 3) h
        rw [hd.length, el] at this
        exact Int.ofNat.inj this
      rw [decide_eq_true le, Bool.true_and] at k4'
      refine ⟨_, rfl, .inr (.inl ⟨a, _, 1, _, rfl, rfl, sq4, at1 _ _ _, rfl, _, rfl, ite2 (fun h3 => ?_) (fun h3 => ?_)⟩)⟩
      · have xo : ¬ x = "own" := fun z => by rw [z] at h3; simp at h3
        obtain ⟨es', i, e1, li, ei⟩ := nums_last (n := ns.length) (d := .tuple es) (by rw [isNums, decide_eq_true le, ig]; rfl)
        cases e1
        obtain ⟨u, hu, du⟩ := DqAll_getD hd ei
        cases du
        have au : atI xs (-1) = some (.int i) := SM.at_neg (by rw [hd.length]; exact hu)
        rw [decide_eq_false xo, Bool.false_or, li] at k4'
        refine ⟨_, rfl, .inr (.inl ⟨a, _, 0, _, rfl, rfl, sq4, at0 _ _, 1, rfl, .inr (.inl ⟨a0, xs, -1, _, rfl, rfl, s04, au, rfl, _, rfl, ite2 (fun h4 => ?_) (fun h4 => ?_)⟩)⟩)⟩
        · rw [decide_eq_false (fun z => by rw [z] at h4; simp at h4), Bool.false_and] at k4'
          exact k4'
        · have i0 : i = 0 := V.int.inj (of_decide_eq_true (nnB h4))
          exact ⟨rfl, rfl, le, .inr (by rw [li, decide_eq_true i0])⟩
      · have xo : x = "own" := V.str.inj (of_decide_eq_true (nnB h3))
        exact ⟨rfl, rfl, le, .inl xo⟩
    rintro σ' H5 ⟨rfl, rfl, le, hx2⟩
    rw [decide_eq_true le, Bool.true_and] at k4'
    refine ⟨_, rfl, .inr (.inl ⟨a, _, 1, _, rfl, rfl, sq4, at1 _ _ _, rfl, _, rfl, ite2 (fun h => ?_) (fun h => ?_)⟩)⟩
    · have xf : ¬ x = "free" := fun z => by rw [z] at h; simp at h
      have : (decide (x = "own") || (lastZ (.tuple es) && (decide (x = "none") || (decide (x = "free") && b)))) = true := by
        by_cases xo : x = "own"
        · rw [decide_eq_true xo, Bool.true_or]
        · have xn : x = "none" := by
            rcases hx with z | z | z
            · exact z
            · exact absurd z xo
            · exact absurd z xf
          rw [decide_eq_true xn, hx2.resolve_left xo]
          simp
      rw [this] at k4'
      exact k4'
    · have xf : x = "free" := V.str.inj (of_decide_eq_true (nnB h))
      have : (decide (x = "own") || (lastZ (.tuple es) && (decide (x = "none") || (decide (x = "free") && b)))) = b := by
        rw [xf] at hx2 ⊢
        rw [hx2.resolve_left (by decide), decide_eq_false (by decide), decide_eq_false (by decide), decide_eq_true rfl]
        simp
      rw [this] at k4'
      exact ⟨_, rfl, .inr (.inl ⟨a, _, 2, _, rfl, rfl, sq4, at_of (j := 2) rfl rfl, k4'⟩)⟩
end
end La
set_option Elab.async false
set_option linter.all false
set_option maxRecDepth 100000
set_option maxHeartbeats 4000000
namespace La
open PySem PySem.Spec PyProof.Rows L2 SM
/-! ### data of patterns: how large they are -/
structure Sd (w n : Nat) (d : PyData) : Prop where
  lay : Lay n d
  sh : d.showable = true
  lv : d.leavesShort 40 = true
  wt : d.weight ≤ w
theorem Sd.mono {w n w' n' : Nat} {d : PyData} (h : Sd w n d) (hw : w ≤ w') (hn : n ≤ n') : Sd w' n' d := ⟨h.lay.mono hn, h.sh, h.lv, Nat.le_trans h.wt hw⟩
def sdB (w n : Nat) (d : PyData) : Bool := (d.canLay0 && decide (d.depth ≤ n)) && (d.showable && (d.leavesShort 40 && decide (d.weight ≤ w)))
theorem Sd.ofB {w n : Nat} {d : PyData} (f : sdB w n d = true) : Sd w n d := by
  obtain ⟨h0, f⟩ := He.ba f
  obtain ⟨h1, h2⟩ := He.ba h0
  obtain ⟨h3, f⟩ := He.ba f
  obtain ⟨h4, h5⟩ := He.ba f
  exact ⟨⟨h1, of_decide_eq_true h2⟩, h3, h4, of_decide_eq_true h5⟩
theorem sdAll {w n : Nat} : ∀ (ds : List PyData), (∀ d ∈ ds, Sd w n d) → PyData.showableAll ds = true ∧ PyData.leavesShortAll 40 ds = true ∧ PyData.weightAll ds ≤ ds.length * (w + 1)
  | [], _ => ⟨by rw [PyData.showableAll], by rw [PyData.leavesShortAll], by rw [PyData.weightAll]; exact Nat.zero_le _⟩
  | d :: ds, h => by
    obtain ⟨a, b, c⟩ := sdAll ds fun z hz => h z (List.mem_cons_of_mem _ hz)
    obtain ⟨_, a1, b1, c1⟩ := h d List.mem_cons_self
    refine ⟨by rw [PyData.showableAll, a, a1]; rfl, by rw [PyData.leavesShortAll, b, b1]; rfl, ?_⟩
    rw [PyData.weightAll, List.length_cons, Nat.succ_mul]
    omega
theorem Sd.list {w n k : Nat} {ds : List PyData} (h : ∀ d ∈ ds, Sd w n d) (l : ds.length ≤ k) : Sd (k * (w + 1)) (n + 1) (.list ds) := by
  obtain ⟨a, b, c⟩ := sdAll ds h
  refine ⟨Lay.list fun d z => (h d z).lay, by rw [PyData.showable]; exact a, by rw [PyData.leavesShort]; exact b, ?_⟩
  rw [PyData.weight]
  exact Nat.le_trans c (Nat.mul_le_mul_right _ l)
theorem Sd.tuple {w n k : Nat} {ds : List PyData} (h : ∀ d ∈ ds, Sd w n d) (l : ds.length ≤ k) : Sd (k * (w + 1)) (n + 1) (.tuple ds) := by
  obtain ⟨a, b, c⟩ := sdAll ds h
  refine ⟨Lay.tuple fun d z => (h d z).lay, by rw [PyData.showable]; exact a, by rw [PyData.leavesShort]; exact b, ?_⟩
  rw [PyData.weight]
  exact Nat.le_trans c (Nat.mul_le_mul_right _ l)
theorem ints_sd : (List.range 102).all (fun n => sdB 10 0 (.int (n : Int))) = true := by decide +kernel
theorem sd_int {i : Int} (h0 : 0 ≤ i) (h1 : i ≤ 101) : Sd 10 0 (.int i) := by
  obtain ⟨n, rfl⟩ := Int.eq_ofNat_of_zero_le h0
  exact Sd.ofB (List.all_eq_true.mp ints_sd n (List.mem_range.mpr (by omega)))
/-- a value that may be shown: what is asked of the law's odd values -/
def GoodV (d : PyData) : Prop := Sd 10000 20 d ∨ d = .dict []
theorem GoodV.okV {d : PyData} (h : GoodV d) : OkV d := h.imp (fun h => h.lay.mono (by decide)) id
theorem GoodV.shown {d : PyData} (h : GoodV d) : d.showable = true ∧ d.depth ≤ 60 ∧ d.shown.length ≤ sizeLine := by
  rcases h with h | rfl
  · refine ⟨h.sh, Nat.le_trans h.lay.2 (by decide), ?_⟩
    have := PyData.shown_le 40 (by decide) d h.lv
    have w := h.wt
    have e : sizeLine = 2 ^ 24 := by decide
    rw [e]
    omega
  · decide +kernel
theorem rd_reprA {K : PySem.W.Frag} {H : Hp} {v : V} {d : PyData} {Q : VK} (h : Dq K H v d) (g : GoodV d) (q : Q (.str d.shown) H) : SM.rReprA K [v] H Q := ⟨v, d, rfl, h, g.shown.1, g.shown.2.1, g.shown.2.2, q⟩
theorem DlAll_ints {K : PySem.W.Frag} {H : Hp} : ∀ (is : List Int), DlAll K H (is.map V.int) (is.map PyData.int)
  | [] => .nil
  | i :: is => .cons (.int i) (DlAll_ints is)
theorem DlAll_ints_eq {K : PySem.W.Frag} {H : Hp} : ∀ {is : List Int} {us : List V}, DlAll K H us (is.map PyData.int) → us = is.map V.int
  | [], _, .nil => rfl
  | n :: ns, _, .cons h t => by
    rw [DlAll_ints_eq t]
    cases h
    rfl
/-- the pattern of a file that has just begun -/
def begunD (n : Nat) : PyData := .tuple [.tuple (List.replicate n (.int 0)), .str "none", .bool false]
theorem begun_pat : ∀ n, n ≤ 3 → isPat (n + 3) (begunD (n + 3)) = true ∧ GoodV (begunD (n + 3)) := by
  have h : (List.range 4).all (fun n => isPat (n + 3) (begunD (n + 3)) && sdB 10000 20 (begunD (n + 3))) = true := by decide +kernel
  intro n hn
  obtain ⟨a, b⟩ := He.ba (List.all_eq_true.mp h n (List.mem_range.mpr (by omega)))
  exact ⟨a, .inl (Sd.ofB b)⟩
def marks : List Str := ["none", "own", "own", "free"]
theorem marks_sd : marks.all (fun x => sdB 10 0 (.str x)) = true := by decide +kernel
/-- what the law draws as a pattern -/
structure ShapeD (n : Nat) (is : List Int) (x : Str) (b : Bool) : Prop where
  len : is.length = n + 3
  nums : ∀ i ∈ is, 0 ≤ i ∧ i ≤ 90
  mark : x ∈ marks
def shpD (is : List Int) (x : Str) (b : Bool) : PyData := .tuple [.tuple (is.map .int), .str x, .bool b]
theorem ShapeD.sd0 {n : Nat} {is : List Int} {x : Str} {b : Bool} (h : ShapeD n is x b) (n3 : n ≤ 3) : Sd 80 1 (.tuple (is.map .int)) ∧ Sd 80 1 (.list (is.map .int)) ∧ Sd 10 0 (.str x) ∧ Sd 10 0 (.bool b) := by
  have hi : ∀ d ∈ is.map PyData.int, Sd 10 0 d := fun d hd => by
    obtain ⟨i, hi, rfl⟩ := List.mem_map.mp hd
    have := h.nums i hi
    exact sd_int this.1 (by omega)
  have hl : (is.map PyData.int).length ≤ 6 := by
    rw [List.length_map, h.len]
    omega
  refine ⟨(Sd.tuple hi hl).mono (by decide) (by decide), (Sd.list hi hl).mono (by decide) (by decide), Sd.ofB (List.all_eq_true.mp marks_sd x h.mark), ?_⟩
  cases b
  · exact Sd.ofB (by decide +kernel)
  · exact Sd.ofB (by decide +kernel)
theorem sd3 {w n : Nat} {a b c : PyData} (h : Sd w n a) (h' : Sd w n b) (h2 : Sd w n c) : Sd (3 * (w + 1)) (n + 1) (.tuple [a, b, c]) := Sd.tuple (all3 h h' h2) (Nat.le_refl 3)
theorem ShapeD.sd {n : Nat} {is : List Int} {x : Str} {b : Bool} (h : ShapeD n is x b) (n3 : n ≤ 3) : Sd 243 2 (shpD is x b) := by
  obtain ⟨a, _, b, c⟩ := h.sd0 n3
  exact sd3 a (b.mono (by decide) (by decide)) (c.mono (by decide) (by decide))
section
variable {P : Program} {w : World} {K : PySem.W.Frag} {mg : Str → Option Value} {base : Heap}
def spBegun (K : PySem.W.Frag) : Sp := fun vs H Q _ => ∃ (m : List Addr) (vr : V) (ns : List Str) (ls : List Ln), vs = [vr] ∧ Live m H ∧ Dl K (off m H) vr (ruleD ns ls) ∧ ns.length ≤ 3 ∧ ∀ v H', Keep [] H H' → Dl K (off m H') v (begunD (ns.length + 3)) → Q v H'
abbrev s__law_begun : Stmt := (top 73)
abbrev N__law_begun : List Str := ["rule"]
abbrev P__law_begun : List Str := ["rule"]
theorem sc__law_begun : FnScope N__law_begun P__law_begun (defScope s__law_begun) := ⟨rfl, rfl, rfl, by decide +kernel, rfl, by decide +kernel, by decide +kernel⟩
theorem D_law_begun (W : Cw fas fns K mg) : DefOk P w K mg base CX0 1 "_law_begun" P__law_begun (spBegun K) := by
  refine DefOk.of W 30 62 (st := s__law_begun) rfl rfl sc__law_begun (fun _ _ _ _ _ _ us hl => match us, hl with | [_], _ => rfl) (fun vs H Q E h => ?_) (fun cdv A outer s H vs Q E hr h => ?_)
  · obtain ⟨m, x, ns, ls, rfl, _⟩ := h
    rfl
  · obtain ⟨m, vr, ns, ls, rfl, lv, hr', n3, k⟩ := h
    refine ⟨_, PSs.nox (pss_one (ps_ret (pe_tup (pa_cons (pe_op op_repT (pe_tup (pa_cons pe_int pa_nil)) (pe_op op_add (pe_callB call_len_seq (by rfl) (W.fre 74) (by decide +kernel) (pa_cons (pe_ix ix_seq (pv 0) pe_int (fun _ _ => rfl)) pa_nil)) pe_int)) (pa_cons pe_str (pa_cons pe_bl pa_nil)))))), ?_⟩
    obtain ⟨va, rs, rfl, hva, hrs⟩ := hr'.whole.lst_of
    obtain ⟨n0, hn0, dn0⟩ := hrs.getD (i := 0) (d := nsD ns) rfl
    obtain ⟨na, rfl, hna⟩ := dn0.names
    have el : ((ns.map V.str).length : Int) + 3 = ((ns.length + 3 : Nat) : Int) := by rw [List.length_map]; rfl
    refine ⟨(by show 1 ≤ sizeLine; decide), fun q hq => ?_⟩
    have kq : Keep [] H (upd H q (.tup [.int 0])) := Keep.new hq
    refine ⟨_, rfl, .inl ⟨va, rs, 0, _, rfl, rfl, SqL.of (kq.to hva), at_of (j := 0) rfl hn0, na, _, rfl, .inl (SqL.of (kq.to hna)), _, _, rfl, rfl, ?_⟩⟩
    rw [show (fun i j : Int => V.int (i + j)) ((ns.map V.str).length : Int) 3 = V.int ((ns.length + 3 : Nat) : Int) from congrArg V.int el]
    refine ⟨q, ((ns.length + 3 : Nat) : Int), [.int 0], rfl, rfl, SqT.of upd_same, (fun z => by cases z), by omega, by omega, (by show 1 ≤ 1000; decide), fun p hp => ⟨(by show 3 ≤ sizeLine; decide), fun p2 hp2 => ?_⟩⟩
    have kp : Keep [] H (upd (upd H q (.tup [.int 0])) p (.tup (List.replicate ((ns.length + 3 : Nat) : Int).toNat [V.int 0]).flatten)) := kq.trans (Keep.new hp)
    refine k (.ref p2) _ (kp.trans (Keep.new hp2)) ?_
    have e : (List.replicate ((ns.length + 3 : Nat) : Int).toNat [V.int 0]).flatten = (List.replicate (ns.length + 3) (0 : Int)).map V.int := by
      rw [List.flatten_replicate_singleton, List.map_replicate, Int.toNat_natCast]
    refine .tup (SqT.of (off_new (lv.keep kp) hp2)) (.cons (.tup (SqT.of ((Keep.new (m := []) hp2).off0 _ _ (off_new (lv.keep kq) hp))) ?_) (.cons (.str _) (.cons (.bl _) .nil)))
    rw [e, show List.replicate (ns.length + 3) (PyData.int 0) = (List.replicate (ns.length + 3) (0 : Int)).map PyData.int by rw [List.map_replicate]]
    exact DlAll_ints _
end
end La
set_option Elab.async false
set_option linter.all false
set_option maxRecDepth 100000
set_option maxHeartbeats 4000000
namespace La
open PySem PySem.Spec PyProof.Rows L2 SM
def spDrawn (K : PySem.W.Frag) : Sp := fun vs H Q _ => ∃ (p : Addr) (vr : V) (ns : List Str) (ls : List Ln), vs = [.ref p, vr] ∧ Src H p ∧ Dl K (off [p] H) vr (ruleD ns ls) ∧ ns.length ≤ 3 ∧
  ∀ v is x b H', Keep [p] H H' → Src H' p → Dl K (off [p] H') v (shpD is x b) → ShapeD ns.length is x b → Q v H'
section
variable {P : Program} {w : World} {K : PySem.W.Frag} {mg : Str → Option Value} {base : Heap}
abbrev s__law_shape : Stmt := (top 74)
abbrev N__law_shape : List Str := ["source", "rule", "found", "top", "place", "mark", "amid_it"]
abbrev P__law_shape : List Str := ["source", "rule"]
theorem sc__law_shape : FnScope N__law_shape P__law_shape (defScope s__law_shape) := ⟨rfl, rfl, rfl, by decide +kernel, rfl, by decide +kernel, by decide +kernel⟩
theorem D_law_shape (W : Cw fas fns K mg) (D_law_draw : DefOk P w K mg base CX0 1 "_law_draw" P__law_draw spDraw) (D_law_pick : DefOk P w K mg base CX0 2 "_law_pick" P__law_pick (spPick K)) : DefOk P w K mg base CX0 3 "_law_shape" P__law_shape (spDrawn K) := by
  refine DefOk.of W 31 63 (st := s__law_shape) rfl rfl sc__law_shape (fun _ _ _ _ _ _ us hl => match us, hl with | [_, _], _ => rfl) (fun vs H Q E h => ?_) (fun cdv A outer s H vs Q E hr h => ?_)
  · obtain ⟨p, x, ns, ls, rfl, _⟩ := h
    rfl
  · obtain ⟨p, vr, ns, ls, rfl, s0, hr', n3, k⟩ := h
    refine ⟨_, PSs.nox (Evl.pss_cut (ps_par (i := 2) (j := 3) (by rfl) sc__law_shape.nd rfl rfl (by decide) rfl rfl (pa_cons (pe_lst pa_nil) (pa_cons pe_int pa_nil)) (by rfl)) (Evl.pss_cut (ps_for PassesOwn.never rfl (pi_range1 (by rfl) (W.fre 79) (pa_cons (pe_op op_add (pe_callB call_len_seq (by rfl) (W.fre 74) (by decide +kernel) (pa_cons (pe_ix ix_seq (pv 1) pe_int (fun _ _ => rfl)) pa_nil)) pe_int) pa_nil)) (pg_name (i := 4) sc__law_shape.nd rfl (by first | exact Or.inl rfl | exact Or.inr rfl)) (Evl.pss_cut (ps_expr (pe_bm PySem.F.plainAttrs_list PySem.F.slot_list_append PySem.F.type_list_append mt_append (pv 2) (pa_cons (SM.pe_callD D_law_draw (hr.mono (by decide)) pass0 (pa_cons (pv 0) (pa_cons (pe_op op_add (pv 3) pe_int) pa_nil))) pa_nil))) (pss_one (ps_set (i := 3) sc__law_shape.nd rfl (by first | exact Or.inl rfl | exact Or.inr rfl) (pe_callB (call_max2 rfl) (by rfl) (W.fre 76) (by decide +kernel) (pa_cons (pv 3) (pa_cons (pe_ix ix_seq (pv 2) (pe_un un_neg pe_int) (fun _ _ => rfl)) pa_nil))))))) (Evl.pss_cut (ps_par (i := 5) (j := 6) (by rfl) sc__law_shape.nd rfl rfl (by decide) rfl rfl (pa_cons (SM.pe_callD D_law_pick (hr.mono (by decide)) pass0 (pa_cons (pv 0) (pa_cons (pe_lst (pa_cons pe_str (pa_cons pe_str (pa_cons pe_str (pa_cons pe_str pa_nil))))) pa_nil))) (pa_cons (pe_cmpR op_eq (SM.pe_callD D_law_draw (hr.mono (by decide)) pass0 (pa_cons (pv 0) (pa_cons pe_int pa_nil))) pe_int (nomark _)) pa_nil)) (by rfl)) (Evl.pss_cut (ps_if (PW.pt (pw_and (pt_cmpR op_ne (pv 5) pe_str (nomark _)) (pw_and1 (pt_cmpR op_gt (SM.pe_callD D_law_draw (hr.mono (by decide)) pass0 (pa_cons (pv 0) (pa_cons pe_int pa_nil))) pe_int (nomark _))))) (pss_one (ps_asg pe_int (pg_sub (pv 2) (pe_un un_neg pe_int) set_list))) pss_nil) (pss_one (ps_ret (pe_tup (pa_cons (pe_callTy call_tuple_of (by rfl) (W.fre 83) (by decide +kernel) (pa_cons (pv 2) pa_nil)) (pa_cons (pv 5) (pa_cons (pe_or (pv 6) (pe_one (pe_and (pe_cmpR op_eq (pv 5) pe_str (nomark _)) (pe_one (pe_cmpR op_gt (SM.pe_callD D_law_draw (hr.mono (by decide)) pass0 (pa_cons (pv 0) (pa_cons pe_int pa_nil))) pe_int (nomark _)))))) pa_nil)))))))))), ?_⟩
    obtain ⟨va, rs, rfl, hva', hrs'⟩ := hr'.lst_of
    obtain ⟨n0, hn0, dn0⟩ := hrs'.getD (i := 0) (d := nsD ns) rfl
    obtain ⟨na, rfl, hna'⟩ := dn0.names
    obtain ⟨vap, hva⟩ := off_some hva'
    obtain ⟨nap, hna⟩ := off_some hna'
    have el : ((ns.map V.str).length : Int) + 3 = ((ns.length + 3 : Nat) : Int) := by rw [List.length_map]; rfl
    let T : Option V → Option V → Option V → Option V → Option V → L2.St := fun x2 x3 x4 x5 x6 => [some (.ref p), some (.ref va), x2, x3, x4, x5, x6]
    refine ⟨fun σ' H' => ∃ fa, σ' = T (some (.ref fa)) (some (.int 0)) none none none ∧ Keep [] H H' ∧ H' fa = some (.lst []) ∧ H fa = none, ?_, ?_⟩
    · exact ⟨Nat.zero_le _, fun fa hf => ⟨_, _, rfl, fa, rfl, Keep.new hf, upd_same, hf⟩⟩
    rintro σ' H1 ⟨fa, rfl, k1, ef1, hf⟩
    have fap : fa ≠ p := (ne_of_none s0.choose_spec.choose_spec.1 hf).symm
    let Pv : Nat → L2.St → Hp → Prop := fun i σ' H' => ∃ (is : List Int) (t : Int) (x4 : Option V), σ' = T (some (.ref fa)) (some (.int t)) x4 none none ∧ Keep [p] H H' ∧ Src H' p ∧ H' fa = some (.lst (is.map V.int)) ∧ is.length = i ∧ (∀ z ∈ is, 0 ≤ z ∧ z ≤ 90) ∧ 0 ≤ t ∧ t ≤ i
    refine ⟨fun σ' H' => ∃ (is : List Int) (t : Int) (x4 : Option V), σ' = T (some (.ref fa)) (some (.int t)) x4 none none ∧ Keep [p] H H' ∧ Src H' p ∧ H' fa = some (.lst (is.map V.int)) ∧ is.length = ns.length + 3 ∧ (∀ z ∈ is, 0 ≤ z ∧ z ≤ 90), ?_, ?_⟩
    · refine ⟨_, rfl, .inl ⟨va, rs, 0, _, rfl, rfl, SqL.of (k1.to hva), at_of (j := 0) rfl hn0, na, _, rfl, .inl (SqL.of (k1.to hna)), _, _, rfl, rfl, ((ns.length + 3 : Nat) : Int), congrArg (fun z => [V.int z]) el, by omega, by omega, for_range (lo := 0) Pv ⟨[], 0, none, rfl, Keep.of_nil k1, s0.keep k1 (by simp), ef1, rfl, (fun z y => by cases y), Int.le_refl _, Int.le_refl _⟩ ?_ ?_⟩⟩
      · rintro i σ' H2 hi ⟨is, t, x4, rfl, k2, s2, ef2, li, bi, t0, ti⟩
        have hi' : i < ns.length + 3 := by have e := Int.toNat_natCast (ns.length + 3); omega
        refine ⟨fun σ' H' => ∃ z, σ' = T (some (.ref fa)) (some (.int t)) (some (.int (0 + (i : Int)))) none none ∧ Keep [p] H H' ∧ Src H' p ∧ H' fa = some (.lst ((is ++ [z]).map V.int)) ∧ 0 ≤ z ∧ z ≤ t + 1, ?_, ?_⟩
        · refine ⟨_, rfl, .inl ⟨rfl, _, SqL.of ef2⟩, _, rfl, _, rfl, _, _, rfl, rfl, p, t + 2, rfl, s2, by omega, by omega, fun z H3 z0 z1 k3 s3 => ⟨_, _, _, rfl, rfl, k3 _ _ (by simpa using fap) ef2, ?_, ?_⟩⟩
          · rw [List.length_map, li]
            exact Nat.lt_of_lt_of_le (show i < 100 by omega) (by decide)
          · refine ⟨z, rfl, Keep.own (k2.trans k3) hf, s3.keep (Keep.at_ (m := [fa]) (by simp)) (by simpa using fap.symm), ?_, z0, by omega⟩
            rw [List.map_append]
            exact upd_same
        rintro σ' H3 ⟨z, rfl, k3, s3, ef3, z0, z1⟩
        have az : atI ((is ++ [z]).map V.int) (-1) = some (.int z) := SM.at_neg (by simp)
        refine ⟨_, rfl, _, rfl, 1, rfl, .inl ⟨fa, _, -1, _, rfl, rfl, SqL.of ef3, az, _, _, rfl, ?_⟩⟩
        refine ⟨is ++ [z], _, _, rfl, k3, s3, ef3, by simp [li], fun y hy => ?_, ?_, ?_⟩
        · rcases List.mem_append.mp hy with hy | hy
          · exact bi y hy
          · rw [List.mem_singleton.mp hy]
            omega
        · show 0 ≤ if z > t then z else t
          split <;> omega
        · show (if z > t then z else t) ≤ ((i + 1 : Nat) : Int)
          split <;> omega
      · rintro σ' H2 ⟨is, t, x4, rfl, k2, s2, ef2, li, bi, t0, ti⟩
        exact ⟨is, t, x4, rfl, k2, s2, ef2, by rw [li, Int.toNat_natCast], bi⟩
    rintro σ' H2 ⟨is, t, x4, rfl, k2, s2, ef2, li, hi⟩
    refine ⟨fun σ' H' => ∃ x b, σ' = T (some (.ref fa)) (some (.int t)) x4 (some (.str x)) (some (.bl b)) ∧ Keep [p] H H' ∧ Src H' p ∧ H' fa = some (.lst (is.map V.int)) ∧ x ∈ marks, ?_, ?_⟩
    · refine ⟨_, rfl, LlE.fresh (K := K) (m := [p]) (H0 := H2) (LlE.lst (ds := marks.map PyData.str) s2.live (by repeat' first | exact LlA.nil | refine LlA.cons ?_ ?_ | exact LlE.str | exact LlE.bl | exact LlE.var rfl (.str _) | refine LlE.lst s2.live ?_ | refine LlE.tup s2.live ?_) rfl) Keep.refl fun q xs H3 nq k3 hq dx => ?_⟩
      have lx : xs.length = 4 := by rw [dx.length]; rfl
      refine ⟨p, q, xs, rfl, s2.keep k3 (by simp), .inl (SqL.of hq), by simpa using nq, by omega, by omega, fun j v H4 hv' k4 s4 => ?_⟩
      obtain ⟨x, rfl, hx⟩ := strs_pick dx hv'
      refine ⟨_, rfl, p, 2, rfl, s4, by decide, by decide, fun r H5 r0 r1 k5 s5 => ⟨rfl, _, _, rfl, x, _, rfl, k2.trans ((Keep.of_nil k3).trans (k4.trans k5)), s5, (k4.trans k5) _ _ (by simpa using fap) (k3.to ef2), hx⟩⟩
    rintro σ' H3 ⟨x, b, rfl, k3, s3, ef3, hx⟩
    refine ⟨fun σ' H' => ∃ is' : List Int, σ' = T (some (.ref fa)) (some (.int t)) x4 (some (.str x)) (some (.bl b)) ∧ Keep [p] H H' ∧ Src H' p ∧ H' fa = some (.lst (is'.map V.int)) ∧ is'.length = ns.length + 3 ∧ ∀ z ∈ is', 0 ≤ z ∧ z ≤ 90, ?_, ?_⟩
    · have same : ∀ H', Keep [p] H3 H' → Src H' p → ∃ is' : List Int, T (some (.ref fa)) (some (.int t)) x4 (some (.str x)) (some (.bl b)) = T (some (.ref fa)) (some (.int t)) x4 (some (.str x)) (some (.bl b)) ∧ Keep [p] H H' ∧ Src H' p ∧ H' fa = some (.lst (is'.map V.int)) ∧ is'.length = ns.length + 3 ∧ ∀ z ∈ is', 0 ≤ z ∧ z ≤ 90 :=
        fun H' kk ss => ⟨is, rfl, k3.trans kk, ss, kk _ _ (by simpa using fap) ef3, li, hi⟩
      refine ⟨_, rfl, rfl, _, rfl, ite2 (fun h => ?_) (fun h => ?_)⟩
      · refine ⟨_, rfl, p, 4, rfl, s3, by decide, by decide, fun r H4 r0 r1 k4 s4 => ⟨_, _, rfl, rfl, _, rfl, ite2 (fun h => ?_) (fun h => ?_)⟩⟩
        · have ef4 := k4 _ _ (by simpa using fap) ef3
          have ix : ixN (is.map V.int).length (-1) = some (ns.length + 2) := by
            rw [List.length_map, li]
            unfold ixN
            rw [if_neg (by decide), if_pos (by omega)]
            congr 1
            omega
          refine ⟨_, rfl, 1, rfl, fa, _, -1, _, rfl, rfl, ef4, ix, is.set (ns.length + 2) 0, rfl, Keep.own (k3.trans k4) hf, s4.keep (Keep.at_ (m := [fa]) (by simp)) (by simpa using fap.symm), ?_, by rw [List.length_set, li], fun z hz => ?_⟩
          · rw [List.map_set]
            exact upd_same
          · rcases List.mem_or_eq_of_mem_set hz with hz | hz
            · exact hi z hz
            · rw [hz]
              decide
        · exact same H4 k4 s4
      · exact same H3 Keep.refl s3
    rintro σ' H4 ⟨is', rfl, k4, s4, ef4, li', hi'⟩
    refine ⟨_, rfl, fa, _, rfl, .inl ⟨SqL.of ef4, fun q hq => ?_⟩⟩
    have kq : Keep [] H4 (upd H4 q (.tup (is'.map V.int))) := Keep.new hq
    have sq := s4.keep kq (by simp)
    have fin : ∀ (b' : Bool) (H5 : Hp), Keep [p] (upd H4 q (.tup (is'.map V.int))) H5 → Src H5 p → (3 ≤ sizeLine ∧ ∀ q2, H5 q2 = none → Q (.ref q2) (upd H5 q2 (.tup [.ref q, .str x, .bl b']))) := by
      intro b' H5 k5 s5
      refine ⟨by decide, fun q2 hq2 => ?_⟩
      have k2' : Keep [] H5 (upd H5 q2 (.tup [.ref q, .str x, .bl b'])) := Keep.new hq2
      have qp : q ∉ [p] := by
        have := ne_of_none s4.choose_spec.choose_spec.1 hq
        simpa using this.symm
      refine k (.ref q2) is' x b' _ (k4.trans ((Keep.of_nil kq).trans (k5.trans (Keep.of_nil k2')))) (s5.keep k2' (by simp)) (.tup (SqT.of (off_new s5.live hq2)) (.cons (.tup (SqT.of ?_) (DlAll_ints _)) (.cons (.str _) (.cons (.bl _) .nil)))) ⟨li', hi', hx⟩
      rw [off_out qp]
      exact k2'.to (k5 _ _ qp upd_same)
    refine ⟨_, rfl, _, rfl, b, rfl, ite2 (fun h => ?_) (fun h => ?_)⟩
    · exact fin true _ Keep.refl sq
    · refine ⟨_, rfl, rfl, _, rfl, ite2 (fun h => ?_) (fun h => ?_)⟩
      · exact ⟨_, rfl, p, 4, rfl, sq, by decide, by decide, fun r H5 r0 r1 k5 s5 => ⟨_, _, rfl, rfl, fin _ H5 k5 s5⟩⟩
      · exact fin _ _ Keep.refl sq
end
end La
set_option Elab.async false
set_option linter.all false
set_option maxRecDepth 100000
set_option maxHeartbeats 4000000
namespace La
open PySem PySem.Spec PyProof.Rows L2 SM
theorem LlE.listOf {K : PySem.W.Frag} {m : List Addr} {σ : L2.St} {H0 : Hp} {ta : TE} {ds : List PyData} (l : Live m H0) (h : LlE K m ta σ H0 (.tuple ds)) : LlE K m (tCB (fun xs H Q => ∃ p ys, xs = [V.ref p] ∧ (SqL K H p ys ∨ SqT K H p ys) ∧ ∀ l, H l = none → Q (.ref l) (upd H l (.lst ys))) (tCons ta tNil)) σ H0 (.list ds) := by
  intro H k0 Q k
  refine h H k0 _ fun v H2 k2 d2 => ?_
  obtain ⟨a, xs, rfl, ha, da⟩ := d2.tup_of
  exact ⟨a, xs, rfl, .inr (sqT_same off_same ha), fun p hp => k _ _ (k2.trans (Keep.new hp)) (.lst (off_new (l.keep (k0.trans k2)) hp) (da.k0 (Keep.new hp)))⟩
theorem LlE.takeT {K : PySem.W.Frag} {m : List Addr} {σ : L2.St} {H0 : Hp} {ta : TE} {tn : TO} {ds : List PyData} {n : Nat} (l : Live m H0) (h : LlE K m ta σ H0 (.tuple ds)) (hn : ∀ H1 (Q : Option Int → Hp → Prop), Q (some (n : Int)) H1 → tn σ H1 Q) : LlE K m (tSl (SM.rSlA K) ta tNoPart tn) σ H0 (.tuple (ds.take n)) := by
  intro H k0 Q k
  refine h H k0 _ fun v H2 k2 d2 => ?_
  refine hn H2 _ ?_
  obtain ⟨a, xs, rfl, ha, da⟩ := d2.tup_of
  have ha' := sqT_same off_same ha
  by_cases hw : HT.sIx xs.length 0 none = 0 ∧ HT.sIx xs.length xs.length (some (n : Int)) = xs.length
  · refine .inr ⟨a, xs, rfl, ha', hw, ?_⟩
    have e : n ≥ ds.length := by
      have := hw.2
      rw [HT.sIx_nat, da.length] at this
      omega
    rw [List.take_of_length_le e] at k
    exact k _ _ k2 d2
  · refine .inl ⟨a, xs, rfl, ha', hw, fun p hp => ?_⟩
    have e : cutV xs none (some (n : Int)) = xs.take n := by
      unfold cutV
      rw [HT.sIx_nat, HT.sIx_none, List.drop_zero, Nat.sub_zero, List.take_eq_take_iff]
      omega
    refine k _ _ (k2.trans (Keep.new hp)) (.tup (SqT.of (off_new (l.keep (k0.trans k2)) hp)) ?_)
    rw [e]
    exact (da.take n).k0 (Keep.new hp)
theorem DlAll_set {K : PySem.W.Frag} {H : Hp} : ∀ {vs : List V} {ds : List PyData} {v : V} {d : PyData} {j : Nat}, DlAll K H vs ds → Dl K H v d → DlAll K H (vs.set j v) (ds.set j d)
  | _, _, _, _, _, .nil, _ => .nil
  | _, _, _, _, 0, .cons _ t, e => .cons e t
  | _, _, _, _, _ + 1, .cons h t, e => .cons h (DlAll_set t e)
/-- one of a display -/
theorem pickD {K : PySem.W.Frag} {m : List Addr} {σ : L2.St} {H : Hp} {p : Addr} {ds : List PyData} {ta : TA} {Q : VK} (hi : σ[0]? = some (some (.ref p))) (s : Src H p) (pm : p ∈ m) (lv : Live m H)
    (l : LlA K m ta σ H ds) (n : Nat.ble ds.length 20 = true) (u0 : Nat.ble 1 ds.length = true) (k : ∀ v d H', d ∈ ds → Keep [p] H H' → Src H' p → Dl K (off m H') v d → Q v H') :
    tCall (spPick K) [] E0 (tCons (tVar 0) (tCons (tLst ta) tNil)) σ H Q := by
  have n1 := Nat.le_of_ble_eq_true n
  have n2 := Nat.le_of_ble_eq_true u0
  refine ⟨_, hi, LlE.fresh (K := K) (m := m) (H0 := H) (LlE.lst lv l (Nat.ble_eq_true_of_le (by omega))) Keep.refl fun q xs H1 nq k1 hq dx => ?_⟩
  have lx := dx.length
  refine ⟨p, q, xs, rfl, s.keep k1 (by simp), .inl (SqL.of hq), fun z => nq (z ▸ pm), by omega, by omega, fun j v H2 hv k2 s2 => ?_⟩
  obtain ⟨d, hd, dv⟩ := dx.get hv
  exact k v d H2 (List.mem_of_getElem? hd) ((Keep.of_nil k1).trans k2) s2 (dv.k (k2.up fun a z => by rw [List.mem_singleton.mp z]; exact pm))
def oddNums (t : Int) : List PyData := [.bool true, .bool false, .int (0 - 1), .none, .str "0", .int t, .int (t + 1), .int (t + 2), .int 0, .int 1, .int (10 ^ (20 : Int).toNat), .tuple [.int 0], .list [.int 1]]
def oddA : List PyData := [.bool true, .bool false, .int (0 - 1), .none, .str "0"]
def oddB : List PyData := [.int 0, .int 1, .int (10 ^ (20 : Int).toNat), .tuple [.int 0], .list [.int 1]]
theorem oddA_sd : (oddA ++ oddB).all (sdB 100 1) = true := by decide +kernel
theorem oddNums_sd {t : Int} (t0 : 0 ≤ t) (t1 : t ≤ 90) : ∀ d ∈ oddNums t, Sd 100 1 d := by
  intro d hd
  have h : d ∈ oddA ++ oddB ∨ d = .int t ∨ d = .int (t + 1) ∨ d = .int (t + 2) := by
    simp only [oddNums, oddA, oddB, List.mem_cons, List.mem_append, List.not_mem_nil, or_false] at hd ⊢
    rcases hd with h | h | h | h | h | h | h | h | h | h | h | h | h <;> simp [h]
  rcases h with h | rfl | rfl | rfl
  · exact Sd.ofB (List.all_eq_true.mp oddA_sd d h)
  · exact (sd_int t0 (by omega)).mono (by decide) (by decide)
  · exact (sd_int (by omega) (by omega)).mono (by decide) (by decide)
  · exact (sd_int (by omega) (by omega)).mono (by decide) (by decide)
def oddMarks : List PyData := [.str "none", .str "own", .str "free", .str "", .none, .str "None", .tuple [.str "own"], .int 0, .str "owned"]
theorem oddMarks_sd : oddMarks.all (sdB 100 1) = true := by decide +kernel
def oddAmid : List PyData := [.bool true, .bool false, .int 0, .int 1, .none, .str "False", .tuple [.bool true]]
theorem oddAmid_sd : oddAmid.all (sdB 100 1) = true := by decide +kernel
def oddEnd : List PyData := [.none, .int 0, .bool true, .str "", .str "own", .tuple [], .list []]
def oddEnd2 : List PyData := [.tuple [.int 0, .int 0, .int 0], .tuple [.tuple [], .str "none", .bool false]]
theorem oddEnd_sd : (oddEnd ++ oddEnd2).all (sdB 100 2) = true := by decide +kernel
def odd6 (is : List Int) (x : Str) (b : Bool) : List PyData := [.tuple [.list (is.map .int), .str x, .bool b], .list [.tuple (is.map .int), .str x, .bool b], .tuple [.tuple (is.map .int), .str x, .bool b, .bool false], .tuple [.tuple (is.map .int), .str x], .tuple [.tuple (is.map .int)]]
def spOdd (K : PySem.W.Frag) : Sp := fun vs H Q _ => ∃ (p : Addr) (vt : V) (n : Nat) (is : List Int) (x : Str) (b : Bool), vs = [.ref p, vt] ∧ Src H p ∧ Dl K (off [p] H) vt (shpD is x b) ∧ ShapeD n is x b ∧ n ≤ 3 ∧
  ∀ v d H', Keep [p] H H' → Src H' p → Dl K (off [p] H') v d → GoodV d → Q v H'
section
variable {P : Program} {w : World} {K : PySem.W.Frag} {mg : Str → Option Value} {base : Heap}
abbrev s__law_odd : Stmt := (top 76)
abbrev N__law_odd : List Str := ["source", "thing", "found", "kind", "top", "at"]
abbrev P__law_odd : List Str := ["source", "thing"]
theorem sc__law_odd : FnScope N__law_odd P__law_odd (defScope s__law_odd) := ⟨rfl, rfl, rfl, by decide +kernel, rfl, by decide +kernel, by decide +kernel⟩
theorem D_law_odd (W : Cw fas fns K mg) (D_law_draw : DefOk P w K mg base CX0 1 "_law_draw" P__law_draw spDraw) (D_law_pick : DefOk P w K mg base CX0 2 "_law_pick" P__law_pick (spPick K)) : DefOk P w K mg base CX0 3 "_law_odd" P__law_odd (spOdd K) := by
  refine DefOk.of W 33 65 (st := s__law_odd) rfl rfl sc__law_odd (fun _ _ _ _ _ _ us hl => match us, hl with | [_, _], _ => rfl) (fun vs H Q E h => ?_) (fun cdv A outer s H vs Q E hr h => ?_)
  · obtain ⟨p, vt, n, is, x, b, rfl, _⟩ := h
    rfl
  · obtain ⟨p, vt, n, is, x, b, rfl, s0, dt, sh, n3, k⟩ := h
    refine ⟨_, PSs.nox (Evl.pss_cut (ps_par (i := 2) (j := 3) (by rfl) sc__law_odd.nd rfl rfl (by decide) rfl rfl (pa_cons (pe_callTy call_list_of (by rfl) (W.fre 75) (by decide +kernel) (pa_cons (pe_ix ix_seq (pv 1) pe_int (fun _ _ => rfl)) pa_nil)) (pa_cons (SM.pe_callD D_law_draw (hr.mono (by decide)) pass0 (pa_cons (pv 0) (pa_cons pe_int pa_nil))) pa_nil)) (by rfl)) (Evl.pss_cut (ps_par (i := 4) (j := 5) (by rfl) sc__law_odd.nd rfl rfl (by decide) rfl rfl (pa_cons (pe_callB (cr_max rfl) (by rfl) (W.fre 76) (by decide +kernel) (pa_cons (pv 2) pa_nil)) (pa_cons (SM.pe_callD D_law_draw (hr.mono (by decide)) pass0 (pa_cons (pv 0) (pa_cons (pe_callB call_len_seq (by rfl) (W.fre 74) (by decide +kernel) (pa_cons (pv 2) pa_nil)) pa_nil))) pa_nil)) (by rfl)) (Evl.pss_cut (ps_if (pt_cmpR op_lt (pv 3) pe_int (nomark _)) (Evl.pss_cut (ps_asg (SM.pe_callD D_law_pick (hr.mono (by decide)) pass0 (pa_cons (pv 0) (pa_cons (pe_lst (pa_cons pe_bl (pa_cons pe_bl (pa_cons (pe_op op_sub pe_int pe_int) (pa_cons pe_non (pa_cons pe_str (pa_cons (pv 4) (pa_cons (pe_op op_add (pv 4) pe_int) (pa_cons (pe_op op_add (pv 4) pe_int) (pa_cons pe_int (pa_cons pe_int (pa_cons (pe_op op_pow pe_int pe_int) (pa_cons (pe_tup (pa_cons pe_int pa_nil)) (pa_cons (pe_lst (pa_cons pe_int pa_nil)) pa_nil)))))))))))))) pa_nil))) (pg_sub (pv 2) (pv 5) set_list)) (pss_one (ps_ret (pe_tup (pa_cons (pe_callTy call_tuple_of (by rfl) (W.fre 83) (by decide +kernel) (pa_cons (pv 2) pa_nil)) (pa_cons (pe_ix ix_seq (pv 1) pe_int (fun _ _ => rfl)) (pa_cons (pe_ix ix_seq (pv 1) pe_int (fun _ _ => rfl)) pa_nil))))))) pss_nil) (Evl.pss_cut (ps_if (pt_cmpR op_eq (pv 3) pe_int (nomark _)) (pss_one (ps_ret (pe_tup (pa_cons (pe_ix ix_seq (pv 1) pe_int (fun _ _ => rfl)) (pa_cons (SM.pe_callD D_law_pick (hr.mono (by decide)) pass0 (pa_cons (pv 0) (pa_cons (pe_lst (pa_cons pe_str (pa_cons pe_str (pa_cons pe_str (pa_cons pe_str (pa_cons pe_non (pa_cons pe_str (pa_cons (pe_tup (pa_cons pe_str pa_nil)) (pa_cons pe_int (pa_cons pe_str pa_nil)))))))))) pa_nil))) (pa_cons (pe_ix ix_seq (pv 1) pe_int (fun _ _ => rfl)) pa_nil)))))) pss_nil) (Evl.pss_cut (ps_if (pt_cmpR op_eq (pv 3) pe_int (nomark _)) (pss_one (ps_ret (pe_tup (pa_cons (pe_ix ix_seq (pv 1) pe_int (fun _ _ => rfl)) (pa_cons (pe_ix ix_seq (pv 1) pe_int (fun _ _ => rfl)) (pa_cons (SM.pe_callD D_law_pick (hr.mono (by decide)) pass0 (pa_cons (pv 0) (pa_cons (pe_lst (pa_cons pe_bl (pa_cons pe_bl (pa_cons pe_int (pa_cons pe_int (pa_cons pe_non (pa_cons pe_str (pa_cons (pe_tup (pa_cons pe_bl pa_nil)) pa_nil)))))))) pa_nil))) pa_nil)))))) pss_nil) (Evl.pss_cut (ps_if (pt_cmpR op_eq (pv 3) pe_int (nomark _)) (pss_one (ps_ret (pe_tup (pa_cons (pe_ifExp (pt_cmpR op_eq (pv 5) pe_int (nomark _)) (pe_callTy call_tuple_of (by rfl) (W.fre 83) (by decide +kernel) (pa_cons (pe_slice sl_list (pv 2) po_none (po_some (pe_un un_neg pe_int))) pa_nil)) (pe_callTy call_tuple_of (by rfl) (W.fre 83) (by decide +kernel) (pa_cons (pe_op op_cat (pv 2) (pe_lst (pa_cons pe_int pa_nil))) pa_nil))) (pa_cons (pe_ix ix_seq (pv 1) pe_int (fun _ _ => rfl)) (pa_cons (pe_ix ix_seq (pv 1) pe_int (fun _ _ => rfl)) pa_nil)))))) pss_nil) (Evl.pss_cut (ps_if (pt_cmpR op_eq (pv 3) pe_int (nomark _)) (pss_one (ps_ret (SM.pe_callD D_law_pick (hr.mono (by decide)) pass0 (pa_cons (pv 0) (pa_cons (pe_lst (pa_cons (pe_tup (pa_cons (pv 2) (pa_cons (pe_ix ix_seq (pv 1) pe_int (fun _ _ => rfl)) (pa_cons (pe_ix ix_seq (pv 1) pe_int (fun _ _ => rfl)) pa_nil)))) (pa_cons (pe_callTy call_list_of (by rfl) (W.fre 75) (by decide +kernel) (pa_cons (pv 1) pa_nil)) (pa_cons (pe_op op_catA (pv 1) (pe_tup (pa_cons pe_bl pa_nil))) (pa_cons (pe_slice SM.sl_tupA (pv 1) po_none (po_some pe_int)) (pa_cons (pe_tup (pa_cons (pe_ix ix_seq (pv 1) pe_int (fun _ _ => rfl)) pa_nil)) pa_nil)))))) pa_nil))))) pss_nil) (pss_one (ps_ret (SM.pe_callD D_law_pick (hr.mono (by decide)) pass0 (pa_cons (pv 0) (pa_cons (pe_lst (pa_cons pe_non (pa_cons pe_int (pa_cons pe_bl (pa_cons pe_str (pa_cons pe_str (pa_cons (pe_tup pa_nil) (pa_cons (pe_lst pa_nil) (pa_cons pe_dnewK (pa_cons (pe_tup (pa_cons pe_int (pa_cons pe_int (pa_cons pe_int pa_nil)))) (pa_cons (pe_tup (pa_cons (pe_tup pa_nil) (pa_cons pe_str (pa_cons pe_bl pa_nil)))) (pa_cons (pe_lst (pa_cons (pv 1) pa_nil)) (pa_cons (pe_tup (pa_cons (pv 1) pa_nil)) pa_nil))))))))))))) pa_nil)))))))))))), ?_⟩
    obtain ⟨sd0, sd0l, sd1, sd2⟩ := sh.sd0 n3
    obtain ⟨va, us, rfl, hva, hus⟩ := dt.tup_of
    cases hus with
    | @cons v0 _ _ _ h0 hus =>
    cases hus with
    | @cons v1 _ _ _ h1 hus =>
    cases hus with
    | @cons v2 _ _ _ h2 hus =>
    cases hus
    cases h1
    cases h2
    obtain ⟨ta, ts, rfl, hta, hts⟩ := h0.tup_of
    obtain rfl := DlAll_ints_eq hts
    have sqv : ∀ {H'}, Keep [p] H H' → SqT K H' va [.ref ta, .str x, .bl b] := fun kk => seqT_keep kk s0.soft (sqT_same off_same hva)
    have sqt : ∀ {H'}, Keep [p] H H' → SqT K H' ta (is.map V.int) := fun kk => seqT_keep kk s0.soft (sqT_same off_same hta)
    have il : is.length = n + 3 := sh.len
    let T : Option V → Option V → Option V → Option V → L2.St := fun x2 x3 x4 x5 => [some (.ref p), some (.ref va), x2, x3, x4, x5]
    refine ⟨fun σ' H' => ∃ fa kd, σ' = T (some (.ref fa)) (some (.int kd)) none none ∧ Keep [p] H H' ∧ Src H' p ∧ fa ≠ p ∧ H' fa = some (.lst (is.map V.int)) ∧ H fa = none, ?_, ?_⟩
    · refine ⟨_, rfl, .inr (.inl ⟨va, _, 0, _, rfl, rfl, sqv Keep.refl, at0 _ _, ta, _, rfl, .inr (sqt Keep.refl), fun fa hf => ?_⟩)⟩
      have fap : fa ≠ p := (ne_of_none s0.choose_spec.choose_spec.1 hf).symm
      have kf : Keep [] H (upd H fa (.lst (is.map V.int))) := Keep.new hf
      exact ⟨_, rfl, p, 8, rfl, s0.keep kf (by simp), by decide, by decide, fun r H2 r0 r1 k2 s2 => ⟨_, _, rfl, fa, r, rfl, (Keep.of_nil kf).trans k2, s2, fap, k2 _ _ (by simpa using fap) upd_same, hf⟩⟩
    rintro σ' H1 ⟨fa, kd, rfl, k1, s1, fap, ef1, hf⟩
    refine ⟨fun σ' H' => ∃ (t : Int) (j : Nat), σ' = T (some (.ref fa)) (some (.int kd)) (some (.int t)) (some (.int (j : Int))) ∧ Keep [p] H H' ∧ Src H' p ∧ H' fa = some (.lst (is.map V.int)) ∧ 0 ≤ t ∧ t ≤ 90 ∧ j < n + 3, ?_, ?_⟩
    · refine ⟨_, rfl, fa, is, rfl, SqL.of ef1, by omega, fun t ht _ => ?_⟩
      refine ⟨_, rfl, _, rfl, fa, _, rfl, .inl (SqL.of ef1), p, _, rfl, s1, by rw [List.length_map]; omega, by rw [List.length_map]; omega, fun r H2 r0 r1 k2 s2 => ⟨_, _, rfl, t, r.toNat, ?_, k1.trans k2, s2, k2 _ _ (by simpa using fap) ef1, (sh.nums t ht).1, (sh.nums t ht).2, ?_⟩⟩
      · rw [Int.toNat_of_nonneg r0]
        rfl
      · rw [List.length_map] at r1
        omega
    rintro σ' H2 ⟨t, j, rfl, k2, s2, ef2, t0, t1, jn⟩
    let S : L2.St := T (some (.ref fa)) (some (.int kd)) (some (.int t)) (some (.int (j : Int)))
    have IX0 : ∀ {H'} {Q' : VK}, Keep [p] H H' → Q' (.ref ta) H' → tOp (rIx K) (tVar 1) (tC (.int 0)) S H' Q' := fun kk q => ⟨_, rfl, .inr (.inl ⟨va, _, 0, _, rfl, rfl, sqv kk, at0 _ _, q⟩)⟩
    have IX1 : ∀ {H'} {Q' : VK}, Keep [p] H H' → Q' (.str x) H' → tOp (rIx K) (tVar 1) (tC (.int 1)) S H' Q' := fun kk q => ⟨_, rfl, .inr (.inl ⟨va, _, 1, _, rfl, rfl, sqv kk, at1 _ _ _, q⟩)⟩
    have IX2 : ∀ {H'} {Q' : VK}, Keep [p] H H' → Q' (.bl b) H' → tOp (rIx K) (tVar 1) (tC (.int 2)) S H' Q' := fun kk q => ⟨_, rfl, .inr (.inl ⟨va, _, 2, _, rfl, rfl, sqv kk, at_of (j := 2) rfl rfl, q⟩)⟩
    have DT0 : ∀ {H'}, Keep [p] H H' → Src H' p → Dl K (off [p] H') (.ref ta) (.tuple (is.map .int)) := fun kk ss => h0.k kk
    have fin : ∀ {H5 : Hp} {u0 u1 u2 : V} {d0 d1 d2 : PyData}, Keep [p] H H5 → Src H5 p → Dl K (off [p] H5) u0 d0 → Dl K (off [p] H5) u1 d1 → Dl K (off [p] H5) u2 d2 → Sd 2000 10 d0 → Sd 2000 10 d1 → Sd 2000 10 d2 →
        (3 ≤ sizeLine ∧ ∀ q2, H5 q2 = none → Q (.ref q2) (upd H5 q2 (.tup [u0, u1, u2]))) := by
      intro H5 u0 u1 u2 d0 d1 d2 k5 s5 e0 e1 e2 g0 g1 g2
      refine ⟨by decide, fun q2 hq2 => ?_⟩
      have kk : Keep [] H5 (upd H5 q2 (.tup [u0, u1, u2])) := Keep.new hq2
      exact k (.ref q2) (.tuple [d0, d1, d2]) _ (k5.trans (Keep.of_nil kk)) (s5.keep kk (by simp)) (.tup (SqT.of (off_new s5.live hq2)) (.cons (e0.k0 kk) (.cons (e1.k0 kk) (.cons (e2.k0 kk) .nil)))) (.inl ((sd3 g0 g1 g2).mono (by decide) (by decide)))
    have g0 : Sd 2000 10 (.tuple (is.map PyData.int)) := sd0.mono (by decide) (by decide)
    have g1 : Sd 2000 10 (.str x) := sd1.mono (by decide) (by decide)
    have g2 : Sd 2000 10 (.bool b) := sd2.mono (by decide) (by decide)
    let M : L2.St → Hp → Prop := fun σ' H' => σ' = S ∧ H' = H2
    -- kind < 3
    refine ⟨M, ?_, ?_⟩
    · refine ⟨_, rfl, _, _, rfl, rfl, _, rfl, ite2 (fun _ => ?_) (fun _ => ⟨rfl, rfl⟩)⟩
      have lv2 : Live [fa, p] H2 := by
        intro a ha
        rcases List.mem_cons.mp ha with rfl | ha
        · rw [ef2]; exact fun z => by cases z
        · exact s2.live a ha
      refine ⟨fun σ' H' => ∃ v d, σ' = S ∧ Keep [p] H H' ∧ Src H' p ∧ H' fa = some (.lst ((is.map V.int).set j v)) ∧ Dl K (off [p] H') v d ∧ Sd 100 1 d, ?_, ?_⟩
      · refine rd_asg (pickD (m := [fa, p]) (ds := oddNums t) rfl s2 (by simp) lv2 ?_ rfl rfl fun v d H3 hd k3 s3 dv => ?_)
        · refine .cons .bl (.cons .bl (.cons (fun H k0 Q k => ⟨_, _, rfl, rfl, k _ _ Keep.refl (.int _)⟩) (.cons .non (.cons .str (.cons (.var rfl (.int _)) (.cons (fun H k0 Q k => ⟨_, rfl, _, _, rfl, rfl, k _ _ Keep.refl (.int _)⟩) (.cons (fun H k0 Q k => ⟨_, rfl, _, _, rfl, rfl, k _ _ Keep.refl (.int _)⟩) (.cons .int (.cons .int (.cons (fun H k0 Q k => ⟨_, _, rfl, rfl, ⟨by decide, by decide, by decide⟩, k _ _ Keep.refl (.int _)⟩) (.cons (LlE.tup lv2 (.cons .int .nil)) (.cons (LlE.lst lv2 (.cons .int .nil)) .nil))))))))))))
        · have ef3 := k3 _ _ (by simpa using fap) ef2
          have ix : ixN (is.map V.int).length (j : Int) = some j := by
            rw [List.length_map, il]
            unfold ixN
            rw [if_pos (by omega), if_pos (by omega), Int.toNat_natCast]
          have kf : Keep [fa, p] H3 (upd H3 fa (.lst ((is.map V.int).set j v))) := Keep.at_ (by simp)
          refine ⟨_, rfl, _, rfl, fa, _, _, _, rfl, rfl, ef3, ix, v, d, rfl, Keep.own (k2.trans k3) hf, s3.keep (Keep.at_ (m := [fa]) (by simp)) (by simpa using fap.symm), upd_same, (dv.k kf).mono off_less, oddNums_sd t0 t1 d hd⟩
      rintro σ' H3 ⟨v, d, rfl, k3, s3, ef3, dv, sv⟩
      refine rd_ret (show tCons _ _ _ _ _ from rd_cons ⟨_, rfl, fa, _, rfl, .inl ⟨SqL.of ef3, fun q hq => ?_⟩⟩)
      have kq : Keep [] H3 (upd H3 q (.tup ((is.map V.int).set j v))) := Keep.new hq
      have kk := k3.trans (Keep.of_nil kq)
      refine rd_cons (IX1 kk (rd_cons (IX2 kk ?_)))
      refine fin (d0 := .tuple ((is.map PyData.int).set j d)) kk (s3.keep kq (by simp)) (.tup (SqT.of (off_new s3.live hq)) ?_) (.str _) (.bl _) ?_ g1 g2
      · exact DlAll_set (DlAll_ints is) (dv.k0 kq)
      · refine (Sd.tuple (w := 100) (n := 1) (k := 6) (fun e he => ?_) ?_).mono (by decide) (by decide)
        · rcases List.mem_or_eq_of_mem_set he with he | rfl
          · obtain ⟨i, hi, rfl⟩ := List.mem_map.mp he
            have := sh.nums i hi
            exact (sd_int this.1 (by omega)).mono (by decide) (by decide)
          · exact sv
        · rw [List.length_set, List.length_map, il]
          omega
    rintro σ' H3 ⟨rfl, rfl⟩
    -- kind == 3
    refine ⟨M, ?_, ?_⟩
    · refine ⟨_, rfl, rfl, _, rfl, ite2 (fun _ => ?_) (fun _ => ⟨rfl, rfl⟩)⟩
      refine rd_ret (show tCons _ _ _ _ _ from rd_cons (IX0 k2 (rd_cons (pickD (m := [p]) (ds := oddMarks) rfl s2 (by simp) s2.live (by repeat' first | exact LlA.nil | refine LlA.cons ?_ ?_ | exact LlE.str | exact LlE.bl | exact LlE.var rfl (.str _) | refine LlE.lst s2.live ?_ | refine LlE.tup s2.live ?_ | exact LlE.non | exact LlE.int | exact LlE.dic s2.live) rfl rfl fun v d H4 hd k4 s4 dv => rd_cons (IX2 (k2.trans k4) ?_)))))
      exact fin (k2.trans k4) s4 (DT0 (k2.trans k4) s4) dv (.bl _) g0 ((Sd.ofB (List.all_eq_true.mp oddMarks_sd d hd)).mono (by decide) (by decide)) g2
    rintro σ' H3 ⟨rfl, rfl⟩
    -- kind == 4
    refine ⟨M, ?_, ?_⟩
    · refine ⟨_, rfl, rfl, _, rfl, ite2 (fun _ => ?_) (fun _ => ⟨rfl, rfl⟩)⟩
      refine rd_ret (show tCons _ _ _ _ _ from rd_cons (IX0 k2 (rd_cons (IX1 k2 (rd_cons (pickD (m := [p]) (ds := oddAmid) rfl s2 (by simp) s2.live (by repeat' first | exact LlA.nil | refine LlA.cons ?_ ?_ | exact LlE.str | exact LlE.bl | exact LlE.var rfl (.str _) | refine LlE.lst s2.live ?_ | refine LlE.tup s2.live ?_ | exact LlE.non | exact LlE.int | exact LlE.dic s2.live) rfl rfl fun v d H4 hd k4 s4 dv => ?_))))))
      exact fin (k2.trans k4) s4 (DT0 (k2.trans k4) s4) (.str _) dv g0 g1 ((Sd.ofB (List.all_eq_true.mp oddAmid_sd d hd)).mono (by decide) (by decide))
    rintro σ' H3 ⟨rfl, rfl⟩
    -- kind == 5
    refine ⟨M, ?_, ?_⟩
    · refine ⟨_, rfl, rfl, _, rfl, ite2 (fun _ => ?_) (fun _ => ⟨rfl, rfl⟩)⟩
      have endT : ∀ {H4 : Hp} {q2 : Addr} {xs : List V} {ds : List PyData}, Keep [p] H H4 → Src H4 p → H4 q2 = none → DlAll K (off [p] H4) xs ds → (∀ d ∈ ds, Sd 10 0 d) → ds.length ≤ 7 →
          (3 ≤ sizeLine ∧ ∀ q3, upd H4 q2 (.tup xs) q3 = none → Q (.ref q3) (upd (upd H4 q2 (.tup xs)) q3 (.tup [.ref q2, .str x, .bl b]))) := by
        intro H4 q2 xs ds k4 s4 hq2 dx sx lx
        have kq : Keep [] H4 (upd H4 q2 (.tup xs)) := Keep.new hq2
        exact fin (k4.trans (Keep.of_nil kq)) (s4.keep kq (by simp)) (.tup (SqT.of (off_new s4.live hq2)) (dx.k0 kq)) (.str _) (.bl _) ((Sd.tuple sx lx).mono (by decide) (by decide)) g1 g2
      have FD : Dl K (off [p] H3) (.ref fa) (.list (is.map .int)) := .lst (by rw [off_out (by simpa using fap)]; exact ef2) (DlAll_ints is)
      have sI : ∀ d ∈ is.map PyData.int, Sd 10 0 d := fun d hd => by
        obtain ⟨i, hi, rfl⟩ := List.mem_map.mp hd
        have := sh.nums i hi
        exact sd_int this.1 (by omega)
      have lI : (is.map PyData.int).length = n + 3 := by rw [List.length_map, il]
      refine rd_ret (show tCons _ _ _ _ _ from rd_cons (rd_ife ⟨_, rfl, rfl, _, rfl, ite2 (fun _ => ?_) (fun _ => ?_)⟩))
      · refine rd_cb1 (LlE.fresh (K := K) (m := [p]) (H0 := H3) (LlE.initL s2.live (.var rfl FD) (fun H1 Q q => ⟨1, rfl, _, rfl, q⟩)) Keep.refl fun q xs H4 nq k4 hq dx => ⟨q, xs, rfl, .inl ⟨SqL.of hq, fun q2 hq2 => ?_⟩⟩)
        have kq : Keep [] H4 (upd H4 q2 (.tup xs)) := Keep.new hq2
        have kk := k2.trans (Keep.of_nil (k4.trans kq))
        refine rd_cons (IX1 kk (rd_cons (IX2 kk ?_)))
        exact endT (k2.trans (Keep.of_nil k4)) (s2.keep k4 (by simp)) hq2 dx (fun d hd => sI d (List.mem_of_mem_take hd)) (by rw [List.length_take]; omega)
      · refine rd_cb1 (LlE.fresh (K := K) (m := [p]) (H0 := H3) (LlE.cat s2.live (.var rfl FD) (LlE.lst (ds := [.int 0]) s2.live (.cons .int .nil)) (by rw [lI]; show n + 3 + 1 ≤ 100; omega)) Keep.refl fun q xs H4 nq k4 hq dx => ⟨q, xs, rfl, .inl ⟨SqL.of hq, fun q2 hq2 => ?_⟩⟩)
        have kq : Keep [] H4 (upd H4 q2 (.tup xs)) := Keep.new hq2
        have kk := k2.trans (Keep.of_nil (k4.trans kq))
        refine rd_cons (IX1 kk (rd_cons (IX2 kk ?_)))
        refine endT (k2.trans (Keep.of_nil k4)) (s2.keep k4 (by simp)) hq2 dx (fun d hd => ?_) (by rw [List.length_append, lI]; show n + 3 + 1 ≤ 7; omega)
        rcases List.mem_append.mp hd with hd | hd
        · exact sI d hd
        · rw [List.mem_singleton.mp hd]
          exact sd_int (by decide) (by decide)
    rintro σ' H3 ⟨rfl, rfl⟩
    have TH : LlE K [p] (tVar 1) S H3 (shpD is x b) := .var rfl (dt.k k2)
    have X0 : LlE K [p] (tOp (rIx K) (tVar 1) (tC (.int 0))) S H3 (.tuple (is.map .int)) := LlE.ixT (n := 0) (i := 0) TH (fun H1 Q q => q) rfl (.inl rfl)
    have X1 : LlE K [p] (tOp (rIx K) (tVar 1) (tC (.int 1))) S H3 (.str x) := LlE.ixT (n := 1) (i := 1) TH (fun H1 Q q => q) rfl (.inl rfl)
    have X2 : LlE K [p] (tOp (rIx K) (tVar 1) (tC (.int 2))) S H3 (.bool b) := LlE.ixT (n := 2) (i := 2) TH (fun H1 Q q => q) rfl (.inl rfl)
    have FD : Dl K (off [p] H3) (.ref fa) (.list (is.map .int)) := .lst (by rw [off_out (by simpa using fap)]; exact ef2) (DlAll_ints is)
    have lv := s2.live
    have h3 : ∀ d ∈ [PyData.tuple (is.map .int), .str x, .bool b], Sd 2000 10 d := all3 g0 g1 g2
    -- kind == 6
    refine ⟨M, ?_, ?_⟩
    · refine ⟨_, rfl, rfl, _, rfl, ite2 (fun _ => ?_) (fun _ => ⟨rfl, rfl⟩)⟩
      refine rd_ret (pickD (m := [p]) (ds := odd6 is x b) rfl s2 (by simp) lv
        (.cons (LlE.tup lv (.cons (.var rfl FD) (.cons X1 (.cons X2 .nil)))) (.cons (LlE.listOf lv TH) (.cons (LlE.cast (LlE.catA (ds := [.tuple (is.map .int), .str x, .bool b]) (es := [.bool false]) lv TH (LlE.tup lv (.cons .bl .nil)) (Nat.le_of_ble_eq_true rfl)) rfl) (.cons (LlE.cast (LlE.takeT (n := 2) (ds := [.tuple (is.map .int), .str x, .bool b]) lv TH (fun H1 Q q => ⟨2, rfl, q⟩)) rfl) (.cons (LlE.tup lv (.cons X0 .nil)) .nil))))) rfl rfl fun v d H4 hd k4 s4 dv => k v d H4 (k2.trans k4) s4 dv (.inl ?_))
      simp only [odd6, List.mem_cons, List.not_mem_nil, or_false] at hd
      rcases hd with rfl | rfl | rfl | rfl | rfl
      · exact (sd3 (sd0l.mono (by decide) (by decide)) g1 g2).mono (by decide) (by decide)
      · exact (Sd.list h3 (Nat.le_refl 3)).mono (by decide) (by decide)
      · refine (Sd.tuple (w := 2000) (n := 10) (k := 4) (fun e he => ?_) (Nat.le_of_ble_eq_true rfl)).mono (by decide) (by decide)
        rcases List.mem_append.mp (show e ∈ [PyData.tuple (is.map .int), .str x, .bool b] ++ [PyData.bool false] from he) with he | he
        · exact h3 e he
        · rw [List.mem_singleton.mp he]
          exact Sd.ofB (by decide +kernel)
      · exact (Sd.tuple (w := 2000) (n := 10) (k := 4) (all2 g0 g1) (Nat.le_of_ble_eq_true rfl)).mono (by decide) (by decide)
      · exact (Sd.tuple (w := 2000) (n := 10) (k := 1) (all1 g0) (Nat.le_refl 1)).mono (by decide) (by decide)
    rintro σ' H4 ⟨rfl, rfl⟩
    have gs := (sh.sd n3).mono (w' := 2000) (n' := 10) (by decide) (by decide)
    refine rd_ret (pickD (m := [p]) (ds := [.none, .int 0, .bool true, .str "", .str "own", .tuple [], .list [], .dict [], .tuple [.int 0, .int 0, .int 0], .tuple [.tuple [], .str "none", .bool false], .list [shpD is x b], .tuple [shpD is x b]]) rfl s2 (by simp) lv
      (.cons .non (.cons .int (.cons .bl (.cons .str (.cons .str (.cons (LlE.tup lv .nil) (.cons (LlE.lst lv .nil) (.cons (LlE.dic lv) (.cons (LlE.tup lv (.cons .int (.cons .int (.cons .int .nil)))) (.cons (LlE.tup lv (.cons (LlE.tup lv .nil) (.cons .str (.cons .bl .nil)))) (.cons (LlE.lst lv (.cons TH .nil)) (.cons (LlE.tup lv (.cons TH .nil)) .nil)))))))))))) rfl rfl fun v d H5 hd k5 s5 dv => k v d H5 (k2.trans k5) s5 dv ?_)
    have hd' : d ∈ oddEnd ++ oddEnd2 ∨ d = .dict [] ∨ d = .list [shpD is x b] ∨ d = .tuple [shpD is x b] := by
      simp only [oddEnd, oddEnd2, List.mem_cons, List.mem_append, List.not_mem_nil, or_false] at hd ⊢
      rcases hd with h | h | h | h | h | h | h | h | h | h | h | h <;> simp [h]
    rcases hd' with h | rfl | rfl | rfl
    · exact .inl ((Sd.ofB (List.all_eq_true.mp oddEnd_sd d h)).mono (by decide) (by decide))
    · exact .inr rfl
    · exact .inl ((Sd.list (w := 2000) (n := 10) (k := 1) (all1 gs) (Nat.le_refl 1)).mono (by decide) (by decide))
    · exact .inl ((Sd.tuple (w := 2000) (n := 10) (k := 1) (all1 gs) (Nat.le_refl 1)).mono (by decide) (by decide))
end
end La
set_option Elab.async false
set_option linter.all false
set_option maxRecDepth 100000
set_option maxHeartbeats 4000000
namespace La
open PySem PySem.Spec PyProof.Rows L2 SM
/-- a def of the top with one keyword-only parameter that is not written -/
structure DefV (P : Program) (w : World) (K : PySem.W.Frag) (mg : Str → Option Value) (base : Heap) (CX : CXT) (k : Nat) (x : Str) (ps : List Str) (dvs : List V) (sp : Sp) : Prop where
  ex : ∃ (fd : FuncData) (ds : List Value), FnOk P w K mg base CX k (He.ga K x) fd ps sp ∧ Vals dvs ds ∧ Binds K fd ps ds
  kp : PySem.W.keepIn K (.ref (He.ga K x)) = true
  at_ : mg x = some (.ref (He.ga K x))
theorem pe_callV {X : Cx} {CX : CXT} {k : Nat} {x : Str} {ps : List Str} {dvs : List V} {sp : Sp} {E : XK} {p pos : Pos} {e : Expr} {es : List Expr} {t : TA} (D : DefV X.prog X.w X.K X.mg X.base CX k x ps dvs sp) (hr : Room k X.A) (hx : Passes CX X E) (ha : PA X (e :: es) t) (hg : Gl X x := by rfl)
    (hdb : (x == ("__debug__" : Str)) = false := by decide) (he : starEach (e :: es) X.env = (false, eval e X.env) :: starEach es X.env := by rfl) (hpl : (backTo pos (starEach es X.env)).any (·.1) = false := by rfl) :
    PE X (.Call (.Name x p) (e :: es) [] pos) (tCall sp dvs E t) := by
  obtain ⟨⟨fd, ds, F, r, b⟩, kp, at_⟩ := D
  exact pe_call F hr hg at_ kp b r hx ha hdb he hpl
/-- two patterns of which the second is none -/
def spClosed (K : PySem.W.Frag) : Sp := fun vs H Q _ => ∃ (x l : Addr) (v0 v1 : V) (d0 d1 : PyData) (ns : List Str) (ls : List Ln), vs = [.ref x, .ref l, .bl false] ∧ RuleIs K H x ns ls ∧ ns.length ≤ 3 ∧ H l = some (.lst [v0, v1]) ∧ Dq K H v0 d0 ∧ Dq K H v1 d1 ∧ OkV d0 ∧ OkV d1 ∧ isPat (ns.length + 3) d1 = false ∧
  ∀ H', Keep [] H H' → Q (.bl false) H'
section
variable {P : Program} {w : World} {K : PySem.W.Frag} {mg : Str → Option Value} {base : Heap}
abbrev s_is_closed : Stmt := (top 59)
abbrev N_is_closed : List Str := ["rule", "value", "stops", "pattern", "known", "_", "after"]
abbrev P_is_closed : List Str := ["rule", "value", "stops"]
theorem sc_is_closed : FnScope N_is_closed P_is_closed (defScope s_is_closed) := ⟨rfl, rfl, rfl, by decide +kernel, rfl, by decide +kernel, by decide +kernel⟩
theorem Dis_closed (W : Cw fas fns K mg) (Dis_pattern : DefOk P w K mg base CX0 3 "is_pattern" P_is_pattern (spPat K)) : DefV P w K mg base CX0 4 "is_closed" P_is_closed [.bl false] (spClosed K) := by
  obtain ⟨fd, F⟩ := W.says.def_ 17 (d := d_is_closed) rfl
  obtain ⟨ds, rv, b⟩ := FunD.binds0 (ps := P_is_closed) F 2 (fun z => by cases z) rfl (fun D doc pm an cdv ct us ks l2 hl => match us, l2, ks, hl with | [a, b], _, [k], _ => ⟨_, _, _, _, _, _, rfl, rfl, rfl⟩)
  refine ⟨⟨fd, ds, FunD.ok F sc_is_closed (fun vs H Q E h => by obtain ⟨x, l, v0, v1, d0, d1, ns, ls, rfl, _⟩ := h; rfl) (fun cdv A outer s H vs Q E hr h => ?_), rv, b⟩, F.kp, W.glo 49⟩
  obtain ⟨x, l, v0, v1, d0, d1, ns, ls, rfl, ri, n3, hl, h0, h1, ok0, ok1, no, k⟩ := h
  refine ⟨_, PSs.nox (SM.pss_raise (ps_if (PW.pt (pw_or (pt_not (pt_val (pe_callB call_isi (by rfl) (W.fre 73) (by decide +kernel) (pa_cons (pv 1) (pa_cons (pe_bltn (v := .ty "list") (by rfl) (W.fre 75) (show bootBuiltins "list" = some (.type "list") by decide +kernel) rfl) pa_nil))))) (pw_or1 (pt_not (pt_val (pe_callB (cr_all rfl) (by rfl) (W.fre 69) (by decide +kernel) (pa_cons (pe_lc (own := [("pattern", 3)]) (g := gName 3) (tt := tYes) (by rfl) sc_is_closed.nd (pi_list (pv 1)) (blkOk_by (own := [("pattern", 3)]) (N := N_is_closed) (sc := defScope s_is_closed) (by decide +kernel)) (fun _ _ _ _ _ => pg_name (i := 3) sc_is_closed.nd rfl (Or.inl rfl)) (fun _ _ _ _ _ => pts_nil) (fun _ _ _ _ _ => (SM.pe_callD Dis_pattern (hr.mono (by decide)) pass0 (pa_cons (pv 0) (pa_cons (pv 3) pa_nil))))) pa_nil))))))) (pss_one (ps_ret pe_bl)) pss_nil)), ?_⟩
  refine ⟨_, rfl, _, _, _, _, _, rfl, .ty _, SM.sqL_ty (SqL.of hl), kit_lst (.list [d0, d1]), _, rfl, iteF ?_⟩
  refine ⟨_, rfl, l, rfl, ⟨_, SqL.of hl⟩, fun D hD => ?_⟩
  refine lcBL (f := isPat (ns.length + 3)) (SqL.of hl) (.cons h0 (.cons h1 .nil)) (Nat.le_of_ble_eq_true rfl) (fun H2 k2 v d hd hv => ?_) hD fun H2 k2 e2 => ⟨D, [d0, d1].map (isPat (ns.length + 3)), rfl, SqL.of e2, ?_⟩
  · intro H3 k3 Q' q'
    refine ⟨_, rfl, _, rfl, x, v, d, ns, ls, rfl, ri.keep (k2.trans k3) (by simp) Soft.nil, n3, hv.mono k3.same, ?_, q' _ Keep.refl⟩
    rcases List.mem_cons.mp hd with rfl | hd
    · exact ok0
    · rw [List.mem_singleton.mp hd]
      exact ok1
  · refine ⟨_, rfl, ?_⟩
    have e : ([d0, d1].map (isPat (ns.length + 3))).all (fun b => b) = false := by
      rw [all_id, List.all_cons, List.all_cons, no, Bool.false_and, Bool.and_false]
    rw [show (([d0, d1].map (isPat (ns.length + 3))).all id) = false from e]
    exact iteT (k H2 k2)
end
end La
set_option Elab.async false
set_option linter.all false
set_option maxRecDepth 100000
set_option maxHeartbeats 4000000
namespace La
open PySem PySem.Spec PyProof.Rows L2 SM
/-- the script as it stands: nobody changes it -/
def ScriptAt (K : PySem.W.Frag) (H : Hp) (a : Addr) (xs : List V) : Prop := (∃ o, H a = some (.frz o (.lst xs))) ∨ ∀ H', SqL K H' a xs
theorem ScriptAt.seq {K : PySem.W.Frag} {H : Hp} {a : Addr} {xs : List V} (h : ScriptAt K H a xs) : SqL K H a xs := h.elim (fun h => .inl (.inr h)) fun h => h H
theorem ScriptAt.keep {K : PySem.W.Frag} {m : List Addr} {H H' : Hp} {a : Addr} {xs : List V} (h : ScriptAt K H a xs) (k : Keep m H H') (n : ∀ b ∈ m, ∃ ys, H b = some (.lst ys)) : ScriptAt K H' a xs := by
  rcases h with ⟨o, h⟩ | h
  · refine .inl ⟨o, k _ _ (fun z => ?_) h⟩
    obtain ⟨ys, e⟩ := n _ z
    rw [h] at e
    cases e
  · exact .inr h
theorem Src.lsts {H : Hp} {p : Addr} (h : Src H p) : ∀ b ∈ [p], ∃ ys, H b = some (.lst ys) := fun b z => by
  obtain ⟨x, y, e, _⟩ := h
  rw [List.mem_singleton.mp z]
  exact ⟨_, e⟩
theorem goodBool (b : Bool) : GoodV (.bool b) := .inl (Sd.ofB (by cases b <;> decide +kernel))
theorem noNe {α : Type} [DecidableEq α] {v : α} : ¬ ((!decide (v = v)) = true) := by simp
def spLaw (K : PySem.W.Frag) : Sp := fun vs H Q _ => ∃ (s : Addr) (ns : List Int), vs = [.ref s] ∧ ScriptAt K H s (ns.map V.int) ∧ ns.length ≤ 63 ∧ (∀ n ∈ ns, Builtin.Int.intBits n ≤ 1048576) ∧ ∀ H', Q (.bl true) H'
section
variable {P : Program} {w : World} {K : PySem.W.Frag} {mg : Str → Option Value} {base : Heap}
abbrev s_law : Stmt := (top 77)
abbrev N_law : List Str := ["script", "start", "source", "rule", "made", "begun", "turn", "thing", "value", "due", "before"]
abbrev P_law : List Str := ["script"]
theorem sc_law : FnScope N_law P_law (defScope s_law) := ⟨rfl, rfl, rfl, by decide +kernel, rfl, by decide +kernel, by decide +kernel⟩
theorem Dlaw (W : Cw fas fns K mg) (sm : Sm base) (D_law_source : DefOk P w K mg base CX0 1 "_law_source" P__law_source (spSource K)) (D_law_rule : DefOk P w K mg base CX0 6 "_law_rule" P__law_rule (spRuleD K)) (D_law_made : DefOk P w K mg base CX0 7 "_law_made" P__law_made (spMade K))
    (D_law_begun : DefOk P w K mg base CX0 1 "_law_begun" P__law_begun (spBegun K)) (D_law_shape : DefOk P w K mg base CX0 3 "_law_shape" P__law_shape (spDrawn K)) (D_law_is_shape : DefOk P w K mg base CX0 1 "_law_is_shape" P__law_is_shape (spShape K)) (D_law_odd : DefOk P w K mg base CX0 3 "_law_odd" P__law_odd (spOdd K))
    (Dis_pattern : DefOk P w K mg base CX0 3 "is_pattern" P_is_pattern (spPat K)) (Dis_closed : DefV P w K mg base CX0 4 "is_closed" P_is_closed [.bl false] (spClosed K))
    {f : Addr} {fd : FuncData} (F : FunD K "law" "law" (defArgs s_law) (defBody s_law) (defScope s_law) [] [] f fd) : FnG P w K mg base CX0 8 f fd P_law (spLaw K) := by
  refine FnG.ofF F sc_law (fun vs H Q E h => ?_) (fun cdv B up s H vs Q E gd hr h => ?_)
  · obtain ⟨a, ns, rfl, _⟩ := h
    rfl
  · obtain ⟨a, sc, rfl, hS, hl, hb, k⟩ := h
    have hu64 := hr.units
    refine ⟨_, PSs.nox (Evl.pss_cut (ps_for PassesOwn.never rfl (pi_range1 (by rfl) (W.fre 79) (pa_cons (pe_callB (call_max2 rfl) (by rfl) (W.fre 76) (by decide +kernel) (pa_cons pe_int (pa_cons (pe_callB (call_min2 rfl) (by rfl) (W.fre 77) (by decide +kernel) (pa_cons pe_int (pa_cons (pe_callB call_len_seq (by rfl) (W.fre 74) (by decide +kernel) (pa_cons (pv 0) pa_nil)) pa_nil))) pa_nil))) pa_nil)) (pg_name (i := 1) sc_law.nd rfl (by first | exact Or.inl rfl | exact Or.inr rfl)) (Evl.pss_cut (ps_set (i := 2) sc_law.nd rfl (by first | exact Or.inl rfl | exact Or.inr rfl) (SM.pe_callD D_law_source (hr.mono (by decide)) pass0 (pa_cons (pv 0) (pa_cons (pv 1) pa_nil)))) (Evl.pss_cut (ps_set (i := 3) sc_law.nd rfl (by first | exact Or.inl rfl | exact Or.inr rfl) (SM.pe_callD D_law_rule (hr.mono (by decide)) pass0 (pa_cons (pv 2) (pa_cons pe_int pa_nil)))) (Evl.pss_cut (ps_par (i := 4) (j := 5) (by rfl) sc_law.nd rfl rfl (by decide) rfl rfl (pa_cons (SM.pe_callD D_law_made (hr.mono (by decide)) pass0 (pa_cons (pv 3) pa_nil)) (pa_cons (SM.pe_callD D_law_begun (hr.mono (by decide)) pass0 (pa_cons (pv 3) pa_nil)) pa_nil)) (by rfl)) (Evl.pss_cut (ps_for PassesOwn.never rfl (pi_range1 (by rfl) (W.fre 79) (pa_cons pe_int pa_nil)) (pg_name (i := 6) sc_law.nd rfl (by first | exact Or.inl rfl | exact Or.inr rfl)) (Evl.pss_cut (ps_set (i := 7) sc_law.nd rfl (by first | exact Or.inl rfl | exact Or.inr rfl) (SM.pe_callD D_law_shape (hr.mono (by decide)) pass0 (pa_cons (pv 2) (pa_cons (pv 3) pa_nil)))) (pss_one (ps_for PassesOwn.never rfl (pi_list (pe_lst (pa_cons (pv 7) (pa_cons (SM.pe_callD D_law_odd (hr.mono (by decide)) pass0 (pa_cons (pv 2) (pa_cons (pv 7) pa_nil))) (pa_cons (SM.pe_callD D_law_odd (hr.mono (by decide)) pass0 (pa_cons (pv 2) (pa_cons (pv 7) pa_nil))) pa_nil))))) (pg_name (i := 8) sc_law.nd rfl (by first | exact Or.inl rfl | exact Or.inr rfl)) (Evl.pss_cut (ps_par (i := 9) (j := 10) (by rfl) sc_law.nd rfl rfl (by decide) rfl rfl (pa_cons (SM.pe_callD D_law_is_shape (hr.mono (by decide)) pass0 (pa_cons (pv 3) (pa_cons (pv 8) pa_nil))) (pa_cons (pe_callB (SM.call_reprA sm gd hu64) (by rfl) (W.fre 80) (by decide +kernel) (pa_cons (pv 8) pa_nil)) pa_nil)) (by rfl)) (Evl.pss_cut (ps_if (PW.pt (pw_or (pt_cmpR op_ne (pe_callB (SM.call_reprA sm gd hu64) (by rfl) (W.fre 80) (by decide +kernel) (pa_cons (SM.pe_callD Dis_pattern (hr.mono (by decide)) pass0 (pa_cons (pv 4) (pa_cons (pv 8) pa_nil))) pa_nil)) (pe_callB (SM.call_reprA sm gd hu64) (by rfl) (W.fre 80) (by decide +kernel) (pa_cons (pv 9) pa_nil)) (nomark _)) (pw_or1 (pt_cmpR op_ne (pe_callB (SM.call_reprA sm gd hu64) (by rfl) (W.fre 80) (by decide +kernel) (pa_cons (pv 8) pa_nil)) (pv 10) (nomark _))))) (pss_one (ps_ret pe_bl)) pss_nil) (pss_one (ps_if (PW.pt (pw_and (pt_not (pt_val (pv 9))) (pw_and1 (pt_val (pe_callV Dis_closed (hr.mono (by decide)) pass0 (pa_cons (pv 4) (pa_cons (pe_lst (pa_cons (pv 5) (pa_cons (pv 8) pa_nil))) pa_nil))))))) (pss_one (ps_ret pe_bl)) pss_nil)))))))) (pss_one (ps_if (pt_not (pt_val (SM.pe_callD Dis_pattern (hr.mono (by decide)) pass0 (pa_cons (pv 4) (pa_cons (pv 5) pa_nil))))) (pss_one (ps_ret pe_bl)) pss_nil))))))) (pss_one (ps_ret pe_bl))), ?_⟩
    refine ⟨fun _ _ => True, ?_, fun σ' H' _ => k H'⟩
    have bound : ∀ z : Int, (if (if z < 2 then z else 2) > 1 then (if z < 2 then z else 2) else 1) ≤ 2 ∧ 1 ≤ (if (if z < 2 then z else 2) > 1 then (if z < 2 then z else 2) else 1) := fun z => by
      split <;> split <;> omega
    have bd := bound ((sc.map V.int).length : Int)
    refine ⟨_, rfl, a, _, rfl, .inl hS.seq, _, _, rfl, _, _, rfl, _, rfl, by omega, by omega, for_range (lo := 0) (fun _ σ H' => ∃ b1 b2 b3 b4 b5 b6 b7 b8 b9 b10, σ = [some (.ref a), b1, b2, b3, b4, b5, b6, b7, b8, b9, b10] ∧ ScriptAt K H' a (sc.map V.int))
      ⟨_, _, _, _, _, _, _, _, _, _, rfl, hS⟩ ?_ (fun _ _ _ => trivial)⟩
    rintro i σ H0 hi ⟨b1, b2, b3, b4, b5, b6, b7, b8, b9, b10, rfl, hS0⟩
    let τ : V → Option V → Option V → Option V → Option V → Option V → Option V → Option V → Option V → L2.St := fun p x3 x4 x5 x6 x7 x8 x9 x10 => [some (.ref a), some (.int (0 + (i : Int))), some p, x3, x4, x5, x6, x7, x8, x9, x10]
    -- source
    refine ⟨fun σ' H' => ∃ p, σ' = τ (.ref p) b3 b4 b5 b6 b7 b8 b9 b10 ∧ ScriptAt K H' a (sc.map V.int) ∧ Src H' p, ?_, ?_⟩
    · refine ⟨_, rfl, _, rfl, a, sc, _, rfl, hS0.seq, hl, hb, by omega, by omega, fun p H' np kp sp => ?_⟩
      exact ⟨p, rfl, hS0.keep kp (fun b z => by cases z), sp⟩
    rintro σ' H1 ⟨p, rfl, hS1, s1⟩
    -- rule
    refine ⟨fun σ' H' => ∃ vr ns ls, σ' = τ (.ref p) (some vr) b4 b5 b6 b7 b8 b9 b10 ∧ Keep [p] H1 H' ∧ Src H' p ∧ VRule ns ls ∧ Dl K (off [p] H') vr (ruleD ns ls), ?_, ?_⟩
    · refine ⟨_, rfl, p, 3, rfl, s1, by decide, by decide, fun v ns ls H' hv k' s' d => ⟨v, ns, ls, rfl, k', s', hv, d⟩⟩
    rintro σ' H2 ⟨vr, ns, ls, rfl, k2, s2, hv, dr2⟩
    have n3 := hv.okN.1
    -- made, begun
    refine ⟨fun σ' H' => ∃ x vb, σ' = τ (.ref p) (some vr) (some (.ref x)) (some vb) b6 b7 b8 b9 b10 ∧ Keep [] H2 H' ∧ x ≠ p ∧ RuleIs K H' x ns ls ∧ Dl K (off [p] H') vb (begunD (ns.length + 3)), ?_, ?_⟩
    · refine ⟨_, rfl, [p], vr, ns, ls, rfl, dr2, hv, fun x H3 k3 nx ri => ⟨_, rfl, [p], vr, ns, ls, rfl, (s2.keep k3 (by simp)).live, dr2.k0 k3, n3, fun vb H4 k4 db => ⟨_, _, rfl, x, vb, rfl, k3.trans k4, ?_, ri.keep k4 (by simp) Soft.nil, db⟩⟩⟩
      exact (ne_of_none s2.choose_spec.choose_spec.1 nx).symm
    rintro σ' H3 ⟨x, vb, rfl, k3, xp, ri3, db3⟩
    have s3 := s2.keep k3 (by simp)
    have dr3 := dr2.k0 k3
    obtain ⟨bp, bg⟩ := begun_pat ns.length n3
    have xn : x ∉ [p] := by simpa using xp
    let T : Option V → Option V → Option V → Option V → Option V → L2.St := fun x6 x7 x8 x9 x10 => τ (.ref p) (some vr) (some (.ref x)) (some vb) x6 x7 x8 x9 x10
    let Pv : Nat → L2.St → Hp → Prop := fun _ σ' H' => ∃ x6 x7 x8 x9 x10, σ' = T x6 x7 x8 x9 x10 ∧ Keep [p] H3 H' ∧ Src H' p
    refine ⟨Pv 0, ?_, ?_⟩
    · refine ⟨10, rfl, by decide, by decide, for_range (lo := 0) Pv ⟨_, _, _, _, _, rfl, Keep.refl, s3⟩ ?_ (fun _ _ z => z)⟩
      rintro tn σ' H4 ht ⟨x6, x7, x8, x9, x10, rfl, k4, s4⟩
      -- thing
      refine ⟨fun σ' H' => ∃ vt is y b, σ' = T (some (.int (0 + (tn : Int)))) (some vt) x8 x9 x10 ∧ Keep [p] H3 H' ∧ Src H' p ∧ Dl K (off [p] H') vt (shpD is y b) ∧ ShapeD ns.length is y b, ?_, ?_⟩
      · exact ⟨_, rfl, _, rfl, p, vr, ns, ls, rfl, s4, dr3.k k4, n3, fun v is y b H5 k5 s5 d5 sh => ⟨v, is, y, b, rfl, k4.trans k5, s5, d5, sh⟩⟩
      rintro σ' H5 ⟨vt, is, y, b, rfl, k5, s5, dt5, sh⟩
      refine ⟨_, rfl, _, rfl, _, rfl, p, vt, ns.length, is, y, b, rfl, s5, dt5, sh, n3, fun v1 d1 H6 k6 s6 dv1 g1 => ⟨_, rfl, _, rfl, p, vt, ns.length, is, y, b, rfl, s6, dt5.k k6, sh, n3, fun v2 d2 H7 k7 s7 dv2 g2 => ⟨(by show 3 ≤ sizeLine; decide), fun q hq => ?_⟩⟩⟩
      have kq : Keep [] H7 (upd H7 q (.lst [vt, v1, v2])) := Keep.new hq
      have s8 := s7.keep kq (by simp)
      have qp : q ∉ [p] := by
        have := ne_of_none s7.choose_spec.choose_spec.1 hq
        simpa using this.symm
      have dx : DlAll K (off [p] (upd H7 q (.lst [vt, v1, v2]))) [vt, v1, v2] [shpD is y b, d1, d2] := .cons (((dt5.k k6).k k7).k0 kq) (.cons ((dv1.k k7).k0 kq) (.cons (dv2.k0 kq) .nil))
      have gx : ∀ d ∈ [shpD is y b, d1, d2], GoodV d := all3 (.inl ((sh.sd n3).mono (by decide) (by decide))) g1 g2
      have k38 : Keep [p] H3 (upd H7 q (.lst [vt, v1, v2])) := k5.trans (k6.trans (k7.trans (Keep.of_nil kq)))
      have eq8 : upd H7 q (.lst [vt, v1, v2]) q = some (.lst [vt, v1, v2]) := upd_same
      generalize upd H7 q (.lst [vt, v1, v2]) = H8 at s8 dx k38 eq8
      refine ⟨q, rfl, ⟨_, SqL.of eq8⟩, for_list (K := K) (a := q) (xs := [vt, v1, v2]) (fun _ σ' H' => ∃ x8 x9 x10, σ' = T (some (.int (0 + (tn : Int)))) (some vt) x8 x9 x10 ∧ Keep [p] H8 H' ∧ Src H' p) ⟨_, _, _, rfl, Keep.refl, s8⟩ (fun i σ H _ z => by obtain ⟨_, _, _, _, kk, _⟩ := z; exact SqL.of (kk _ _ qp eq8)) ?_ ?_⟩
      · rintro j v σ' H9 hv9 ⟨y8, y9, y10, rfl, k9, s9⟩
        obtain ⟨d, hd, dv⟩ := dx.get hv9
        have gd' : GoodV d := gx d (List.mem_of_getElem? hd)
        have dv9 := dv.k k9
        have dr9 := dr3.k (k38.trans k9)
        -- due, before
        refine ⟨fun σ' H' => σ' = T (some (.int (0 + (tn : Int)))) (some vt) (some v) (some (.bl (isPat (ns.length + 3) d))) (some (.str d.shown)) ∧ Keep [] H9 H', ?_, ?_⟩
        · refine ⟨_, rfl, _, rfl, [p], vr, v, d, ns, ls, rfl, dr9, dv9.whole.dq, gd'.okV, fun HA kA => ?_⟩
          exact ⟨_, rfl, v, d, rfl, (dv9.k0 kA).whole.dq, gd'.shown.1, gd'.shown.2.1, gd'.shown.2.2, _, _, rfl, rfl, kA⟩
        rintro σ' HA ⟨rfl, kA⟩
        have sA := s9.keep kA (by simp)
        have k3A : Keep [p] H3 HA := k38.trans (k9.trans (Keep.of_nil kA))
        have riA := ri3.keep k3A xn s3.soft
        have dvA := (dv9.k0 kA).whole.dq
        refine ⟨fun σ' H' => σ' = T (some (.int (0 + (tn : Int)))) (some vt) (some v) (some (.bl (isPat (ns.length + 3) d))) (some (.str d.shown)) ∧ H' = HA, ?_, ?_⟩
        · refine ⟨_, rfl, _, rfl, x, v, d, ns, ls, rfl, riA, n3, dvA, gd'.okV, _, _, rfl, .bl _, (goodBool _).shown.1, (goodBool _).shown.2.1, (goodBool _).shown.2.2, _, rfl, _, _, rfl, .bl _, (goodBool _).shown.1, (goodBool _).shown.2.1, (goodBool _).shown.2.2, rfl, _, rfl, ite2 (fun h => absurd h noNe) (fun _ => ?_)⟩
          exact ⟨_, rfl, v, d, rfl, dvA, gd'.shown.1, gd'.shown.2.1, gd'.shown.2.2, _, rfl, rfl, _, rfl, ite2 (fun h => absurd h noNe) (fun _ => ⟨rfl, rfl⟩)⟩
        rintro σ' HB ⟨rfl, rfl⟩
        have ends : ∀ {H'}, Keep [] HB H' → ∃ x8 x9 x10, T (some (.int (0 + (tn : Int)))) (some vt) (some v) (some (.bl (isPat (ns.length + 3) d))) (some (.str d.shown)) = T (some (.int (0 + (tn : Int)))) (some vt) x8 x9 x10 ∧ Keep [p] H8 H' ∧ Src H' p := fun kk =>
          ⟨_, _, _, rfl, k9.trans (Keep.of_nil (kA.trans kk)), sA.keep kk (by simp)⟩
        refine ⟨_, rfl, _, rfl, ite2 (fun h => ?_) (fun _ => ends Keep.refl)⟩
        have no : isPat (ns.length + 3) d = false := by simpa using h
        refine ⟨_, rfl, _, rfl, _, rfl, (by show 2 ≤ sizeLine; decide), fun l hl => ?_⟩
        have kl : Keep [] HB (upd HB l (.lst [vb, v])) := Keep.new hl
        exact ⟨x, l, vb, v, begunD (ns.length + 3), d, ns, ls, rfl, riA.keep kl (by simp) Soft.nil, n3, upd_same, ((db3.k k3A).k0 kl).whole.dq, dvA.mono kl.same, bg.okV, gd'.okV, no, fun H' kk => ⟨_, rfl, iteF (ends (kl.trans kk))⟩⟩
      · rintro σ' H9 ⟨y8, y9, y10, rfl, k9, s9⟩
        exact ⟨_, _, _, _, _, rfl, k38.trans k9, s9⟩
    rintro σ' H4 ⟨x6, x7, x8, x9, x10, rfl, k4, s4⟩
    have ri4 := ri3.keep k4 xn s3.soft
    have hS4 := ((hS1.keep k2 (Src.lsts s1)).keep k3 (fun b z => by cases z)).keep k4 (Src.lsts s3)
    refine ⟨_, rfl, _, rfl, x, vb, _, ns, ls, rfl, ri4, n3, (db3.k k4).whole.dq, bg.okV, _, rfl, ?_⟩
    rw [bp]
    exact iteF ⟨_, _, _, _, _, _, _, _, _, _, rfl, hS4⟩
end
end La
set_option Elab.async false
set_option linter.all false
set_option maxRecDepth 100000
set_option maxHeartbeats 4000000
namespace La
open PySem PySem.Spec PyProof.Rows L2 SM
theorem facts {w : World} {K : PySem.W.Frag} {h : Heap} {mg : Str → Option Value} {fa : Addr} (X : K.In h) (G : h.Ns mainGlobals mg) (hfa : mg ("law" : Str) = some (.ref fa)) (c : SaysP fas fns prs exB K) :
    ∃ fd : FuncData, (∀ (s : Shared) (v : Value), BindsTo s fd ⟨[v], []⟩ [("script", v)]) ∧ ∀ base : Heap, K.In base → base.Ns mainGlobals mg → Sm base → FnG (PySem.Challenge.rw_stillmine_k21_shapes_of_patterns).prog w K mg base CX0 8 fa fd ["script"] (spLaw K) := by
  have hx : exB K = true := c.more
  have W : Cw fas fns K mg := ⟨⟨h, X, G⟩, c.d⟩
  obtain ⟨fd, F⟩ := c.d.def_ 34 (d := d_law) rfl
  have e := hfa.symm.trans (W.glo 66)
  cases e
  have b := FunD.bindsA (ps := ["script"]) F fun _ _ _ _ _ _ us hl => match us, hl with | [_], _ => rfl
  have Pr : PropAt K q_Rule_registers := c.prop 0
  have Pp : PropAt K q_Rule_places := c.prop 1
  have hP := places_at hx
  refine ⟨fd, fun s v => b s [v] rfl, fun base _ _ sm => ?_⟩
  have d1 := D_law_draw (P := (PySem.Challenge.rw_stillmine_k21_shapes_of_patterns).prog) (w := w) (base := base) W
  have pk := D_law_pick W d1
  have pS := D_law_pickS W d1
  have nt := D_law_note W d1 pS
  have rg := D_law_registers W pk nt
  have te := D_law_test W d1 pk
  have st := D_law_steps W d1 pk
  have rw' := D_law_row W d1 te st
  have gd := D_law_good (P := (PySem.Challenge.rw_stillmine_k21_shapes_of_patterns).prog) (w := w) (base := base) W
  have bt := D_law_bent W d1 rw'
  have ru := D_law_rule W d1 rg gd rw' bt
  have cf := Dchoice_of (P := (PySem.Challenge.rw_stillmine_k21_shapes_of_patterns).prog) (w := w) (base := base) W
  have am := Dare_at_most_four (P := (PySem.Challenge.rw_stillmine_k21_shapes_of_patterns).prog) (w := w) (base := base) W
  have is := Dis_step (P := (PySem.Challenge.rw_stillmine_k21_shapes_of_patterns).prog) (w := w) (base := base) W
  have it := Dis_test (P := (PySem.Challenge.rw_stillmine_k21_shapes_of_patterns).prog) (w := w) (base := base) W
  have as := Dare_steps W is am
  have il := Dis_line W it as am
  have iw := Dis_word (P := (PySem.Challenge.rw_stillmine_k21_shapes_of_patterns).prog) (w := w) (base := base) W
  have ar := Dare_registers W hx iw
  have rb := Drefuse_bad_lines W (R_BadLine W hx) il
  have ir := I_Rule Pp hP cf W (R_BadRegisters W hx) (R_BadLines W hx) ar rb
  have md := D_law_made W ir
  have ii := Dis_index (P := (PySem.Challenge.rw_stillmine_k21_shapes_of_patterns).prog) (w := w) (base := base) W
  have an := Dare_numbers W ii
  have ip := Dis_pattern Pr W an
  have ic := Dis_closed W ip
  have bg := D_law_begun (P := (PySem.Challenge.rw_stillmine_k21_shapes_of_patterns).prog) (w := w) (base := base) W
  have sh := D_law_shape W d1 pk
  have li := D_law_is_shape (P := (PySem.Challenge.rw_stillmine_k21_shapes_of_patterns).prog) (w := w) (base := base) W
  have od := D_law_odd W d1 pk
  exact Dlaw W sm (D_law_source W) ru md bg sh li od ip ic F
theorem script_of {K : PySem.W.Frag} {H : Hp} {a : Addr} {xs : List V} (o : Only H) (h : SqL K H a xs) : ScriptAt K H a xs := by
  rcases h with (h | ⟨ob, h⟩) | h
  · rcases o a with z | ⟨ob, ys, z⟩
    · rw [z] at h
      cases h
    · rw [z] at h
      cases h
  · exact .inl ⟨ob, h⟩
  · exact .inr fun H' => .inr h
end La
open PySem PySem.W PySem.Calls PyProof.Rows
set_option maxRecDepth 100000 in
set_option maxHeartbeats 0 in
theorem PySem.Challenge.cw_stillmine_k21_shapes_of_patterns_holds : PySem.Challenge.rw_stillmine_k21_shapes_of_patterns.Holds := by
  w_on; o_law
  refine HandSHeadRun.head_any (r := OpenLaw.row PySem.Challenge.rw_stillmine_k21_shapes_of_patterns) (q := La.qv) (H := La.hk) (ob := La.ob) (M := 20000) (loose := La.loose) (d := HandSHeadRun.topDef (OpenLaw.row PySem.Challenge.rw_stillmine_k21_shapes_of_patterns).prog 77) (kwd := []) La.ob_eq
    (by kernel_rfl) (fun s => by kernel_rfl) La.run (by kernel_rfl) (by kernel_rfl) (by kernel_rfl) (by rfl) (by first | assumption | decide +kernel) (by decide +kernel) ⟨rfl, rfl, rfl, rfl, rfl, by decide +kernel⟩ ?hw ?hc
  case hw => w_witness2
  case hc =>
    refine SM.walkG (l := PySem.Challenge.rw_stillmine_k21_shapes_of_patterns) (n := 63) (k := 8) (x := "script") (CX := L2.CX0) rfl (by decide) (by kernel_rfl) ⟨rfl, by decide, by decide⟩ (by kernel_rfl) ?F (fun _ _ _ _ z => z)
    intro w mg fa h Y G hmg0
    obtain ⟨K, KX, c⟩ := Y
    have hmg : mg ("law" : PySem.Str) = some (.ref fa) := by
      have e : (HandSHeadRun.topDef (OpenLaw.row PySem.Challenge.rw_stillmine_k21_shapes_of_patterns).prog 77).name = ("law" : PySem.Str) := by kernel_rfl
      rw [← e]
      exact hmg0
    obtain ⟨fd, hb, hF⟩ := La.facts (w := w) KX G hmg c
    exact ⟨K, fd, La.spLaw K, KX, hb, fun H a ns hl hbits ho hS => ⟨a, ns, rfl, La.script_of ho hS, hl, hbits, fun _ => rfl⟩, hF⟩
