import PyProof.Rows.All
import Wide.All
import OpenK.AllK
import Wide.FinOn
import KE.KExcIs
import HandS.ForMost
import HandS.ForExc
import HandS.EndBits
import HandS.Wide
import HandS.IsInst
import HandS.ExcInit
import HandS.ExcIs
import HandS.ExcField
import HandS.Evl
import PyProof.ReprLen
import HandS.Head0
import HandS.Head1
import HandS.Head2
import HandS.HeadEnd
import HandS.HeadHook1
import HandS.HeadHook2
import HandS.Defaults
import HandS.Deep
import HandS.Property
import HandS.Strs
import HandS.TryMany
import HandS.TupAny
import HandS.TupMul
import HandS.Style
import HandS.More
import HandS.Walk
import HandS.OwnEq
import KE.GoesMore
import PyProof.EnumMake
import HandS.DictComp
import HandS.ExcOwn
import HandS.MakeKwOnly
import PySem.Challenge.RW_stillmine_k80_texts_of_rules
import HandS.StrMore
set_option Elab.async false
set_option linter.all false
set_option maxRecDepth 100000
set_option maxHeartbeats 2000000
/-! Calls while no repr is under way: the same layer with one more fact of the surroundings. -/
namespace SM
open PySem PySem.Spec PyProof.Rows L2

structure FnG (P : Program) (w : World) (K : PySem.W.Frag) (mg : Str → Option Value) (base : Heap) (CX : CXT) (k : Nat) (f : Addr) (fd : FuncData) (ps : List Str) (sp : Sp) : Prop where
  len : ∀ vs H Q E, sp vs H Q E → vs.length = ps.length
  go : ∀ (B : Around) (up : List Env) (s : Shared) (H : Hp) (ar : Args) (us : List Value) (vs : List V) (Q : VK) (E : XK),
    B.guards = some [] → Room k B → Env0 P w K mg base B up s H → BindsTo s fd ar (ps.zip us) → Vals vs us → sp vs H Q E →
      codeAny (model P w) B (.call (.ref f) ar) (CR CX up P w H s Q E) s

section
variable {P : Program} {w : World} {K : PySem.W.Frag} {mg : Str → Option Value} {base : Heap} {CX : CXT} {k : Nat} {f : Addr} {fd : FuncData} {ps : List Str} {sp : Sp}
theorem FnG.of (F : FnOk P w K mg base CX k f fd ps sp) : FnG P w K mg base CX k f fd ps sp :=
  ⟨F.len, fun B up s H ar us vs Q E _ hr e b r h => F.run B up s H ar us vs Q E hr e b r h⟩

/-- a def by its body, no repr under way around it -/
theorem okG {x qual : Str} {st : Stmt} {N : List Str} (F : Fun K x qual st f fd) (S : FnScope N ps (defScope st)) (len : ∀ vs H Q E, sp vs H Q E → vs.length = ps.length)
    (body : ∀ (cdv : Value) (B : Around) (up : List Env) (s : Shared) (H : Hp) (vs : List V) (Q : VK) (E : XK), B.guards = some [] →
      Room k (B.deeper (envOfC qual (defScope st) s.heap.objs.size f cdv)) → sp vs H Q E →
      ∃ t, PSs (cxOf CX P w K mg base N qual (defScope st) f cdv B up s H E) (defBody st) t ∧ t { nx := fun _ H' => Q .non H', rt := Q } (start N vs) H) :
    FnG P w K mg base CX (k + 1) f fd ps sp := by
  obtain ⟨oc, od, kV, doc, pm, an, cdv, ct, osl, e, lk, hcd⟩ := F.ex
  subst e
  refine ⟨len, fun B up s H ar us vs Q E hg hr e0 bt rv want => ?_⟩
  have many := len _ _ _ _ want
  have kin : K.In s.heap := e0.mod.kin.keeps (fun b o z => (e0.bs b o z).1)
  have room : s.heap.NoLimit := e0.mod.nolimit.keeps (fun b o z => (e0.bs b o z).1)
  have kinds : ∀ y ∈ ps.zip us, (defScope st).names.lookup y.1 = some .local ∨
      ((defScope st).names.lookup y.1 = some .cell ∧ ((cellsFrom (s.heap.objs.size + 1) (defScope st).names []).lookup y.1).isSome = true) := by
    rintro ⟨n, v⟩ hy
    cases S.par n (List.of_mem_zip hy).1 with
    | inl q => exact Or.inl q
    | inr q => exact Or.inr ⟨q, PySem.W.cellsFrom_some _ _ _ (Or.inl q)⟩
  apply codeAny_call_function hr.depth (kin _ _ lk) rfl S.co S.gen rfl (PySem.W.codeRec_of kin hcd)
  apply bt
  apply wpAny_newFunctionEnv_cells S.kind kinds
  intro env he s1 x
  subst he
  refine ⟨room.keeps x.toInCall.keep, codeAny_func ?_⟩
  obtain ⟨t, ht, q⟩ := body cdv B up s H vs Q E hg (hr.deeper _) want
  have I := inv_start (CX := CX) (E := E) S hr.hd e0 many rv x
  apply wpAny_mono (ht.run [] s1 (start N vs) H _ I q)
  · intro fl s' z
    have fin : ∀ {σ' : L2.St} {H' : Hp} {v : V} {u : Value}, Inv (cxOf CX P w K mg base N qual (defScope st) f cdv B up s H E) [] σ' H' s' → RelV v u → Q v H' → CE up P w H s Q u s' := by
      intro σ' H' v u J rv' q'
      exact ⟨v, H', J.os, J.bare, J.base, J.hok, rv', q'⟩
    cases fl with
    | next =>
      obtain ⟨σ', H', J, q'⟩ := z
      exact fin (v := V.non) (u := Value.none) J rfl q'
    | ret u =>
      obtain ⟨v, σ', H', J, rv', q'⟩ := z
      exact fin J rv' q'
    | brk =>
      obtain ⟨_, _, _, q'⟩ := z
      exact q'.elim
    | cont =>
      obtain ⟨_, _, _, q'⟩ := z
      exact q'.elim
  · exact fun e s' z => z
end

section
variable {X : Cx} {CX : CXT} {k : Nat} {f : Addr} {fd : FuncData} {ps : List Str} {sp : Sp} {dvs : List V} {ds : List Value} {E : XK} {x : Str} {p pos : Pos} {e : Expr} {es : List Expr} {t : TA}
theorem go_fn {pins : List (Addr × Obj)} {σ : L2.St} {H : Hp} {s : Shared} {Q : VK} {us : List Value} {vs : List V} (F : FnG X.prog X.w X.K X.mg X.base CX k f fd ps sp) (hg : X.A.guards = some []) (hr : Room k X.A) (hb : Binds X.K fd ps ds) (hd : Vals dvs ds) (hx : Passes CX X E)
    (I : Inv X pins σ H s) (r : Vals vs us) (want : sp (vs ++ dvs) H Q E) : wpAny (model X.prog X.w) X.A (call (.ref f) us) (EP X pins σ Q) X.xe s := by
  have rr : Vals (vs ++ dvs) (us ++ ds) := Vals.append r hd
  have many : (us ++ ds).length = ps.length := (Vals.length rr).symm.trans (F.len _ _ _ _ want)
  apply wpAny_call
  apply codeAny_mono (F.go X.A X.stack s H ⟨us, []⟩ (us ++ ds) (vs ++ dvs) Q E hg hr I.env0 (hb s us I.kIn many) rr want)
  intro r' s' z
  cases r' with
  | error er => exact hx pins σ H s er s' I z
  | ok fl =>
    cases fl with
    | ret u => exact I.after z
    | next => exact z.elim
    | brk => exact z.elim
    | cont => exact z.elim
theorem pe_callG (F : FnG X.prog X.w X.K X.mg X.base CX k f fd ps sp) (gd : X.A.guards = some []) (hr : Room k X.A) (hg : Gl X x) (hm : X.mg x = some (.ref f)) (hk : PySem.W.keepIn X.K (.ref f) = true) (hb : Binds X.K fd ps ds) (hd : Vals dvs ds) (hx : Passes CX X E)
    (ha : PA X (e :: es) t) (hdb : (x == ("__debug__" : Str)) = false := by decide) (he : starEach (e :: es) X.env = (false, eval e X.env) :: starEach es X.env := by rfl) (hpl : (backTo pos (starEach es X.env)).any (·.1) = false := by rfl) :
    PE X (.Call (.Name x p) (e :: es) [] pos) (tCall sp dvs E t) := by
  constructor
  intro pins s σ H Q I h
  apply wpAny_Call_Name_kw
  apply ld_glob I hg hm _ hdb
  apply PySem.W.callWith_K (h₀ := X.base) I.ok.mod.kin hk _ he hpl
  apply thn (ha.run pos pins s σ H _ I h)
  rintro us s1 ⟨vs, H1, I1, r, q⟩
  exact ⟨I1.kIn, go_fn F gd hr hb hd hx I1 r q⟩
end
end SM
set_option Elab.async false
set_option linter.all false
set_option maxRecDepth 100000
set_option maxHeartbeats 2000000
/-! Data with dicts in it, and repr of it. -/
namespace SM
open PySem PySem.Spec PyProof.Rows L2

def keyD : Key → PyData
  | .inl i => .int i
  | .inr x => .str x
mutual
/-- v stands for the data d in H -/
inductive Dq (K : PySem.W.Frag) (H : Hp) : V → PyData → Prop
  | non : Dq K H .non .none
  | bl (b : Bool) : Dq K H (.bl b) (.bool b)
  | int (i : Int) : Dq K H (.int i) (.int i)
  | str (x : Str) : Dq K H (.str x) (.str x)
  | lst {a : Addr} {xs : List V} {ds : List PyData} : SqL K H a xs → DqAll K H xs ds → Dq K H (.ref a) (.list ds)
  | tup {a : Addr} {xs : List V} {ds : List PyData} : SqT K H a xs → DqAll K H xs ds → Dq K H (.ref a) (.tuple ds)
  | dic {a : Addr} {kvs : List (Key × V)} {ds : List PyData} : H a = some (.dK kvs) → DqAll K H (kvs.map (·.2)) ds → Dq K H (.ref a) (.dict ((kvs.map fun q => keyD q.1).zip ds))
inductive DqAll (K : PySem.W.Frag) (H : Hp) : List V → List PyData → Prop
  | nil : DqAll K H [] []
  | cons {v : V} {vs : List V} {d : PyData} {ds : List PyData} : Dq K H v d → DqAll K H vs ds → DqAll K H (v :: vs) (d :: ds)
end
theorem DqAll.length {K : PySem.W.Frag} {H : Hp} : ∀ {vs : List V} {ds : List PyData}, DqAll K H vs ds → vs.length = ds.length
  | _, _, .nil => rfl
  | _, _, .cons _ t => congrArg (· + 1) t.length
mutual
theorem Dq.mono {K : PySem.W.Frag} {H H' : Hp} (e : Same H H') : ∀ {v : V} {d : PyData}, Dq K H v d → Dq K H' v d
  | _, _, .non => .non
  | _, _, .bl b => .bl b
  | _, _, .int i => .int i
  | _, _, .str x => .str x
  | _, _, .lst s t => .lst (e.seq s) (DqAll.mono e t)
  | _, _, .tup s t => .tup (by
      rcases s with (s | ⟨o, s⟩) | s
      · exact .inl (.inl (e _ _ s))
      · exact .inl (.inr ⟨o, e _ _ s⟩)
      · exact .inr s) (DqAll.mono e t)
  | _, _, .dic s t => .dic (e _ _ s) (DqAll.mono e t)
theorem DqAll.mono {K : PySem.W.Frag} {H H' : Hp} (e : Same H H') : ∀ {vs : List V} {ds : List PyData}, DqAll K H vs ds → DqAll K H' vs ds
  | _, _, .nil => .nil
  | _, _, .cons s t => .cons (Dq.mono e s) (DqAll.mono e t)
end
/-- the table of modules stands as a dict -/
def Sm (base : Heap) : Prop := ∃ mm, base.Ns sysModules mm
section
variable {X : Cx} {pins : List (Addr × Obj)} {σ : L2.St} {H : Hp} {s : Shared}
theorem sm_at (I : Inv X pins σ H s) (sm : Sm X.base) : ∃ o es ep, s.heap.get? sysModules = some o ∧ o.data = .dict es ep := by
  obtain ⟨mm, o, es, ep, e, d, _⟩ := sm
  obtain ⟨e1, n⟩ := I.ok.bs _ _ e
  have nx := I.ok.noex _ _ e
  by_cases hf : sysModules ∈ X.fs
  · obtain ⟨sl, z⟩ := I.base.slot _ _ e1 n hf nx
    exact ⟨_, es, ep, z, d⟩
  · exact ⟨o, es, ep, I.base.keep _ _ e1 n hf nx, d⟩
theorem not_sm (I : Inv X pins σ H s) (sm : Sm X.base) {a : Addr} {o : Obj} {its : Array Value} {n : Nat} (e : s.heap.get? a = some o) (d : o.data = .seq its n) : sysModules ≠ a := by
  intro z
  obtain ⟨o', es, ep, e', d'⟩ := sm_at I sm
  rw [z, e] at e'
  cases e'
  rw [d] at d'
  cases d'
theorem keys_read {h : Heap} {P : Program} {w : World} : ∀ {es : List DictEntry} {kvs : List (Key × Value)}, PySem.Pairs (mixKind P w) es kvs → ReadsAll h (es.map (·.key)) (kvs.map fun q => keyD q.1) []
  | _, _, .nil => ReadsAll.nil
  | _, _, .cons (e := e) (kv := kv) hk hv t => by
    have z := keys_read (h := h) t
    have hk2 : keyIs kv.1 e.key = true := hk
    obtain ⟨k, v⟩ := kv
    rcases keyIs_shape hk2 with ⟨i, t, e1, e2⟩ | ⟨x, t, e1, e2⟩
    · simp only at e1
      subst e1
      simp only [List.map_cons, keyD, e2]
      exact ReadsAll.cons (as := []) (bs := []) (Reads.int i t) z
    · simp only at e1
      subst e1
      simp only [List.map_cons, keyD, e2]
      exact ReadsAll.cons (as := []) (bs := []) (Reads.str x t) z
theorem vals_of {P : Program} {w : World} : ∀ {es : List DictEntry} {kvs : List (Key × Value)}, PySem.Pairs (mixKind P w) es kvs → es.map (·.val) = kvs.map (·.2)
  | _, _, .nil => rfl
  | _, _, .cons (e := e) (kv := kv) hk hv t => by simp only [List.map_cons, hv, vals_of t]
theorem kv_keys {κ : Type} : ∀ {xs : List (κ × V)} {us : List (κ × Value)}, KV xs us → xs.map (·.1) = us.map (·.1) ∧ Vals (xs.map (·.2)) (us.map (·.2))
  | _, _, .nil => ⟨rfl, .nil⟩
  | _, _, .cons r t => by
    obtain ⟨h1, h2⟩ := kv_keys t
    exact ⟨by simp only [List.map_cons, r.1, h1], .cons r.2 h2⟩
theorem unzip_keys : ∀ {ks ds : List PyData}, ks.length = ds.length → (ks.zip ds).map (·.1) = ks ∧ (ks.zip ds).map (·.2) = ds
  | [], [], _ => ⟨rfl, rfl⟩
  | k :: ks, d :: ds, h => by
    obtain ⟨h1, h2⟩ := unzip_keys (ks := ks) (ds := ds) (by simpa using h)
    exact ⟨by simp [h1], by simp [h2]⟩
  | [], _ :: _, h => by cases h
  | _ :: _, [], h => by cases h
mutual
theorem Dq.reads (I : Inv X pins σ H s) (sm : Sm X.base) : ∀ {v : V} {d : PyData} {u : Value}, Dq X.K H v d → RelV v u → ∃ as, Reads s.heap u d as ∧ sysModules ∉ as
  | _, _, _, .non, r => by
    cases r
    exact ⟨_, Reads.none, by simp⟩
  | _, _, _, .bl b, r => by
    cases r
    exact ⟨_, Reads.bool b, by simp⟩
  | _, _, _, .int i, r => by
    obtain ⟨t, rfl⟩ := r
    exact ⟨_, Reads.int i t, by simp⟩
  | _, _, _, .str x, r => by
    obtain ⟨t, rfl⟩ := r
    exact ⟨_, Reads.str x t, by simp⟩
  | _, _, _, .lst hs ha, r => by
    cases r
    obtain ⟨its, rv, ⟨o, n, ho, hc, _, hd⟩, _⟩ := I.list hs
    obtain ⟨as, hr, hn⟩ := DqAll.reads I sm ha rv
    refine ⟨_, Reads.list ho hc hd hr, fun z => ?_⟩
    rcases List.mem_cons.mp z with z | z
    · exact not_sm I sm ho hd z
    · exact hn z
  | _, _, _, .tup hs ha, r => by
    cases r
    obtain ⟨its, rv, ⟨o, ho, hc, n, hd⟩, _⟩ := I.tuple hs
    obtain ⟨as, hr, hn⟩ := DqAll.reads I sm ha rv
    exact ⟨_, Reads.tuple ho hc hd hr, hn⟩
  | _, _, _, .dic (a := a) (kvs := kvs) (ds := ds) hs ha, r => by
    cases r
    obtain ⟨_, ne, vs, kv, o, es, ep, ho, ex, hd, hk, hp, _⟩ := I.hok _ _ hs
    obtain ⟨k1, k2⟩ := kv_keys kv
    obtain ⟨as, hr, hn⟩ := DqAll.reads I sm ha k2
    have lk := DqAll.length ha
    obtain ⟨z1, z2⟩ := unzip_keys (ks := kvs.map fun q => keyD q.1) (ds := ds) (by rw [List.length_map]; rw [List.length_map] at lk; exact lk)
    have rk := keys_read (h := s.heap) hp
    have ek : (vs.map fun q => keyD q.1) = kvs.map fun q => keyD q.1 := by
      have := congrArg (List.map keyD) k1
      simp only [List.map_map] at this
      exact this.symm
    refine ⟨_, Reads.dict ho ex.1 hd (as := []) (bs := as) ?_ ?_, fun z => ?_⟩
    · rw [z1, ← ek]; exact rk
    · rw [z2, vals_of hp]; exact hr
    · have z : sysModules ∈ a :: as := z
      rcases List.mem_cons.mp z with z | z
      · rw [z] at ne
        simp at ne
      · exact hn z
theorem DqAll.reads (I : Inv X pins σ H s) (sm : Sm X.base) : ∀ {vs : List V} {ds : List PyData} {us : List Value}, DqAll X.K H vs ds → Vals vs us → ∃ as, ReadsAll s.heap us ds as ∧ sysModules ∉ as
  | _, _, _, .nil, r => by
    cases r
    exact ⟨_, ReadsAll.nil, by simp⟩
  | _, _, _, .cons h1 h2, .cons r1 r2 => by
    obtain ⟨as, q1, n1⟩ := Dq.reads I sm h1 r1
    obtain ⟨bs, q2, n2⟩ := DqAll.reads I sm h2 r2
    refine ⟨_, ReadsAll.cons q1 q2, fun z => ?_⟩
    rcases List.mem_append.mp z with z | z
    · exact n1 z
    · exact n2 z
end
/-- repr(x), x a list, a tuple or a dict of data -/
def rRepr (K : PySem.W.Frag) : List V → Hp → VK → Prop := fun xs H Q => ∃ (a : Addr) (d : PyData), xs = [.ref a] ∧ Dq K H (.ref a) d ∧ d.showable = true ∧ d.depth ≤ 60 ∧ d.shown.length ≤ sizeLine ∧ Q (.str d.shown) H
theorem call_repr (sm : Sm X.base) (gd : X.A.guards = some []) (hu : X.A.units + 64 < cLine) : CallR X (.builtin "repr") (rRepr X.K) := by
  intro pins s σ H xs us Q I r h
  obtain ⟨a, d, rfl, hd, hs, hp, hz, q⟩ := h
  obtain ⟨u, rfl, ru⟩ := vals1 r
  obtain ⟨as, rd, ns⟩ := Dq.reads I sm hd ru
  obtain rfl : u = Value.ref a := ru
  refine repr_of_reads' rd hs (fun _ => ns) gd (by omega) (fun _ _ e => e) (fun h' t tk k => ?_) hz
  exact ⟨.str _, H, I.kept k, ⟨_, rfl⟩, q⟩
end
end SM
set_option Elab.async false
set_option linter.all false
set_option maxRecDepth 100000
set_option maxHeartbeats 2000000
/-! A law's end where its def asks that no repr is under way. -/
namespace SM
open PySem PySem.Spec PyProof.Rows L2



/-- the script as the one tracked thing, locked -/
def onlyScript (a : Addr) (o : Obj) (xs : List V) : Hp := fun b => if b = a then some (.frz o (.lst xs)) else none
theorem onlyScript_at {a : Addr} {o : Obj} {xs : List V} : onlyScript a o xs a = some (.frz o (.lst xs)) := if_pos rfl
theorem onlyScript_off {a b : Addr} {o : Obj} {xs : List V} (h : b ≠ a) : onlyScript a o xs b = none := if_neg h

section
variable {P : Program} {w : World} {K : PySem.W.Frag} {mg mb : Str → Option Value} {CX : CXT} {k : Nat} {fa a : Addr} {fd : FuncData} {x : Str} {sp : Sp} {s1 : Shared} {vs : List Value} {ns : List Int}
/-- from one abstract heap in which at most the script is tracked -/
theorem endFrom {H : Hp} (KX : K.In s1.heap) (gl : s1.heap.Ns mainGlobals mg) (hb : s1.heap.Ns builtinsNs mb) (hbb : ∀ x : Str, x ≠ "__name__" → mb x = bootBuiltins x) (hlim : s1.heap.NoLimit) (hg : s1.gens = #[])
    (ha : s1.heap.get? a = some { cls := .type "list", data := .seq vs.toArray }) (hr : Room k callerA)
    (sm : ∃ mm, s1.heap.Ns sysModules mm) (F : ∀ base : Heap, K.In base → base.Ns mainGlobals mg → Sm base → FnG P w K mg base CX k fa fd [x] sp) (hbind : ∀ (s : Shared) (u : Value), BindsTo s fd ⟨[u], []⟩ [(x, u)])
    (hCX : ∀ H e s', CX [] H s1 (fun _ _ _ => False) e s' → False)
    (off : ∀ b, b ≠ a → H b = none) (on : ∀ u, H a = some u → K.lookup a = none ∧ ∃ o xs, u = .frz o (.lst xs)) (hok : HOk P w H s1.heap)
    (want : sp [.ref a] H (fun v _ => v = .bl true) fun _ _ _ => False) :
    codeAny (model P w) callerA (.call (.ref fa) ⟨[.ref a], []⟩) (fun r s' => r = .ok (.ret (.bool true)) ∧ OldK s1.heap s'.heap ∧ s'.os = s1.os ∧ AllBare s'.gens) s1 := by
  -- what is no list stands outside of H
  have dictOff : ∀ {b : Addr} {o : Obj} {es : Array DictEntry} {ep : Nat}, s1.heap.get? b = some o → o.data = .dict es ep → H b = none := by
    intro b o es ep e d
    by_cases hba : b = a
    · rw [hba, ha] at e
      cases e
      cases (show Data.seq vs.toArray _ = Data.dict es ep from d)
    · exact off b hba
  have back : ∀ {b : Addr} {m : Str → Option Value}, s1.heap.Ns b m → (hidT s1.heap H).Ns b m := by
    rintro b m ⟨o, es, ep, e, d, r⟩
    exact ⟨o, es, ep, hidT_get e (dictOff e d), d, r⟩
  have kin : K.In (hidT s1.heap H) := by
    intro b o e
    refine hidT_get (KX b o e) ?_
    by_cases hba : b = a
    · cases q : H b with
      | none => rfl
      | some u =>
        rw [hba] at q e
        rw [(on u q).1] at e
        cases e
    · exact off b hba
  have M : Mod K mg (hidT s1.heap H) := by
    refine ⟨kin, back gl, ⟨mb, back hb, hbb⟩, ?_⟩
    obtain ⟨mc, h1, h2⟩ := hlim
    exact ⟨mc, back h1, h2⟩
  have e0 : Env0 P w K mg (hidT s1.heap H) callerA [] s1 H :=
    { frames := rfl, mod := M, bs := fun b o e => of_hidT e, bsz := Nat.le_of_eq (hidT_size _ _), funs := trivial,
      frf := fun b z => absurd (show b ∈ ([] : List Addr) from z) (by simp), hok := hok, bare := .of_eq hg }
  apply codeAny_mono ((F _ kin (back gl) (by obtain ⟨mm, z⟩ := sm; exact ⟨mm, back z⟩)).go callerA [] s1 H ⟨[.ref a], []⟩ [.ref a] [.ref a] _ _ rfl hr e0 (hbind s1 (.ref a)) (.cons rfl .nil) want)
  intro r s' z
  cases r with
  | error e => exact (hCX H e s' z).elim
  | ok fl =>
    cases fl with
    | next => exact z.elim
    | brk => exact z.elim
    | cont => exact z.elim
    | ret u =>
      obtain ⟨v, H', os, bare, un, hok', rv, q⟩ := z
      have q2 : v = .bl true := q
      subst q2
      obtain rfl : u = Value.bool true := rv
      refine ⟨rfl, OldK.of_keep (fun b o e => ?_), os, bare⟩
      have emptyN : ∀ c : Addr, c ∉ ([] : List Addr) := fun c => by simp
      by_cases hba : b = a
      · cases q3 : H b with
        | none => exact un.keep b o e q3 (emptyN b) (emptyN b)
        | some u =>
          have q4 := q3
          rw [hba] at q4
          obtain ⟨_, ob, xs, eu⟩ := on u q4
          subst eu
          obtain ⟨e1, _⟩ := hok b _ q3
          obtain ⟨e2, _⟩ := hok' b _ (un.frzs b ob _ q3)
          exact (e1.symm.trans e ▸ e2)
      · exact un.keep b o e (off b hba) (emptyN b) (emptyN b)
theorem endCall (KX : K.In s1.heap) (gl : s1.heap.Ns mainGlobals mg) (hb : s1.heap.Ns builtinsNs mb) (hbb : ∀ x : Str, x ≠ "__name__" → mb x = bootBuiltins x) (hlim : s1.heap.NoLimit) (hg : s1.gens = #[])
    (ha : s1.heap.get? a = some { cls := .type "list", data := .seq vs.toArray }) (hi : IntsAre vs ns) (hl : ns.length ≤ sizeLine) (hr : Room k callerA)
    (sm : ∃ mm, s1.heap.Ns sysModules mm) (F : ∀ base : Heap, K.In base → base.Ns mainGlobals mg → Sm base → FnG P w K mg base CX k fa fd [x] sp) (hbind : ∀ (s : Shared) (u : Value), BindsTo s fd ⟨[u], []⟩ [(x, u)])
    (hsp : ∀ H : Hp, Only H → SqL K H a (ns.map V.int) → sp [.ref a] H (fun v _ => v = .bl true) fun _ _ _ => False)
    (hCX : ∀ H e s', CX [] H s1 (fun _ _ _ => False) e s' → False) :
    codeAny (model P w) callerA (.call (.ref fa) ⟨[.ref a], []⟩) (fun r s' => r = .ok (.ret (.bool true)) ∧ OldK s1.heap s'.heap ∧ s'.os = s1.os ∧ AllBare s'.gens) s1 := by
  have rv := vals_ints hi
  have lv := hi.length
  cases hk : K.lookup a with
  | some o =>
    have e := KX a o hk
    rw [ha] at e
    cases e
    refine endFrom (H := fun _ => none) KX gl hb hbb hlim hg ha hr sm F hbind hCX (fun _ _ => rfl) (fun u z => by cases z) (fun b u z => by cases z) (hsp _ (fun _ => Or.inl rfl) (Or.inr ?_))
    exact ⟨_, vs.toArray, _, hk, rfl, rfl, rfl, by rw [List.size_toArray, lv]; exact hl, by simpa using rv⟩
  | none =>
    refine endFrom (H := onlyScript a { cls := .type "list", data := .seq vs.toArray } (ns.map V.int)) KX gl hb hbb hlim hg ha hr sm F hbind hCX (fun b h => onlyScript_off h) (fun u z => ?_) (fun b u z => ?_) (hsp _ (fun b => ?_) ?_)
    · rw [onlyScript_at] at z
      cases z
      exact ⟨hk, _, _, rfl⟩
    · by_cases hba : b = a
      · subst hba
        rw [onlyScript_at] at z
        cases z
        exact ⟨ha, by rw [List.length_map]; exact hl, vs, _, rv, ha⟩
      · rw [onlyScript_off hba] at z
        cases z
    · by_cases hba : b = a
      · subst hba
        exact Or.inr ⟨_, _, onlyScript_at⟩
      · exact Or.inl (onlyScript_off hba)
    · exact Or.inl (Or.inr ⟨_, onlyScript_at⟩)
end
/-- the law's walk, the script's bits told, the written part told by a Hook's word Y -/
theorem walkG {l : PySem.W.OpenLaw} {n k : Nat} {q : Program} {loose : List Str} {XP : (Str → Option Value) → Heap → Prop} {YP : World → Heap → Prop} {d : DefRec} {CX : CXT} {x : Str}
    (hn : l.most = some n) (hn2 : n ≤ sizeLine) (hdf : d.params.defaults = []) (hr : Room k callerA) (him : importsNone q = true)
    (F : ∀ (w : World) (mg : Str → Option Value) (fa : Addr) (h : Heap), YP w h → h.Ns mainGlobals mg → mg d.name = some (.ref fa) →
      ∃ (K : PySem.W.Frag) (fd : FuncData) (sp : Sp), K.In h ∧ (∀ (s : Shared) (u : Value), BindsTo s fd ⟨[u], []⟩ [(x, u)]) ∧
        (∀ (H : Hp) (a : Addr) (ns : List Int), ns.length ≤ n → (∀ z ∈ ns, Builtin.Int.intBits z ≤ 1048576) → Only H → SqL K H a (ns.map V.int) → sp [.ref a] H (fun v _ => v = .bl true) fun _ _ _ => False) ∧
        ∀ base : Heap, K.In base → base.Ns mainGlobals mg → Sm base → FnG l.prog w K mg base CX k fa fd [x] sp)
    (hCX : ∀ (H : Hp) (s : Shared) (e : Value) (s' : Shared), CX [] H s (fun _ _ _ => False) e s' → False) :
    PySem.W.WalkO q loose XP YP l.row.toRowW d [] (fun f vs => PySem.call f vs) := by
  apply Att.attach_callB hn hdf
  intro w s0 s1 mg mb fa o pm cd doc a vs ns G Y ho hd hcd hmg hobj hints many bits hg
  obtain ⟨K, fd, sp, kin, hb, hsp, hF⟩ := F w mg fa _ Y G.T.g hmg
  exact endCall kin G.T.g G.T.b G.T.builtins G.T.nolimit hg hobj hints (Nat.le_trans many hn2) hr (by obtain ⟨mm, z, _⟩ := (G.T.seer him).mods; exact ⟨mm, z⟩) hF hb (fun H ho hs => hsp H a ns many bits ho hs) (fun H e s' => hCX H s1 e s')
end SM
set_option Elab.async false
set_option linter.all false
set_option maxRecDepth 100000
set_option maxHeartbeats 2000000
/-! The head's facts, one more Bool of one's own beside. -/
namespace SM
open PySem PySem.Spec PyProof.Rows L2
abbrev AlS : Type := He.AlD × Bool
def obsS (n : Nat) (fa : List He.Fa) (fn : List He.DefD) (ex : PySem.W.Frag → Bool) (g : Addr → Option Obj) : AlS := (He.obsDG n fa fn g, ex (He.frG g (He.asD g n)))
def hookS (n : Nat) (fa : List He.Fa) (fn : List He.DefD) (ex : PySem.W.Frag → Bool) : PySem.W.Hook where
  α := AlS
  obs := fun s => obsS n fa fn ex s.heap.get?
  val := fun _ => (He.valD fn, true)
  says := fun _ h => ∃ K : PySem.W.Frag, K.In h ∧ He.SaysD fa fn K ∧ ex K = true
  of := fun _ _ e => ⟨_, He.frG_in, congrArg (fun z : AlS => z.1) e, congrArg (fun z : AlS => z.2) e⟩
  keeps := fun _ _ _ ⟨K, hK, c⟩ k => ⟨K, PySem.W.Frag.In.keeps hK k, c⟩
theorem obsS_eq {n : Nat} {fa : List He.Fa} {fn : List He.DefD} {ex : PySem.W.Frag → Bool} {g : Addr → Option Obj} {s : Shared} (h : ∀ a, g a = s.heap.get? a) : obsS n fa fn ex g = (hookS n fa fn ex).obs s := by
  have e : g = s.heap.get? := funext h
  rw [e] <;> rfl
end SM
set_option Elab.async false
set_option linter.all false
set_option maxRecDepth 100000
set_option maxHeartbeats 4000000
/-! An own exception class over ValueError, called with one keyword. -/
namespace SM
open PySem PySem.Spec PyProof.Rows L2 PySem.HandSPX
section
variable {M : Model} {A : Around} {E : Value → Shared → Prop} {h : Heap} {g : Array GenState} {d : Drawn} {t : Nat} {os : OsState}
variable {nm q : Str} {C N : Addr} {bs bm : List Value} {hdct : Bool} {sn : List Str} {sub : List Value} {ab : Bool} {col : Option Bool} {dd : Option Addr} {k0 k1 k2 k3 k5 : Option Value}
theorem kw_check (hT : refsVE bm = true) {f : Str} {v : Value} {Q : Unit → Shared → Prop}
    (hC : h.get? C = some (excClassObj nm q C N bs bm hdct sn sub ab col dd k0 k1 k2 k3 k5 "ValueError.__new__")) (want : Q () ⟨h, g, d, t, os⟩) :
    wpAny M A (checkBuiltinCall "ValueError.__new__" ⟨[.ref C], [(f, v)]⟩) Q E ⟨h, g, d, t, os⟩ := by
  have F := PySem.F.excBase_ValueError
  have holds : (Value.ref C :: bm).contains (.type "ValueError") = true := by
    rw [List.contains_cons, refsVE_contains "ValueError" bm hT, F.hasB, Bool.or_true]
  simp only [checkBuiltinCall, F.newKind, F.newSplit, F.newRow]
  repeat (first
    | refine wpAny_loadPart_at hC ?_
    | (refine wpAny_isSubtype_exc hC ?_; rw [holds])
    | refine wpAny_staticBase_exc hC ?_
    | refine wpAny_madeBy_exc hC ?_
    | wp_step
    | simp only [bne_self_eq_false, Bool.false_eq_true, if_false])
  exact want
end
section
variable {prog : Program} {w : World} {A : Around} {E : Value → Shared → Prop} {R : Result → Shared → Prop} {h : Heap} {g : Array GenState} {d : Drawn} {t : Nat} {os : OsState}
variable {nm q : Str} {C N : Addr} {bs bm : List Value} {hdct : Bool} {sn : List Str} {sub : List Value} {ab : Bool} {col : Option Bool} {dd : Option Addr} {k0 k1 k2 k3 k5 : Option Value} {f : Str} {v : Value}
/-- the heap with the fresh exception and its empty args -/
abbrev kwHeap (h : Heap) (C : Addr) : Heap := (h.push (PySem.W.kdv_tup [])).push (excO C h.objs.size)
theorem kw_new (hT : refsVE bm = true) (hC : h.get? C = some (excClassObj nm q C N bs bm hdct sn sub ab col dd k0 k1 k2 k3 k5 "ValueError.__new__"))
    (want : R (.ok (.ret (.ref (h.objs.size + 1)))) ⟨kwHeap h C, g, d, t, os⟩) :
    codeAny (model prog w) A (.builtin "ValueError.__new__" ⟨[.ref C], [(f, v)]⟩) R ⟨h, g, d, t, os⟩ := by
  have F := PySem.F.excBase_ValueError
  have e1 := F.ends
  have has : ∀ X : String, (Value.ref C :: bm).contains (.type X) = ([Value.type "ValueError", .type "Exception", .type "BaseException", .type "object"] : List Value).contains (.type X) := by
    intro X
    rw [List.contains_cons, refsVE_contains X bm hT]
    simp
  have c1 : (Value.ref C :: bm).contains (.type "ValueError") = true := (has _).trans F.hasB
  have c2 : (Value.ref C :: bm).contains (.type "AttributeError") = false := (has _).trans F.noAttr
  have c3 : (Value.ref C :: bm).contains (.type "NameError") = false := (has _).trans F.noName
  apply codeAny_builtinAt F.entry
  unfold Builtin.«BaseException.__new__»
  apply PySem.wpAt_bind
  show PySem.wpAt _ _ _ (stack >>= _) _ _ _
  refine PySem.wpAt_bind (PySem.wpAt_stack fun p below => ?_)
  refine PySem.wpAt_of_wpAny ?_
  wp_walk
  apply PySem.wpAt_of_wpAny
  rw [F.owner]
  repeat (first
    | with_reducible refine wpAny_loadPart_at hC ?_
    | with_reducible refine wpAny_madeHere_exc F.canon hC ?_
    | (with_reducible refine wpAny_isSubtype_exc hC ?_; first | rw [c1] | rw [c2] | rw [c3])
    | wp_step)
  show R _ _
  rw [Heap.size_push]
  exact want
theorem kw_type (hT : refsVE bm = true) {fI : Addr} {Q : Fin → Shared → Prop} (hC : h.get? C = some (excClassObj nm q C N bs bm hdct sn sub ab col dd k0 k1 k2 k3 k5 "ValueError.__new__"))
    (hi : PySem.W.Looks (model prog w) h (typeLookup (.ref C) "__init__") (some (.ref fI))) (hb : ∀ self, PySem.W.Looks (model prog w) h (bindSpecial (.ref fI) self) (.ref fI, [self]))
    (run : codeAny (model prog w) A (.call (.ref fI) ⟨[.ref (h.objs.size + 1)], [(f, v)]⟩)
      (fun r s' => match r with | .ok (.ret v) => v = .none ∧ Q (.done (.ret (.ref (h.objs.size + 1)))) s' | .ok _ => False | .error e => E e s') ⟨kwHeap h C, g, d, t, os⟩) :
    wpAny (model prog w) A (Builtin.«type.__call__» ⟨[.ref C], [(f, v)]⟩) Q E ⟨h, g, d, t, os⟩ := by
  have F := PySem.F.excBase_ValueError
  repeat (first
    | with_reducible refine wpAny_madeBy_exc hC ?_
    | with_reducible refine wpAny_loadPart_at hC ?_
    | wp_step)
  apply codeAny_call_builtin_code (Code.quiet_builtin _ F.quiet)
  apply kw_check hT hC
  apply kw_new hT hC
  show wpAny _ _ _ _ _ _
  have old : ∀ b o, h.get? b = some o → (kwHeap h C).get? b = some o := fun b o z => Heap.get?_push_of_some _ (Heap.get?_push_of_some _ z)
  have hC1 := old _ _ hC
  have made : (kwHeap h C).get? (h.objs.size + 1) = some (excO C h.objs.size) := by heap_get
  have own : (Value.ref C :: bm).contains (.ref C) = true := by simp
  have i1 := hi.keeps old
  have b1 := (hb (.ref (h.objs.size + 1))).keeps old
  unfold isInstance
  repeat (first
    | with_reducible refine wpAny_loadPart_at made ?_
    | (with_reducible refine wpAny_isSubtype_exc hC1 ?_; rw [own])
    | wp_step)
  show wpAny _ _ (typeLookup (.ref C) _) _ _ _
  apply i1.at
  apply wpAny_holding
  apply wpAny_bind
  apply b1.at
  apply wpAny_bind
  apply wpAny_call
  apply codeAny_mono run
  intro r s' z
  rcases r with e | (u | _ | _ | _)
  all_goals first
    | exact z.elim
    | exact z
    | (obtain ⟨rfl, z⟩ := z
       first
         | exact wpAny_pure (wpAny_pure z)
         | (wp_walk; exact z))
theorem kw_call (hT : refsVE bm = true) {fI : Addr} (hC : h.get? C = some (excClassObj nm q C N bs bm hdct sn sub ab col dd k0 k1 k2 k3 k5 "ValueError.__new__"))
    (hi : PySem.W.Looks (model prog w) h (typeLookup (.ref C) "__init__") (some (.ref fI))) (hb : ∀ self, PySem.W.Looks (model prog w) h (bindSpecial (.ref fI) self) (.ref fI, [self]))
    (run : codeAny (model prog w) (A.under (.builtin "type.__call__" ⟨[.ref C], [(f, v)]⟩)) (.call (.ref fI) ⟨[.ref (h.objs.size + 1)], [(f, v)]⟩) (PySem.W.InitBack (h.objs.size + 1) R) ⟨kwHeap h C, g, d, t, os⟩) :
    codeAny (model prog w) A (.call (.ref C) ⟨[], [(f, v)]⟩) R ⟨h, g, d, t, os⟩ := by
  have a1 := tc_lookup
  have a2 := tc_bind (.ref C)
  have ty : (⟨h, g, d, t, os⟩ : Shared).TypeIs (.ref C) "type" := ⟨_, hC, rfl⟩
  apply codeAny_of_tree
  show wpAny _ _ (callAny (.ref C) _) _ _ _
  repeat (any_goals (first
    | with_reducible refine wpAny_loadPart_at hC ?_
    | wp_step
    | assumption))
  refine ⟨rfl, ?_⟩
  apply codeAny_call_builtin_at (Code.quiet_builtin _ (by decide +kernel)) entry_typeCall
  apply wpAny_check_type_call_sub hC
  apply kw_type hT hC hi hb
  apply codeAny_mono run
  intro r s' z
  rcases r with e | (u | _ | _ | _) <;> exact z
end
end SM
set_option Elab.async false
set_option linter.all false
set_option maxRecDepth 100000
set_option maxHeartbeats 4000000
/-! Own errors held as values: made by place and by name, their field read, isinstance of them; a power of a great int. -/
namespace SM
open PySem PySem.Spec PyProof.Rows L2 PySem.HandSPX

/-- what the written part says of an own error class at C, its __init__ at fI -/
structure ErrC (K : PySem.W.Frag) (C fI : Addr) : Prop where
  ox : OexC K C
  iC : PySem.W.findIn K (.ref C) "__init__" = some (some (.ref fI))
  tI : PySem.W.typeIn K (.ref fI) = some (.type "function")
  is : ExcC K C
/-- the def __init__ of an error class that stores its one argument as f -/
def spErr (K : PySem.W.Frag) (f : Str) : Sp := fun vs H Q _ => ∃ (a C : Addr) (v : V), vs = [.ref a, v] ∧ OexC K C ∧ PySem.W.findIn K (.ref C) f = some none ∧ H a = some (exo a C none) ∧
  ∀ dx, H dx = none → dx ≠ a → Q .non (upd (upd H dx (exd dx [(f, v)])) a (exo a C (some dx)))
/-- C(e): a new error, its field told -/
def tErr (C : Addr) (f : Str) (te : TE) : TE := fun σ H Q => te σ H fun v H1 => ∀ a dx, H1 a = none → H1 dx = none → dx ≠ a → Q (.ref a) (upd (upd H1 dx (exd dx [(f, v)])) a (exo a C (some dx)))
theorem upd_over {H : Hp} {a b : Addr} {o o' u : HO} (h : b ≠ a) : upd (upd (upd H a o) b u) a o' = upd (upd H b u) a o' := by
  funext c
  by_cases hc : c = a
  · rw [hc, upd_same, upd_same]
  · rw [upd_ne hc, upd_ne hc]
    by_cases hb : c = b
    · rw [hb, upd_same, upd_same]
    · rw [upd_ne hb, upd_ne hb, upd_ne hc]
section
variable {X : Cx} {CX : CXT} {x f : Str} {C fI : Addr} {k : Nat} {fd : FuncData} {ps : List Str} {e : Expr} {te : TE} {p pos kpos : Pos}
theorem run_err {pins : List (Addr × Obj)} {σ : L2.St} {H : Hp} {s : Shared} {Q : VK} {v : V} {u : Value} {ar : Args} {kw : List (Str × Value)} {us : List Value} (T : ErrC X.K C fI) (hf : PySem.W.findIn X.K (.ref C) f = some none) (F : FnOk X.prog X.w X.K X.mg X.base CX k fI fd ps (spErr X.K f))
    (hr : Room (k + 1) X.A) (hx : Passes CX X (fun _ _ _ => False)) (I : Inv X pins σ H s) (rv : RelV v u) (ha : ar = ⟨us, kw⟩)
    (bt : ∀ (s' : Shared), X.K.In s'.heap → BindsTo s' fd ⟨.ref (s.heap.objs.size + 1) :: us, kw⟩ (ps.zip [.ref (s.heap.objs.size + 1), u])) (old : List Value) (hold : old.length ≤ sizeLine)
    (make : ∀ {R : Result → Shared → Prop}, codeAny (model X.prog X.w) (X.A.under (.builtin "type.__call__" ⟨.ref C :: us, kw⟩)) (.call (.ref fI) ⟨.ref (s.heap.objs.size + 1) :: us, kw⟩) (PySem.W.InitBack (s.heap.objs.size + 1) R)
      { s with heap := (s.heap.push (PySem.W.kdv_tup old)).push (excO C s.heap.objs.size) } → codeAny (model X.prog X.w) X.A (.call (.ref C) ar) R s)
    (want : ∀ a dx, H a = none → H dx = none → dx ≠ a → Q (.ref a) (upd (upd H dx (exd dx [(f, v)])) a (exo a C (some dx)))) :
    wpAny (model X.prog X.w) X.A (call (.ref C) us kw) (EP X pins σ Q) X.xe s := by
  subst ha
  have fresh : H (s.heap.objs.size + 1) = none := I.hok.fresh (Nat.le_succ _)
  have keep : ∀ b o, s.heap.get? b = some o → ((s.heap.push (PySem.W.kdv_tup old)).push (excO C s.heap.objs.size)).get? b = some o := fun b o z => Heap.get?_push_of_some _ (Heap.get?_push_of_some _ z)
  have there : ((s.heap.push (PySem.W.kdv_tup old)).push (excO C s.heap.objs.size)).get? (s.heap.objs.size + 1) = some (excO C s.heap.objs.size) := by heap_get
  have I2 : Inv X pins σ (upd H (s.heap.objs.size + 1) (exo (s.heap.objs.size + 1) C none)) { s with heap := (s.heap.push (PySem.W.kdv_tup old)).push (excO C s.heap.objs.size), toks := s.toks } :=
    I.laid (t' := s.toks) (a := s.heap.objs.size + 1) (o := exo (s.heap.objs.size + 1) C none) keep (Nat.le_succ _) (exo_ok there)
  apply wpAny_call
  apply make
  have rr : Vals [V.ref (s.heap.objs.size + 1), v] [Value.ref (s.heap.objs.size + 1), u] := .cons rfl (.cons rv .nil)
  have q : spErr X.K f [V.ref (s.heap.objs.size + 1), v] (upd H (s.heap.objs.size + 1) (exo (s.heap.objs.size + 1) C none)) (fun z H2 => z = .non ∧ Q (.ref (s.heap.objs.size + 1)) H2) (fun _ _ _ => False) := by
    refine ⟨_, C, v, rfl, T.ox, hf, upd_same, fun dx n ne => ⟨rfl, ?_⟩⟩
    rw [upd_over ne]
    rw [upd_ne ne] at n
    exact want _ _ fresh n ne
  apply codeAny_mono (F.run _ X.stack _ _ ⟨.ref (s.heap.objs.size + 1) :: us, kw⟩ [.ref (s.heap.objs.size + 1), u] _ _ (fun _ _ _ => False) (hr.make C us kw) (I2.env0.make C us kw) (bt _ I2.kIn) rr q)
  intro r s' z
  cases r with
  | error er => exact hx pins σ _ _ er s' I2 z
  | ok fl =>
    cases fl with
    | next => exact z.elim
    | brk => exact z.elim
    | cont => exact z.elim
    | ret w =>
      obtain ⟨y, H', I3, ry, ey, q3⟩ := I2.after z
      subst ey
      exact ⟨ry, ⟨V.ref (s.heap.objs.size + 1), H', I3, rfl, q3⟩⟩
theorem pe_err (T : ErrC X.K C fI) (hf : PySem.W.findIn X.K (.ref C) f = some none) (F : FnOk X.prog X.w X.K X.mg X.base CX k fI fd ["self", f] (spErr X.K f)) (hr : Room (k + 1) X.A) (hb : Binds X.K fd ["self", f] []) (hx : Passes CX X (fun _ _ _ => False))
    (hm : X.mg x = some (.ref C)) (hg : Gl X x) (he : PE X e te) (hdb : (x == ("__debug__" : Str)) = false := by decide) (hs : starEach [e] X.env = (false, eval e X.env) :: starEach [] X.env := by rfl) (hpl : (backTo pos (starEach [] X.env)).any (·.1) = false := by rfl) :
    PE X (.Call (.Name x p) [e] [] pos) (tErr C f te) := by
  constructor
  intro pins s σ H Q I h
  obtain ⟨nm, q, N, bs, bm, sn, sub, ab, col, dd, k0, k1, k2, k3, k5, hC, hbm⟩ := T.ox.cls
  apply wpAny_Call_Name_kw
  apply ld_glob I hg hm _ hdb
  let W : List V → Hp → Prop := fun vs H1 => match vs with
    | [v] => ∀ a dx, H1 a = none → H1 dx = none → dx ≠ a → Q (.ref a) (upd (upd H1 dx (exd dx [(f, v)])) a (exo a C (some dx)))
    | _ => False
  refine PySem.W.callWith_K (h₀ := X.base) I.ok.mod.kin T.ox.kC (thn ((pa_cons he pa_nil hs).run pos pins s σ H W I h) fun us s1 z => ?_) hs hpl
  obtain ⟨vs, H1, I1, r, want⟩ := z
  match vs, r, want with
  | [v], .cons (b := u) ru .nil, want =>
    refine ⟨I1.kIn, run_err (us := [u]) (kw := []) (ps := ["self", f]) (old := [u]) T hf F hr hx I1 ru rfl (fun s' kin => hb s' [.ref (s1.heap.objs.size + 1), u] kin rfl) (by show 1 ≤ sizeLine; rw [sizeLine_eq]; omega) (fun run => ?_) want⟩
    obtain ⟨hp, g, d, t, os⟩ := s1
    exact call_own PySem.F.excBase_ValueError (fun Y => refsVE_contains Y bm hbm) (I1.kIn _ _ hC) (PySem.W.looks_findIn I1.kIn T.iC) (fun self => PySem.W.bind_fn I1.kIn self T.tI) (by show 1 ≤ sizeLine; rw [sizeLine_eq]; omega) run
/-- C(f=e) -/
theorem pe_errK (T : ErrC X.K C fI) (hf : PySem.W.findIn X.K (.ref C) f = some none) (F : FnOk X.prog X.w X.K X.mg X.base CX k fI fd ["self", f] (spErr X.K f)) (hr : Room (k + 1) X.A)
    (hb : ∀ (s : Shared) (self u : Value), BindsTo s fd ⟨[self], [(f, u)]⟩ [("self", self), (f, u)]) (hx : Passes CX X (fun _ _ _ => False))
    (hm : X.mg x = some (.ref C)) (hg : Gl X x) (he : PE X e te) (hdb : (x == ("__debug__" : Str)) = false := by decide) (hall : (backToKw pos (keywordEach [⟨some f, e, kpos⟩] X.env)).all (·.1.isSome) = true := by rfl)
    (hks : (backToKw pos (keywordEach [⟨some f, e, kpos⟩] X.env)).filterMap (·.1) = [f] := by rfl) (hpl : ((backTo pos (starEach [] X.env)).any (·.1) || (backToKw pos (keywordEach [⟨some f, e, kpos⟩] X.env)).any (·.1.isNone)) = false := by rfl) :
    PE X (.Call (.Name x p) [] [⟨some f, e, kpos⟩] pos) (tErr C f te) := by
  constructor
  intro pins s σ H Q I h
  obtain ⟨nm, q, N, bs, bm, sn, sub, ab, col, dd, k0, k1, k2, k3, k5, hC, hbm⟩ := T.ox.cls
  apply wpAny_Call_Name_kw
  apply ld_glob I hg hm _ hdb
  let W : List V → Hp → Prop := fun vs H1 => match vs with
    | [v] => ∀ a dx, H1 a = none → H1 dx = none → dx ≠ a → Q (.ref a) (upd (upd H1 dx (exd dx [(f, v)])) a (exo a C (some dx)))
    | _ => False
  refine PySem.W.callWith_KW0 (h₀ := X.base) I.ok.mod.kin T.ox.kC hall (thn ((pk_cons he pk_nil).run pos pins s σ H W I h) fun us s1 z => ?_) hpl
  obtain ⟨vs, H1, I1, r, want⟩ := z
  rw [hks]
  match vs, r, want with
  | [v], .cons (b := u) ru .nil, want =>
    refine ⟨I1.kIn, run_err (us := []) (kw := [(f, u)]) (ps := ["self", f]) (old := []) T hf F hr hx I1 ru rfl (fun s' kin => hb s' _ u) (Nat.zero_le _) (fun run => ?_) want⟩
    obtain ⟨hp, g, d, t, os⟩ := s1
    exact kw_call hbm (I1.kIn _ _ hC) (PySem.W.looks_findIn I1.kIn T.iC) (fun self => PySem.W.bind_fn I1.kIn self T.tI) run

/-- e.f, e an error that is held -/
def tErrF (K : PySem.W.Frag) (f : Str) (te : TE) : TE := fun σ H Q => te σ H fun z H1 => ∃ (a C dx : Addr) (fs : List (Str × V)) (v : V), z = .ref a ∧ H1 a = some (exo a C (some dx)) ∧ H1 dx = some (exd dx fs) ∧ ExcC K C ∧ PySem.W.findIn K (.ref C) f = some none ∧ fs.lookup f = some v ∧ Q v H1
theorem inst_err {pins : List (Addr × Obj)} {σ : L2.St} {H : Hp} {s : Shared} {a dx : Addr} {fs : List (Str × V)} (I : Inv X pins σ H s) (ea : H a = some (exo a C (some dx))) (ed : H dx = some (exd dx fs)) :
    ∃ (ox : Obj) (od : Obj) (mA : Str → Option Value), PySem.W.InstAt s.heap a ox C (some od) ∧ (∀ g, PySem.W.lookIn g od = some (mA g)) ∧ ∀ g, RelO (fs.lookup g) (mA g) := by
  obtain ⟨t1, ho⟩ := exo_at I.hok ea
  obtain ⟨mA, hns, rel⟩ := exd_at I.hok ed
  obtain ⟨od, hod, hl⟩ := lookIn_ns hns
  exact ⟨_, od, mA, ⟨ho, rfl, rfl, hod⟩, hl, rel⟩
theorem pe_errF (he : PE X e te) (hb : attributeBase e f X.env (eval e X.env) = eval e X.env := by rfl) : PE X (.Attribute e f pos) (tErrF X.K f te) := by
  constructor
  intro pins s σ H Q I h
  refine attr_of hb (thn (he.run pins s σ H _ I h) fun u s1 z => ?_)
  obtain ⟨y, H1, I1, ry, a, C, dx, fs, v, ey, ea, ed, T, hno, l, q⟩ := z
  subst ey
  obtain rfl : u = Value.ref a := ry
  obtain ⟨ox, od, mA, J, hl, rel⟩ := inst_err I1 ea ed
  obtain ⟨w, hw, rw'⟩ := RelO.some_of (v := v) (o := mA f) (by rw [← l]; exact rel f)
  exact exc_get I1.kIn J T.hg T.hk T.hs (PySem.W.findObj_own T.hd hno rfl (by rw [hl, hw])) (handed_of rw') ⟨v, H1, I1.tok _, rw', q⟩
/-- isinstance(e, c), e an error that is held -/
def rErrI (K : PySem.W.Frag) : List V → Hp → VK → Prop := fun xs H Q => ∃ (a C dx : Addr) (fs : List (Str × V)) (c : V) (cv : Value) (b : Bool), xs = [.ref a, c] ∧ H a = some (exo a C (some dx)) ∧ H dx = some (exd dx fs) ∧ ExcC K C ∧ (∀ u, RelV c u → u = cv) ∧ PySem.W.kitOne K (.ref C) cv = some b ∧ Q (.bl b) H
theorem call_errI : CallR X (.builtin "isinstance") (rErrI X.K) := by
  intro pins s σ H xs us Q I r h
  obtain ⟨a, C, dx, fs, c, cv, b, rfl, ea, ed, T, hcv, hk, q⟩ := h
  match us, r with
  | [_, uc], .cons ra (.cons rc .nil) =>
    obtain rfl := ra
    have ec := hcv _ rc
    subst ec
    obtain ⟨ox, od, mA, J, hl, rel⟩ := inst_err I ea ed
    have cl : (PySem.W.clsIn X.K C).isSome = true := by
      obtain ⟨cd, hc, _⟩ := PySem.W.any_some T.hd
      rw [hc]
      rfl
    exact PySem.W.kia_one (PySem.W.kitx_exc cl T.hg T.hk T.hs T.ha T.hn T.ht T.hm) I.kIn J hk (fun z => nomatch z) fun tk => ⟨.bl b, H, I.tok tk, rfl, q⟩
end
/-- a power of a great int -/
theorem op_powW {X : Cx} : OpR X (binaryOp .Pow) (rI (fun i j => 0 ≤ j ∧ j ≤ 60 ∧ Builtin.Int.intBits i ≤ 2000000) fun i j => .int (i ^ j.toNat)) :=
  opI fun i j _ _ _ _ _ hc q => pow_int hc.1 (by
    obtain ⟨h0, h1, h2⟩ := hc
    have h3 : ((Builtin.Int.intBits i : Nat) : Int) * j ≤ 2000000 * 60 := Int.mul_le_mul (by omega) h1 h0 (by decide)
    exact Int.le_trans h3 (by decide)) q
end SM
set_option Elab.async false
set_option linter.all false
set_option maxRecDepth 100000
set_option maxHeartbeats 2000000
/-! Names of the top by their places in two lists; a def's promise as one thing; operators for whatever kinds meet. -/
namespace SM
open PySem PySem.Spec PyProof.Rows L2

structure Cw (fas : List He.Fa) (fns : List He.DefD) (K : PySem.W.Frag) (mg : Str → Option Value) : Prop where
  ex : ∃ h : Heap, K.In h ∧ h.Ns mainGlobals mg
  says : He.SaysD fas fns K
section
variable {fas : List He.Fa} {fns : List He.DefD} {K : PySem.W.Frag} {mg : Str → Option Value}
theorem Cw.glo (W : Cw fas fns K mg) (i : Nat) {x : Str} (h : fas[i]? = some (.glo x) := by rfl) : mg x = some (.ref (He.ga K x)) := by
  obtain ⟨hp, X, G⟩ := W.ex
  exact He.glo_ok X G (W.says.fact i h)
theorem Cw.fre (W : Cw fas fns K mg) (i : Nat) {x : Str} (h : fas[i]? = some (.free x) := by rfl) : mg x = none := by
  obtain ⟨hp, X, G⟩ := W.ex
  exact He.free_ok X G (W.says.fact i h)
theorem Cw.fact (W : Cw fas fns K mg) (i : Nat) {f : He.Fa} (h : fas[i]? = some f := by rfl) : f.ok K = true := W.says.fact i h
end

/-- a def of the top, by its name: where it stands, how it binds, what it promises -/
structure DefOk (P : Program) (w : World) (K : PySem.W.Frag) (mg : Str → Option Value) (base : Heap) (CX : CXT) (k : Nat) (x : Str) (ps : List Str) (sp : Sp) : Prop where
  ex : ∃ fd, FnOk P w K mg base CX k (He.ga K x) fd ps sp ∧ Binds K fd ps []
  kp : PySem.W.keepIn K (.ref (He.ga K x)) = true
  at_ : mg x = some (.ref (He.ga K x))
structure DefG (P : Program) (w : World) (K : PySem.W.Frag) (mg : Str → Option Value) (base : Heap) (CX : CXT) (k : Nat) (x : Str) (ps : List Str) (sp : Sp) : Prop where
  ex : ∃ fd, FnG P w K mg base CX k (He.ga K x) fd ps sp ∧ Binds K fd ps []
  kp : PySem.W.keepIn K (.ref (He.ga K x)) = true
  at_ : mg x = some (.ref (He.ga K x))
section
variable {P : Program} {w : World} {K : PySem.W.Frag} {mg : Str → Option Value} {base : Heap} {CX : CXT} {k : Nat} {x : Str} {ps : List Str} {sp : Sp}
theorem DefOk.g (D : DefOk P w K mg base CX k x ps sp) : DefG P w K mg base CX k x ps sp := by
  obtain ⟨⟨fd, F, b⟩, kp, at_⟩ := D
  exact ⟨⟨fd, FnG.of F, b⟩, kp, at_⟩
/-- from the body of a def of the top; it may let out what CX says -/
theorem DefOk.of {fas : List He.Fa} {fns : List He.DefD} (W : Cw fas fns K mg) (i j : Nat) {st : Stmt} {N : List Str} (hd : fns[i]? = some ⟨(x, none), x, x, defArgs st, defBody st, defScope st, [], []⟩) (hg : fas[j]? = some (.glo x))
    (S : FnScope N ps (defScope st)) (bnd : ∀ (kV doc pm : Value) (an : Option Addr) (cdv ct : Value) (us : List Value), us.length = ps.length → bindArgs (PySem.W.fnOf x x (defArgs st) (defBody st) (defScope st) .none kV doc pm an cdv ct) ⟨us, []⟩ = pure (ps.zip us))
    (len : ∀ vs H Q E, sp vs H Q E → vs.length = ps.length)
    (body : ∀ (cdv : Value) (A : Around) (outer : List Env) (s : Shared) (H : Hp) (vs : List V) (Q : VK) (E : XK), Room k (A.deeper (envOfC x (defScope st) s.heap.objs.size (He.ga K x) cdv)) → sp vs H Q E →
      ∃ t, PSs (cxOf CX P w K mg base N x (defScope st) (He.ga K x) cdv A outer s H E) (defBody st) t ∧ t { nx := fun _ H' => Q .non H', rt := Q } (start N vs) H) :
    DefOk P w K mg base CX (k + 1) x ps sp := by
  obtain ⟨fd, F⟩ := W.says.def_ i hd
  exact ⟨⟨fd, FunD.ok F S len body, FunD.bindsN F bnd⟩, F.kp, W.glo j hg⟩
theorem DefG.of {fas : List He.Fa} {fns : List He.DefD} (W : Cw fas fns K mg) (i j : Nat) {st : Stmt} {N : List Str} (hd : fns[i]? = some ⟨(x, none), x, x, defArgs st, defBody st, defScope st, [], []⟩) (hg : fas[j]? = some (.glo x))
    (S : FnScope N ps (defScope st)) (bnd : ∀ (kV doc pm : Value) (an : Option Addr) (cdv ct : Value) (us : List Value), us.length = ps.length → bindArgs (PySem.W.fnOf x x (defArgs st) (defBody st) (defScope st) .none kV doc pm an cdv ct) ⟨us, []⟩ = pure (ps.zip us))
    (len : ∀ vs H Q E, sp vs H Q E → vs.length = ps.length)
    (body : ∀ (cdv : Value) (B : Around) (up : List Env) (s : Shared) (H : Hp) (vs : List V) (Q : VK) (E : XK), B.guards = some [] → Room k (B.deeper (envOfC x (defScope st) s.heap.objs.size (He.ga K x) cdv)) → sp vs H Q E →
      ∃ t, PSs (cxOf CX P w K mg base N x (defScope st) (He.ga K x) cdv B up s H E) (defBody st) t ∧ t { nx := fun _ H' => Q .non H', rt := Q } (start N vs) H) :
    DefG P w K mg base CX (k + 1) x ps sp := by
  obtain ⟨fd, F⟩ := W.says.def_ i hd
  obtain ⟨oc, od, dV, kV, doc, pm, an, cdv, ct, osl, e, lk, hcd, hD, hK⟩ := F.ex
  have e0 : dV = .none := by
    rcases hD with ⟨_, z⟩ | ⟨z, _⟩
    · exact z
    · exact absurd rfl z
  subst e0
  refine ⟨⟨fd, okG ⟨⟨oc, od, kV, doc, pm, an, cdv, ct, osl, e, lk, hcd⟩, F.kp⟩ S len body, FunD.bindsN F bnd⟩, F.kp, W.glo j hg⟩
theorem FnG.ofF {f : Addr} {fd : FuncData} {st : Stmt} {N : List Str} (F : FunD K x x (defArgs st) (defBody st) (defScope st) [] [] f fd) (S : FnScope N ps (defScope st)) (len : ∀ vs H Q E, sp vs H Q E → vs.length = ps.length)
    (body : ∀ (cdv : Value) (B : Around) (up : List Env) (s : Shared) (H : Hp) (vs : List V) (Q : VK) (E : XK), B.guards = some [] → Room k (B.deeper (envOfC x (defScope st) s.heap.objs.size f cdv)) → sp vs H Q E →
      ∃ t, PSs (cxOf CX P w K mg base N x (defScope st) f cdv B up s H E) (defBody st) t ∧ t { nx := fun _ H' => Q .non H', rt := Q } (start N vs) H) :
    FnG P w K mg base CX (k + 1) f fd ps sp := by
  obtain ⟨oc, od, dV, kV, doc, pm, an, cdv, ct, osl, e, lk, hcd, hD, hK⟩ := F.ex
  have e0 : dV = .none := by
    rcases hD with ⟨_, z⟩ | ⟨z, _⟩
    · exact z
    · exact absurd rfl z
  subst e0
  exact okG ⟨⟨oc, od, kV, doc, pm, an, cdv, ct, osl, e, lk, hcd⟩, F.kp⟩ S len body
end
section
variable {X : Cx} {CX : CXT} {k : Nat} {x : Str} {ps : List Str} {sp : Sp} {E : XK} {p pos : Pos} {e : Expr} {es : List Expr} {t : TA}
theorem pe_callD (D : DefOk X.prog X.w X.K X.mg X.base CX k x ps sp) (hr : Room k X.A) (hx : Passes CX X E) (ha : PA X (e :: es) t) (hg : Gl X x := by rfl) (hdb : (x == ("__debug__" : Str)) = false := by decide)
    (he : starEach (e :: es) X.env = (false, eval e X.env) :: starEach es X.env := by rfl) (hpl : (backTo pos (starEach es X.env)).any (·.1) = false := by rfl) :
    PE X (.Call (.Name x p) (e :: es) [] pos) (tCall sp [] E t) := by
  obtain ⟨⟨fd, F, b⟩, kp, at_⟩ := D
  exact pe_call F hr hg at_ kp b .nil hx ha hdb he hpl
theorem pe_callDG (D : DefG X.prog X.w X.K X.mg X.base CX k x ps sp) (gd : X.A.guards = some []) (hr : Room k X.A) (hx : Passes CX X E) (ha : PA X (e :: es) t) (hg : Gl X x := by rfl) (hdb : (x == ("__debug__" : Str)) = false := by decide)
    (he : starEach (e :: es) X.env = (false, eval e X.env) :: starEach es X.env := by rfl) (hpl : (backTo pos (starEach es X.env)).any (·.1) = false := by rfl) :
    PE X (.Call (.Name x p) (e :: es) [] pos) (tCall sp [] E t) := by
  obtain ⟨⟨fd, F, b⟩, kp, at_⟩ := D
  exact pe_callG F gd hr hg at_ kp b .nil hx ha hdb he hpl
end

/-! ### operators of whatever kind -/
section
variable {X : Cx}
def orR (r r' : R2) : R2 := fun x y H Q => r x y H Q ∨ r' x y H Q
theorem op_or2 {f : Value → Value → Sem Value} {r r' : R2} (h : OpR X f r) (h' : OpR X f r') : OpR X f (orR r r') := by
  intro pins s σ H x y u v Q I rx ry z
  rcases z with z | z
  · exact h pins s σ H x y u v Q I rx ry z
  · exact h' pins s σ H x y u v Q I rx ry z
def orC (r r' : List V → Hp → VK → Prop) : List V → Hp → VK → Prop := fun xs H Q => r xs H Q ∨ r' xs H Q
theorem call_or {f : Value} {r r' : List V → Hp → VK → Prop} (h : CallR X f r) (h' : CallR X f r') : CallR X f (orC r r') := by
  intro pins s σ H xs us Q I rv z
  rcases z with z | z
  · exact h pins s σ H xs us Q I rv z
  · exact h' pins s σ H xs us Q I rv z
end
end SM
set_option Elab.async false
set_option linter.all false
set_option maxRecDepth 100000
set_option maxHeartbeats 2000000
/-! What stays of a heap; the drawing of numbers. -/
namespace SM
open PySem PySem.Spec PyProof.Rows L2

/-- all that was tracked stands as it stood, but what m names -/
def Keep (m : List Addr) (H H' : Hp) : Prop := ∀ b o, b ∉ m → H b = some o → H' b = some o
theorem Keep.refl {m : List Addr} {H : Hp} : Keep m H H := fun _ _ _ h => h
theorem Keep.trans {m : List Addr} {H H1 H2 : Hp} (h : Keep m H H1) (h' : Keep m H1 H2) : Keep m H H2 := fun b o n e => h' b o n (h b o n e)
theorem Keep.up {m m' : List Addr} {H H' : Hp} (h : Keep m H H') (s : ∀ a ∈ m, a ∈ m') : Keep m' H H' := fun b o n e => h b o (fun z => n (s b z)) e
theorem Keep.of_nil {m : List Addr} {H H' : Hp} (h : Keep [] H H') : Keep m H H' := h.up (fun a z => by cases z)
theorem Keep.new {m : List Addr} {H : Hp} {p : Addr} {o : HO} (h : H p = none) : Keep m H (upd H p o) := fun b u _ e => by
  rw [upd_ne (ne_of_none e h)]
  exact e
theorem Keep.at_ {m : List Addr} {H : Hp} {p : Addr} {o : HO} (h : p ∈ m) : Keep m H (upd H p o) := fun b u n e => by
  rw [upd_ne (fun z => n (by rw [z]; exact h))]
  exact e
/-- what was new to H may change -/
theorem Keep.own {m : List Addr} {H H' : Hp} {p : Addr} {o : HO} (k : Keep m H H') (h : H p = none) : Keep m H (upd H' p o) := fun b u n e => by
  rw [upd_ne (ne_of_none e h)]
  exact k b u n e
theorem Keep.same {H H' : Hp} (h : Keep [] H H') : Same H H' := fun b o e => h b o (by simp) e
theorem Keep.ofSame {m : List Addr} {H H' : Hp} (h : Same H H') : Keep m H H' := fun b o _ e => h b o e
theorem Keep.seqL {K : PySem.W.Frag} {m : List Addr} {H H' : Hp} {a : Addr} {xs : List V} (k : Keep m H H') (n : a ∉ m) (h : SqL K H a xs) : SqL K H' a xs := by
  rcases h with (h | ⟨o, h⟩) | h
  · exact .inl (.inl (k _ _ n h))
  · exact .inl (.inr ⟨o, k _ _ n h⟩)
  · exact .inr h
theorem Keep.seqT {K : PySem.W.Frag} {m : List Addr} {H H' : Hp} {a : Addr} {xs : List V} (k : Keep m H H') (n : a ∉ m) (h : SqT K H a xs) : SqT K H' a xs := by
  rcases h with (h | ⟨o, h⟩) | h
  · exact .inl (.inl (k _ _ n h))
  · exact .inl (.inr ⟨o, k _ _ n h⟩)
  · exact .inr h
theorem Keep.free {m : List Addr} {H H' : Hp} (k : Keep m H H') {p : Addr} (n : p ∉ m) (h : H' p = none) : H p = none := by
  cases e : H p with
  | none => rfl
  | some o =>
    rw [k p o n e] at h
    cases h

/-- the source of draws: two numbers, none below nought, the second one bounded -/
def Src (H : Hp) (a : Addr) : Prop := ∃ x y : Int, H a = some (.lst [.int x, .int y]) ∧ 0 ≤ x ∧ 0 ≤ y ∧ y < 1099511627776
theorem Src.keep {m : List Addr} {H H' : Hp} {a : Addr} (h : Src H a) (k : Keep m H H') (n : a ∉ m) : Src H' a := by
  obtain ⟨x, y, e, r⟩ := h
  exact ⟨x, y, k _ _ n e, r⟩

/-! ### bits -/
theorem bits_lt {N : Nat} {i : Int} (h : Builtin.Int.intBits i ≤ N) : i.natAbs < 2 ^ N := by
  unfold Builtin.Int.intBits at h
  by_cases z : i = 0
  · subst z
    exact Nat.two_pow_pos N
  · have e : (i == 0) = false := by simpa using z
    rw [e] at h
    have h' : i.natAbs.log2 + 1 ≤ N := h
    exact (Nat.log2_lt (by omega)).mp h'
theorem bits_le {N : Nat} {i : Int} (h : i.natAbs < 2 ^ N) : Builtin.Int.intBits i ≤ N := by
  unfold Builtin.Int.intBits
  by_cases z : i = 0
  · subst z
    exact Nat.zero_le N
  · have e : (i == 0) = false := by simpa using z
    rw [e]
    exact (Nat.log2_lt (by omega)).mpr h
theorem bits_sum {N : Nat} (hN : 60 ≤ N) {m c : Int} (hm : m.natAbs < 2 ^ 60) (hc : Builtin.Int.intBits c ≤ N) : Builtin.Int.intBits (m + c) ≤ N + 1 := by
  apply bits_le
  have h1 := bits_lt hc
  have h2 : 2 ^ 60 ≤ 2 ^ N := Nat.pow_le_pow_right (by decide) hN
  have h3 : (m + c).natAbs ≤ m.natAbs + c.natAbs := Int.natAbs_add_le m c
  rw [Nat.pow_succ]
  generalize 2 ^ N = Z at *
  generalize 2 ^ 60 = Y at *
  omega
theorem fmod_pos {i j : Int} (h : 0 < j) : 0 ≤ i.fmod j ∧ i.fmod j < j := by
  rw [Int.fmod_eq_emod_of_nonneg _ (by omega)]
  exact ⟨Int.emod_nonneg _ (by omega), Int.emod_lt_of_pos _ h⟩
theorem fdiv_nn {i j : Int} (h0 : 0 ≤ i) (h : 0 < j) : 0 ≤ i.fdiv j := by
  rw [Int.fdiv_eq_ediv_of_nonneg _ (by omega)]
  exact Int.ediv_nonneg h0 (by omega)

/-! ### promises of the drawing -/
def spSource (K : PySem.W.Frag) : Sp := fun vs H Q _ => ∃ (s : Addr) (ns : List Int) (start : Int), vs = [.ref s, .int start] ∧ SqL K H s (ns.map V.int) ∧ ns.length ≤ 63 ∧ (∀ n ∈ ns, Builtin.Int.intBits n ≤ 1048576) ∧ 0 ≤ start ∧ start < 1000 ∧
  ∀ p H', H p = none → Keep [] H H' → Src H' p → Q (.ref p) H'
def spDraw : Sp := fun vs H Q _ => ∃ (a : Addr) (span : Int), vs = [.ref a, .int span] ∧ Src H a ∧ 0 < span ∧ span < 1000000 ∧
  ∀ (r : Int) (H' : Hp), 0 ≤ r → r < span → Keep [a] H H' → Src H' a → Q (.int r) H'
/-- things[draw]: a list or a tuple -/
def spPick (K : PySem.W.Frag) : Sp := fun vs H Q _ => ∃ (a l : Addr) (xs : List V), vs = [.ref a, .ref l] ∧ Src H a ∧ (SqL K H l xs ∨ SqT K H l xs) ∧ l ≠ a ∧ 0 < xs.length ∧ xs.length < 100000 ∧
  ∀ (i : Nat) (v : V) (H' : Hp), xs[i]? = some v → Keep [a] H H' → Src H' a → Q v H'
end SM
set_option Elab.async false
set_option linter.all false
set_option maxRecDepth 100000
set_option maxHeartbeats 2000000
/-! What a head must look at of an own error class. -/
namespace SM
open PySem PySem.Spec PyProof.Rows L2 PySem.HandSPX He
def ve? (K : PySem.W.Frag) (C : Addr) : Bool := match K.lookup C with
  | some ⟨.type t, _, .cls cd, sl⟩ => (match cd.mro, sl.toList with
    | .ref C' :: bm, [_, _, _, _, some (.builtin n), _] => decide (t = "type") && (decide (C' = C) && (decide (n = "ValueError.__new__") && (!cd.hasDel && (cd.hasDict && refsVE bm))))
    | _, _ => false)
  | _ => false
theorem ve_ok {K : PySem.W.Frag} {C : Addr} (h : ve? K C = true) :
    ∃ nm q N bs bm sn sub ab col dd k0 k1 k2 k3 k5, K.lookup C = some (excClassObj nm q C N bs bm true sn sub ab col dd k0 k1 k2 k3 k5 "ValueError.__new__") ∧ refsVE bm = true := by
  unfold ve? at h
  split at h
  · rename_i t dd cd sl ho
    split at h
    · rename_i C' bm k0 k1 k2 k3 n k5 hm hs
      obtain ⟨h1, h⟩ := ba h
      obtain ⟨h2, h⟩ := ba h
      obtain ⟨h3, h⟩ := ba h
      obtain ⟨h4, h⟩ := ba h
      obtain ⟨h5, h6⟩ := ba h
      have e1 := of_decide_eq_true h1
      have e2 := of_decide_eq_true h2
      have e3 := of_decide_eq_true h3
      have e4 : cd.hasDel = false := by simpa using h4
      subst e1 e2 e3
      obtain ⟨nm, bs, mro, ns, qn, hd, sn, sub, ab, col, del⟩ := cd
      dsimp only at hm e4 h5
      subst hm e4 h5
      have z : sl = #[k0, k1, k2, k3, some (.builtin "ValueError.__new__"), k5] := by
        obtain ⟨l⟩ := sl
        dsimp only at hs
        rw [hs]
      subst z
      exact ⟨nm, qn, ns, bs, bm, sn, sub, ab, col, dd, k0, k1, k2, k3, k5, ho, h6⟩
    · cases h
  · cases h
/-- the error class C, its __init__ at f -/
def err? (K : PySem.W.Frag) (C f : Addr) : Bool :=
  ve? K C && (eqO (PySem.W.findIn K (.ref C) "__setattr__") (some (some (.builtin "object.__setattr__"))) && (decide (PySem.W.subIn K (.ref C) (.type "BaseException") = some true) &&
  (decide (PySem.W.typeIn K (.ref C) = some (.type "type")) && (PySem.W.keepIn K (.ref C) && (eqO (PySem.W.findIn K (.ref C) "__init__") (some (some (.ref f))) && (decide (PySem.W.typeIn K (.ref f) = some (.type "function")) &&
  (eqO (PySem.W.findIn K (.ref C) "__getattribute__") (some (some (.builtin "BaseException.__getattribute__"))) && (eqO (PySem.W.findIn K (.ref C) "__getattr__") (some none) && (PySem.W.hasDictIn K C &&
  (eqO (PySem.W.findIn K (.ref C) "__class__") (some (some (.builtin "object.__class__"))) && (eqO (PySem.W.specialIn K (.builtin "object.__class__") "__get__") (some (some (.builtin "getset_descriptor.__get__"))) &&
  (decide (PySem.W.takesIn K (.builtin "object.__class__") = some true) && decide (PySem.W.mroIn K C (.type "object") = some true)))))))))))))
theorem err_ok {K : PySem.W.Frag} {C f : Addr} (h : err? K C f = true) : ErrC K C f := by
  obtain ⟨h1, h⟩ := ba h
  obtain ⟨h2, h⟩ := ba h
  obtain ⟨h3, h⟩ := ba h
  obtain ⟨h4, h⟩ := ba h
  obtain ⟨h5, h⟩ := ba h
  obtain ⟨h6, h⟩ := ba h
  obtain ⟨h7, h⟩ := ba h
  obtain ⟨h8, h⟩ := ba h
  obtain ⟨h9, h⟩ := ba h
  obtain ⟨h10, h⟩ := ba h
  obtain ⟨h11, h⟩ := ba h
  obtain ⟨h12, h⟩ := ba h
  obtain ⟨h13, h14⟩ := ba h
  exact ⟨⟨ve_ok h1, eqO_ok h2, of_decide_eq_true h3, of_decide_eq_true h4, h5⟩, eqO_ok h6, of_decide_eq_true h7, ⟨eqO_ok h8, eqO_ok h9, of_decide_eq_true h3, h10, eqO_ok h11, eqO_ok h12, of_decide_eq_true h13, of_decide_eq_true h14⟩⟩
end SM
set_option Elab.async false
set_option linter.all false
set_option maxRecDepth 100000
set_option maxHeartbeats 2000000
/-! Errors that are held, their readings; how long a repr is. -/
namespace SM
open PySem PySem.Spec PyProof.Rows L2 PySem.HandSPX
/-- x is an error of the class at C whose one field f holds v -/
def ErrAt (H : Hp) (C : Addr) (f : Str) (v x : V) : Prop := ∃ a dx : Addr, x = .ref a ∧ H a = some (exo a C (some dx)) ∧ H dx = some (exd dx [(f, v)])
/-- a list or a dict stands at b -/
def Mu (H : Hp) (b : Addr) : Prop := (∃ xs, H b = some (.lst xs)) ∨ ∃ kvs, H b = some (.dK kvs)
theorem ErrAt.keep {m : List Addr} {H H' : Hp} {C : Addr} {f : Str} {v x : V} (h : ErrAt H C f v x) (k : Keep m H H') (n : ∀ b ∈ m, Mu H b) : ErrAt H' C f v x := by
  obtain ⟨a, dx, e, h1, h2⟩ := h
  refine ⟨a, dx, e, k _ _ (fun z => ?_) h1, k _ _ (fun z => ?_) h2⟩
  · rcases n _ z with ⟨xs, q⟩ | ⟨xs, q⟩ <;>
    · rw [q] at h1
      exact absurd (Option.some.inj h1) (by intro y; cases y)
  · rcases n _ z with ⟨xs, q⟩ | ⟨xs, q⟩ <;>
    · rw [q] at h2
      exact absurd (Option.some.inj h2) (by intro y; cases y)
theorem rd_err {C : Addr} {f : Str} {te : TE} {σ : L2.St} {H : Hp} {Q : VK} (h : te σ H fun v H1 => ∀ x H2, Keep [] H1 H2 → ErrAt H2 C f v x → Q x H2) (mono : ∀ {W W' : VK}, (∀ v H1, W v H1 → W' v H1) → te σ H W → te σ H W') : tErr C f te σ H Q :=
  mono (fun v H1 q a dx na nd ne => q _ _ (fun b o _ e => by
    rw [upd_ne (ne_of_none e na), upd_ne (ne_of_none e nd)]
    exact e) ⟨a, dx, rfl, upd_same, by rw [upd_ne ne, upd_same]⟩) h
theorem rd_errV {C : Addr} {f : Str} {n : Nat} {v : V} {σ : L2.St} {H : Hp} {Q : VK} (hv : σ[n]? = some (some v)) (h : ∀ x H2, Keep [] H H2 → ErrAt H2 C f v x → Q x H2) : tErr C f (tVar n) σ H Q :=
  rd_err ⟨v, hv, h⟩ (fun w z => by
    obtain ⟨u, e, q⟩ := z
    exact ⟨u, e, w _ _ q⟩)
theorem rd_errT {C : Addr} {f : Str} {n : Nat} {v : V} {σ : L2.St} {H : Hp} {Q : VK} (hv : σ[n]? = some (some v)) (h : ∀ t x H2, Keep [] H H2 → H2 t = some (.tup [v]) → ErrAt H2 C f (.ref t) x → Q x H2) : tErr C f (tTup (tCons (tVar n) tNil)) σ H Q :=
  rd_err (te := tTup (tCons (tVar n) tNil)) ⟨v, hv, by show 1 ≤ sizeLine; decide, fun p hp x H2 k e => h p x H2 (Keep.trans (Keep.new hp) k) (k _ _ (by simp) upd_same) e⟩ (fun w z => by
    obtain ⟨u, e, hz, q⟩ := z
    exact ⟨u, e, hz, fun p hp => w _ _ (q p hp)⟩)
/-- isinstance(error, c) -/
theorem rd_isi {K : PySem.W.Frag} {H : Hp} {C : Addr} {f : Str} {v x c : V} {cv : Value} {b : Bool} {Q : VK} (h : ErrAt H C f v x) (T : ExcC K C) (hc : ∀ u, RelV c u → u = cv) (hk : PySem.W.kitOne K (.ref C) cv = some b) (q : Q (.bl b) H) : rErrI K [x, c] H Q := by
  obtain ⟨a, dx, rfl, h1, h2⟩ := h
  exact ⟨a, C, dx, _, c, cv, b, rfl, h1, h2, T, hc, hk, q⟩
/-- error.f -/
theorem rd_errF {K : PySem.W.Frag} {H : Hp} {C : Addr} {f : Str} {v x : V} {te : TE} {σ : L2.St} {Q : VK} (h : ErrAt H C f v x) (T : ExcC K C) (hn : PySem.W.findIn K (.ref C) f = some none) (q : Q v H) : ∃ (a C dx : Addr) (fs : List (Str × V)) (v' : V), x = .ref a ∧ H a = some (exo a C (some dx)) ∧ H dx = some (exd dx fs) ∧ ExcC K C ∧ PySem.W.findIn K (.ref C) f = some none ∧ fs.lookup f = some v' ∧ Q v' H := by
  obtain ⟨a, dx, rfl, h1, h2⟩ := h
  exact ⟨a, C, dx, _, v, rfl, h1, h2, T, hn, by simp [List.lookup], q⟩

/-! ### how long a repr is -/
mutual
def cost : PyData → Nat
  | .none => 4
  | .bool _ => 5
  | .int i => i.natAbs.log2 + 3
  | .str x => 10 * x.length + 2
  | .list xs => costAll xs + 2
  | .tuple xs => costAll xs + 3
  | .dict kvs => costKv kvs + 2
def costAll : List PyData → Nat
  | [] => 0
  | x :: xs => cost x + 2 + costAll xs
def costKv : List (PyData × PyData) → Nat
  | [] => 0
  | (k, v) :: r => cost k + 2 + cost v + 2 + costKv r
end
end SM
namespace SM
open PySem PySem.Spec PyProof.Rows L2
/-- a repr that fits -/
def fits (d : PyData) : Bool := d.showable && (d.leavesShort 13 && (decide (d.weight ≤ 1048576) && decide (d.depth ≤ 60)))
theorem rd_repr {K : PySem.W.Frag} {H : Hp} {a : Addr} {d : PyData} {Q : VK} (h : Dq K H (.ref a) d) (f : fits d = true) (q : Q (.str d.shown) H) : rRepr K [.ref a] H Q := by
  obtain ⟨h1, f⟩ := He.ba f
  obtain ⟨h2, f⟩ := He.ba f
  obtain ⟨h3, h4⟩ := He.ba f
  exact ⟨a, d, rfl, h, h1, of_decide_eq_true h4, PyData.shown_fits (B := 13) (by decide) (by decide) h2 (Nat.le_trans (of_decide_eq_true h3) (by decide)), q⟩
theorem fits_parts {d : PyData} (f : fits d = true) : d.showable = true ∧ d.depth ≤ 60 ∧ d.shown.length ≤ sizeLine := by
  obtain ⟨h1, f⟩ := He.ba f
  obtain ⟨h2, f⟩ := He.ba f
  obtain ⟨h3, h4⟩ := He.ba f
  exact ⟨h1, of_decide_eq_true h4, PyData.shown_fits (B := 13) (by decide) (by decide) h2 (Nat.le_trans (of_decide_eq_true h3) (by decide))⟩
/-- a chain of steps, its end told by a fresh place -/
theorem Keep.pin {m : List Addr} {H H' : Hp} {q : Addr} (k : Keep m H H') (_ : H' q = none) : Keep m H H' := k
theorem Keep.pinTo {H H' : Hp} {q a : Addr} {o : HO} (k : Keep [] H H') (h : H a = some o) (_ : H' q = none) : H' a = some o := k a o (by simp) h
/-- what is new to H0 may change behind -/
theorem Keep.offNew {H0 H1 H2 : Hp} {p : Addr} (k : Keep [] H0 H1) (k2 : Keep [p] H1 H2) (n : H0 p = none) : Keep [] H0 H2 := fun b o _ e => k2 b o (by
    intro z
    rw [List.mem_singleton.mp z, n] at e
    cases e) (k b o (by simp) e)
theorem DqAll.get {K : PySem.W.Frag} {H : Hp} : ∀ {vs : List V} {ds : List PyData}, DqAll K H vs ds → ∀ {i : Nat} {v : V}, vs[i]? = some v → ∃ d, ds[i]? = some d ∧ Dq K H v d
  | _, _, .nil, i, v, e => by simp at e
  | _, _, .cons h t, 0, v, e => by
    simp at e
    subst e
    exact ⟨_, rfl, h⟩
  | _, _, .cons h t, i + 1, v, e => by
    obtain ⟨d, e1, h1⟩ := t.get (i := i) (v := v) (by simpa using e)
    exact ⟨d, by simpa using e1, h1⟩
/-- for i, x in enumerate(xs) -/
theorem for_enumL {K : PySem.W.Frag} {a : Addr} {xs : List V} {g : TG} {tb : TS} {D : Ends} {σ : L2.St} {H : Hp} (Pv : Nat → L2.St → Hp → Prop) (h0 : Pv 0 σ H) (hl : ∀ i σ H, i ≤ xs.length → Pv i σ H → SqL K H a xs)
    (hs : ∀ (i : Nat) (x : V) (T : Addr) (σ : L2.St) (H : Hp), xs[i]? = some x → Pv i σ H → H T = none → g (.ref T) σ (upd H T (.tup [.int (i : Int), x])) fun σ2 H2 => tb { D with nx := Pv (i + 1), ct := Pv (i + 1), bk := D.nx } σ2 H2)
    (hd : ∀ σ H, Pv xs.length σ H → D.nx σ H) :
    ∃ W : Nat → Nat → L2.St → Hp → Prop, (∃ m, W 0 m σ H) ∧ ∀ i m σ H, W i m σ H →
      ((Ite K a).stop i H ∧ D.nx σ H) ∨ ((Ite K a).go i H ∧ ∃ N : L2.St → Hp → Prop, (∀ σ' H', N σ' H' → ∃ m', m' < m ∧ W (i + 1) m' σ' H') ∧ ∀ x H', (Ite K a).yld i H x H' → g x σ H' fun σ2 H2 => tb { D with nx := N, ct := N, bk := D.nx } σ2 H2) := by
  refine ⟨fun i m σ H => m + i = xs.length ∧ Pv i σ H, ⟨xs.length, rfl, h0⟩, ?_⟩
  intro i m σ H w
  obtain ⟨em, p⟩ := w
  have sq := hl i σ H (by omega) p
  by_cases c : i < xs.length
  · right
    refine ⟨⟨xs, xs[i], sq, List.getElem?_eq_getElem c⟩, Pv (i + 1), fun σ' H' q => ⟨m - 1, by omega, by omega, q⟩, fun v H' y => ?_⟩
    obtain ⟨T, x, rfl, hT, rfl, hx⟩ := y
    exact hs i x T σ H (hx xs sq) p hT
  · left
    have e : i = xs.length := by omega
    subst e
    exact ⟨⟨xs, sq, Nat.le_refl _⟩, hd σ H p⟩
end SM
namespace SM
open PySem PySem.Spec PyProof.Rows L2
theorem rd_lst {H : Hp} {xs : List V} {Q : VK} (z : xs.length ≤ 1000) (h : ∀ p H', H p = none → Keep [] H H' → H' p = some (.lst xs) → Q (.ref p) H') : xs.length ≤ sizeLine ∧ ∀ p, H p = none → Q (.ref p) (upd H p (.lst xs)) :=
  ⟨Nat.le_trans z (by decide), fun p hp => h p _ hp (Keep.new hp) upd_same⟩
theorem rd_tup {H : Hp} {xs : List V} {Q : VK} (z : xs.length ≤ 1000) (h : ∀ p H', H p = none → Keep [] H H' → H' p = some (.tup xs) → Q (.ref p) H') : xs.length ≤ sizeLine ∧ ∀ p, H p = none → Q (.ref p) (upd H p (.tup xs)) :=
  ⟨Nat.le_trans z (by decide), fun p hp => h p _ hp (Keep.new hp) upd_same⟩
theorem rd_cat {H : Hp} {l b : Addr} {xs zs : List V} {Q : VK} (hl : H l = some (.lst xs)) (hb : H b = some (.lst zs)) (z : xs.length + zs.length ≤ 1000) (h : ∀ p H', H p = none → Keep [] H H' → H' p = some (.lst (xs ++ zs)) → Q (.ref p) H') : rCat (.ref l) (.ref b) H Q :=
  ⟨l, b, xs, zs, rfl, rfl, hl, hb, Nat.le_trans z (by decide), fun p hp => h p _ hp (Keep.new hp) upd_same⟩
theorem rd_rep {H : Hp} {l : Addr} {xs : List V} {k : Int} {Q : VK} (hl : H l = some (.lst xs)) (k0 : 0 ≤ k) (k1 : k ≤ 1000) (z : xs.length * k.toNat ≤ 1000) (h : ∀ p H', H p = none → Keep [] H H' → H' p = some (.lst (List.replicate k.toNat xs).flatten) → Q (.ref p) H') : rRep (.ref l) (.int k) H Q :=
  ⟨l, k, xs, rfl, rfl, hl, by omega, by omega, Nat.le_trans z (by decide), fun p hp => h p _ hp (Keep.new hp) upd_same⟩
/-- a step that does nothing to the heap, then what follows -/
theorem Keep.to {m : List Addr} {H1 H2 : Hp} {a : Addr} {o : HO} (k : Keep m H1 H2) (h : H1 a = some o) (n : a ∉ m := by simp) : H2 a = some o := k a o n h
end SM
set_option Elab.async false
set_option linter.all false
set_option maxRecDepth 100000
set_option maxHeartbeats 2000000
/-! Data of tuples and flat things alone: it stands, whatever happens to lists. -/
namespace SM
open PySem PySem.Spec PyProof.Rows L2
mutual
inductive Dt (K : PySem.W.Frag) (H : Hp) : V → PyData → Prop
  | non : Dt K H .non .none
  | bl (b : Bool) : Dt K H (.bl b) (.bool b)
  | int (i : Int) : Dt K H (.int i) (.int i)
  | str (x : Str) : Dt K H (.str x) (.str x)
  | tup {a : Addr} {xs : List V} {ds : List PyData} : SqT K H a xs → DtAll K H xs ds → Dt K H (.ref a) (.tuple ds)
inductive DtAll (K : PySem.W.Frag) (H : Hp) : List V → List PyData → Prop
  | nil : DtAll K H [] []
  | cons {v : V} {vs : List V} {d : PyData} {ds : List PyData} : Dt K H v d → DtAll K H vs ds → DtAll K H (v :: vs) (d :: ds)
end
/-- what may change is no tuple -/
def Soft (m : List Addr) (H : Hp) : Prop := ∀ b ∈ m, ∀ xs, H b ≠ some (.tup xs) ∧ ∀ o, H b ≠ some (.frz o (.tup xs))
theorem Soft.nil {H : Hp} : Soft [] H := fun b z => by cases z
theorem Soft.lst {H : Hp} {a : Addr} {xs : List V} (h : H a = some (.lst xs)) : Soft [a] H := fun b z ys => by
  rw [List.mem_singleton.mp z, h]
  exact ⟨(fun e => by cases e), (fun o e => by cases e)⟩
theorem Src.soft {H : Hp} {a : Addr} (h : Src H a) : Soft [a] H := by
  obtain ⟨x, y, e, _⟩ := h
  exact Soft.lst e
theorem seqT_keep {K : PySem.W.Frag} {m : List Addr} {H H' : Hp} (k : Keep m H H') (n : Soft m H) {a : Addr} {xs : List V} (h : SqT K H a xs) : SqT K H' a xs := by
  rcases h with (h | ⟨o, h⟩) | h
  · exact .inl (.inl (k _ _ (fun z => (n _ z xs).1 h) h))
  · exact .inl (.inr ⟨o, k _ _ (fun z => (n _ z xs).2 o h) h⟩)
  · exact .inr h
mutual
theorem Dt.keep {K : PySem.W.Frag} {m : List Addr} {H H' : Hp} (k : Keep m H H') (n : Soft m H) : ∀ {v : V} {d : PyData}, Dt K H v d → Dt K H' v d
  | _, _, .non => .non
  | _, _, .bl b => .bl b
  | _, _, .int i => .int i
  | _, _, .str x => .str x
  | _, _, .tup s t => .tup (seqT_keep k n s) (DtAll.keep k n t)
theorem DtAll.keep {K : PySem.W.Frag} {m : List Addr} {H H' : Hp} (k : Keep m H H') (n : Soft m H) : ∀ {vs : List V} {ds : List PyData}, DtAll K H vs ds → DtAll K H' vs ds
  | _, _, .nil => .nil
  | _, _, .cons s t => .cons (Dt.keep k n s) (DtAll.keep k n t)
end
theorem Dt.k0 {K : PySem.W.Frag} {H H' : Hp} (k : Keep [] H H') {v : V} {d : PyData} (h : Dt K H v d) : Dt K H' v d := h.keep k Soft.nil
theorem DtAll.k0 {K : PySem.W.Frag} {H H' : Hp} (k : Keep [] H H') {vs : List V} {ds : List PyData} (h : DtAll K H vs ds) : DtAll K H' vs ds := h.keep k Soft.nil
mutual
theorem Dt.dp {K : PySem.W.Frag} {H : Hp} : ∀ {v : V} {d : PyData}, Dt K H v d → Dp K H v d
  | _, _, .non => .non
  | _, _, .bl b => .bl b
  | _, _, .int i => .int i
  | _, _, .str x => .str x
  | _, _, .tup s t => .tup s (DtAll.dp t)
theorem DtAll.dp {K : PySem.W.Frag} {H : Hp} : ∀ {vs : List V} {ds : List PyData}, DtAll K H vs ds → DpAll K H vs ds
  | _, _, .nil => .nil
  | _, _, .cons s t => .cons (Dt.dp s) (DtAll.dp t)
end
mutual
theorem Dt.dq {K : PySem.W.Frag} {H : Hp} : ∀ {v : V} {d : PyData}, Dt K H v d → Dq K H v d
  | _, _, .non => .non
  | _, _, .bl b => .bl b
  | _, _, .int i => .int i
  | _, _, .str x => .str x
  | _, _, .tup s t => .tup s (DtAll.dq t)
theorem DtAll.dq {K : PySem.W.Frag} {H : Hp} : ∀ {vs : List V} {ds : List PyData}, DtAll K H vs ds → DqAll K H vs ds
  | _, _, .nil => .nil
  | _, _, .cons s t => .cons (Dt.dq s) (DtAll.dq t)
end
theorem DtAll.length {K : PySem.W.Frag} {H : Hp} : ∀ {vs : List V} {ds : List PyData}, DtAll K H vs ds → vs.length = ds.length
  | _, _, .nil => rfl
  | _, _, .cons _ t => congrArg (· + 1) t.length
theorem DtAll.get {K : PySem.W.Frag} {H : Hp} : ∀ {vs : List V} {ds : List PyData}, DtAll K H vs ds → ∀ {i : Nat} {v : V}, vs[i]? = some v → ∃ d, ds[i]? = some d ∧ Dt K H v d
  | _, _, .nil, i, v, e => by simp at e
  | _, _, .cons h t, 0, v, e => by
    simp at e
    subst e
    exact ⟨_, rfl, h⟩
  | _, _, .cons h t, i + 1, v, e => by
    obtain ⟨d, e1, h1⟩ := t.get (i := i) (v := v) (by simpa using e)
    exact ⟨d, by simpa using e1, h1⟩
theorem DtAll.getD {K : PySem.W.Frag} {H : Hp} : ∀ {vs : List V} {ds : List PyData}, DtAll K H vs ds → ∀ {i : Nat} {d : PyData}, ds[i]? = some d → ∃ v, vs[i]? = some v ∧ Dt K H v d
  | _, _, .nil, i, v, e => by simp at e
  | _, _, .cons h t, 0, v, e => by
    simp at e
    subst e
    exact ⟨_, rfl, h⟩
  | _, _, .cons h t, i + 1, v, e => by
    obtain ⟨d, e1, h1⟩ := t.getD (i := i) (d := v) (by simpa using e)
    exact ⟨d, by simpa using e1, h1⟩
theorem DtAll.append {K : PySem.W.Frag} {H : Hp} : ∀ {vs us : List V} {ds es : List PyData}, DtAll K H vs ds → DtAll K H us es → DtAll K H (vs ++ us) (ds ++ es)
  | _, _, _, _, .nil, h => h
  | _, _, _, _, .cons h t, z => .cons h (DtAll.append t z)
theorem DtAll.take {K : PySem.W.Frag} {H : Hp} : ∀ (n : Nat) {vs : List V} {ds : List PyData}, DtAll K H vs ds → DtAll K H (vs.take n) (ds.take n)
  | 0, _, _, _ => .nil
  | _ + 1, _, _, .nil => .nil
  | n + 1, _, _, .cons h t => .cons h (DtAll.take n t)
theorem DtAll.drop {K : PySem.W.Frag} {H : Hp} : ∀ (n : Nat) {vs : List V} {ds : List PyData}, DtAll K H vs ds → DtAll K H (vs.drop n) (ds.drop n)
  | 0, _, _, h => h
  | _ + 1, _, _, .nil => .nil
  | n + 1, _, _, .cons _ t => DtAll.drop n t
theorem DtAll.rev {K : PySem.W.Frag} {H : Hp} : ∀ {vs : List V} {ds : List PyData}, DtAll K H vs ds → DtAll K H vs.reverse ds.reverse
  | _, _, .nil => .nil
  | v :: vs, d :: ds, .cons h t => by
    rw [List.reverse_cons, List.reverse_cons]
    exact DtAll.append (DtAll.rev t) (.cons h .nil)
theorem DtAll.strs {K : PySem.W.Frag} {H : Hp} : ∀ (xs : List Str), DtAll K H (xs.map V.str) (xs.map PyData.str)
  | [] => .nil
  | x :: xs => .cons (.str x) (DtAll.strs xs)
/-- of a tuple's data: its items -/
theorem Dt.items {K : PySem.W.Frag} {H : Hp} {v : V} {ds : List PyData} (h : Dt K H v (.tuple ds)) : ∃ a xs, v = .ref a ∧ SqT K H a xs ∧ DtAll K H xs ds := by
  cases h with
  | tup s t => exact ⟨_, _, rfl, s, t⟩

/-! ### plans: names, lines of tests and steps -/
structure Ln where
  tests : List (Str × Str × Bool)
  steps : List (Str × Str)
  keep : Option (List (Str × Str))
def stepD (s : Str × Str) : PyData := .tuple [.str s.1, .str s.2]
def stepsD (l : List (Str × Str)) : PyData := .tuple (l.map stepD)
def testD (t : Str × Str × Bool) : PyData := .tuple [.str t.1, .str t.2.1, .bool t.2.2]
def testsD (l : List (Str × Str × Bool)) : PyData := .tuple (l.map testD)
def keepD : Option (List (Str × Str)) → List PyData
  | none => []
  | some l => [stepsD l]
def lnD (l : Ln) : PyData := .tuple (testsD l.tests :: stepsD l.steps :: keepD l.keep)
def linesD (ls : List Ln) : List PyData := ls.map lnD
def planD (names : List Str) (ls : List Ln) : PyData := .tuple [.tuple (names.map .str), .tuple (linesD ls)]
/-- a step, a test, a line over some names -/
def GoodS (ns : List Str) (s : Str × Str) : Prop := (s.1 = "here" ∨ s.1 ∈ ns) ∧ (s.2 = "new" ∨ s.2 = "here" ∨ s.2 = "nothing" ∨ s.2 ∈ ns)
def GoodT (ns : List Str) (t : Str × Str × Bool) : Prop := (t.1 = "here" ∨ t.1 = "new" ∨ t.1 ∈ ns) ∧ (t.2.1 = "new" ∨ t.2.1 = "here" ∨ t.2.1 = "nothing" ∨ t.2.1 ∈ ns)
structure GoodL (ns : List Str) (l : Ln) : Prop where
  tests : l.tests.length ≤ 4 ∧ ∀ t ∈ l.tests, GoodT ns t
  steps : l.steps.length ≤ 4 ∧ ∀ s ∈ l.steps, GoodS ns s
  keep : ∀ k, l.keep = some k → k.length ≤ 4 ∧ ∀ s ∈ k, GoodS ns s
end SM
set_option Elab.async false
set_option linter.all false
set_option maxRecDepth 100000
set_option maxHeartbeats 2000000
/-! Which data may be compared and told. -/
namespace SM
open PySem PySem.Spec PyProof.Rows L2
def Lay (n : Nat) (d : PyData) : Prop := d.canLay0 = true ∧ d.depth ≤ n
theorem Lay.shaped {n : Nat} {d : PyData} (h : Lay n d) (k : n ≤ 64) : SeqAt.shaped d = true := by
  rw [SeqAt.shaped, h.1, Bool.true_and, decide_eq_true_eq]
  exact Nat.le_trans h.2 k
theorem Lay.mono {m n : Nat} {d : PyData} (h : Lay m d) (k : m ≤ n) : Lay n d := ⟨h.1, Nat.le_trans h.2 k⟩
theorem layAll {n : Nat} : ∀ (ds : List PyData), (∀ d ∈ ds, Lay n d) → PyData.canLayAll0 ds = true ∧ PyData.depthAll ds ≤ n
  | [], _ => ⟨by rw [PyData.canLayAll0], by rw [PyData.depthAll]; exact Nat.zero_le _⟩
  | d :: ds, h => by
    obtain ⟨a, b⟩ := layAll ds fun e z => h e (List.mem_cons_of_mem _ z)
    obtain ⟨c, e⟩ := h d List.mem_cons_self
    refine ⟨by rw [PyData.canLayAll0, a, c]; rfl, ?_⟩
    rw [PyData.depthAll]
    exact Nat.max_le.mpr ⟨e, b⟩
theorem Lay.tuple {n : Nat} {ds : List PyData} (h : ∀ d ∈ ds, Lay n d) : Lay (n + 1) (.tuple ds) := by
  obtain ⟨a, b⟩ := layAll ds h
  exact ⟨by rw [PyData.canLay0]; exact a, by rw [PyData.depth]; omega⟩
theorem Lay.list {n : Nat} {ds : List PyData} (h : ∀ d ∈ ds, Lay n d) : Lay (n + 1) (.list ds) := by
  obtain ⟨a, b⟩ := layAll ds h
  exact ⟨by rw [PyData.canLay0]; exact a, by rw [PyData.depth]; omega⟩
theorem Lay.str {n : Nat} {x : Str} (h : PyData.strOk x = true) : Lay n (.str x) := ⟨by rw [PyData.canLay0]; exact h, by rw [PyData.depth]; exact Nat.zero_le _⟩
theorem Lay.bool {n : Nat} (b : Bool) : Lay n (.bool b) := ⟨by rw [PyData.canLay0], by rw [PyData.depth]; exact Nat.zero_le _⟩
theorem Lay.int {n : Nat} (b : Int) : Lay n (.int b) := ⟨by rw [PyData.canLay0], by rw [PyData.depth]; exact Nat.zero_le _⟩
theorem Lay.none {n : Nat} : Lay n .none := ⟨by rw [PyData.canLay0], by rw [PyData.depth]; exact Nat.zero_le _⟩
theorem eqv_nil (ds : List PyData) : PyData.eqv (.list ds) (.list []) = ds.isEmpty := by
  cases ds <;> rw [PyData.eqv, PyData.eqvAll] <;> rfl
theorem eqv_tnil (ds : List PyData) : PyData.eqv (.tuple ds) (.tuple []) = ds.isEmpty := by
  cases ds <;> rw [PyData.eqv, PyData.eqvAll] <;> rfl
/-- names that may be told -/
def OkN (ns : List Str) : Prop := ∀ s ∈ ns, PyData.strOk s = true
theorem ok_here : PyData.strOk "here" = true := by decide +kernel
theorem ok_new : PyData.strOk "new" = true := by decide +kernel
theorem ok_nothing : PyData.strOk "nothing" = true := by decide +kernel
theorem GoodS.lay {n : Nat} {ns : List Str} {s : Str × Str} (o : OkN ns) (h : GoodS ns s) : Lay (n + 1) (stepD s) := by
  refine Lay.tuple fun d z => ?_
  rcases List.mem_cons.mp z with e | z
  · rw [e]
    rcases h.1 with e | e
    · rw [e]; exact .str ok_here
    · exact .str (o _ e)
  · rw [List.mem_singleton.mp z]
    rcases h.2 with e | e | e | e
    · rw [e]; exact .str ok_new
    · rw [e]; exact .str ok_here
    · rw [e]; exact .str ok_nothing
    · exact .str (o _ e)
theorem GoodT.lay {n : Nat} {ns : List Str} {s : Str × Str × Bool} (o : OkN ns) (h : GoodT ns s) : Lay (n + 1) (testD s) := by
  refine Lay.tuple fun d z => ?_
  rcases List.mem_cons.mp z with e | z
  · rw [e]
    rcases h.1 with e | e | e
    · rw [e]; exact .str ok_here
    · rw [e]; exact .str ok_new
    · exact .str (o _ e)
  · rcases List.mem_cons.mp z with e | z
    · rw [e]
      rcases h.2 with e | e | e | e
      · rw [e]; exact .str ok_new
      · rw [e]; exact .str ok_here
      · rw [e]; exact .str ok_nothing
      · exact .str (o _ e)
    · rw [List.mem_singleton.mp z]
      exact .bool _
theorem steps_lay {n : Nat} {ns : List Str} {l : List (Str × Str)} (o : OkN ns) (h : ∀ s ∈ l, GoodS ns s) : Lay (n + 2) (stepsD l) := by
  refine Lay.tuple fun d z => ?_
  obtain ⟨s, hs, rfl⟩ := List.mem_map.mp z
  exact (h s hs).lay o
theorem tests_lay {n : Nat} {ns : List Str} {l : List (Str × Str × Bool)} (o : OkN ns) (h : ∀ s ∈ l, GoodT ns s) : Lay (n + 2) (testsD l) := by
  refine Lay.tuple fun d z => ?_
  obtain ⟨s, hs, rfl⟩ := List.mem_map.mp z
  exact (h s hs).lay o
theorem GoodL.lay {n : Nat} {ns : List Str} {l : Ln} (o : OkN ns) (h : GoodL ns l) : Lay (n + 3) (lnD l) := by
  refine Lay.tuple fun d z => ?_
  rcases List.mem_cons.mp z with e | z
  · rw [e]; exact tests_lay o h.tests.2
  · rcases List.mem_cons.mp z with e | z
    · rw [e]; exact steps_lay o h.steps.2
    · cases hk : l.keep with
      | none =>
        rw [hk] at z
        cases z
      | some k =>
        rw [hk] at z
        rw [List.mem_singleton.mp z]
        exact steps_lay o (h.keep k hk).2
theorem lines_lay {n : Nat} {ns : List Str} {ls : List Ln} (o : OkN ns) (h : ∀ l ∈ ls, GoodL ns l) : Lay (n + 4) (.list (ls.map lnD)) := by
  refine Lay.list fun d z => ?_
  obtain ⟨s, hs, rfl⟩ := List.mem_map.mp z
  exact (h s hs).lay o
theorem DtAll.eraseIdx {K : PySem.W.Frag} {H : Hp} : ∀ {vs : List V} {ds : List PyData}, DtAll K H vs ds → ∀ i, DtAll K H (vs.eraseIdx i) (ds.eraseIdx i)
  | _, _, .nil, _ => .nil
  | _, _, .cons _ t, 0 => t
  | _, _, .cons h t, i + 1 => .cons h (DtAll.eraseIdx t i)
theorem map_erase {α β : Type} (f : α → β) : ∀ (l : List α) (i : Nat), (l.map f).eraseIdx i = (l.eraseIdx i).map f
  | [], _ => rfl
  | _ :: _, 0 => rfl
  | _ :: l, i + 1 => congrArg _ (map_erase f l i)
theorem mem_erase {α : Type} {x : α} : ∀ {l : List α} {i : Nat}, x ∈ l.eraseIdx i → x ∈ l
  | [], _, z => z
  | _ :: _, 0, z => List.mem_cons_of_mem _ z
  | _ :: l, i + 1, z => by
    rcases List.mem_cons.mp z with e | z
    · rw [e]; exact List.mem_cons_self
    · exact List.mem_cons_of_mem _ (mem_erase z)
theorem seqIndex_nat {i n : Nat} (h : i < n) : seqIndex? (i : Int) n = some i := by
  unfold seqIndex?
  have e : ¬ ((i : Int) < 0) := by omega
  have f : (i : Int) < n := by omega
  simp [e, f]
end SM
set_option Elab.async false
set_option linter.all false
set_option maxRecDepth 100000
set_option maxHeartbeats 2000000
/-! xs[::-1] of a tuple -/
namespace HT
open PySem PyProof.Rows
open PySem.SeqAt
section
variable {prog : Program} {w : World} {A : Around} {E : Value → Shared → Prop} {s : Shared}
theorem adjust_rev (n : Nat) : Builtin.Slice.sliceAdjust none none (-1) (n : Int) = ((n : Int) - 1, -1) := by
  unfold Builtin.Slice.sliceAdjust
  rfl
theorem places_rev (n : Nat) : Builtin.Slice.slicePlaces ((n : Int) - 1) (-1) (-1) = n := by
  unfold Builtin.Slice.slicePlaces
  have h1 : ¬ ((-1 : Int) > 0) := by omega
  simp only [h1, if_false]
  rw [show (- -1 : Int) = 1 by decide, Int.ediv_one]
  split <;> omega
theorem sliceApplied_rev {sl : Addr} {vs : Value} {n : Nat} {Q : Int × Int × Nat → Shared → Prop} (hs : s.heap.IsSliceOf sl .none .none vs) (ps : IsPart vs (some (-1)))
    (h : Q ((n : Int) - 1, -1, n) s) : wpAny (model prog w) A (Builtin.Slice.sliceApplied (.ref sl) (pure (n : Int))) Q E s := by
  obtain ⟨os, hos, hcs, hds⟩ := id hs
  unfold Builtin.Slice.sliceApplied Builtin.Slice.sliceFields
  refine wpAny_bind (wpAny_bind (wpAny_field hos hds (x := .none) rfl (wpAny_bind (wpAny_field hos hds (x := .none) rfl (wpAny_bind (wpAny_field hos hds (x := vs) rfl (wpAny_pure ?_)))))))
  refine wpAny_bind (slicePart_ ps ?_)
  show wpAny _ _ (if ((-1 : Int) == 0) = true then _ else _) _ _ s
  rw [if_neg (by decide)]
  refine wpAny_bind (slicePart_none (wpAny_bind (slicePart_none (wpAny_bind (wpAny_pure ?_)))))
  show wpAny _ _ (match Builtin.Slice.sliceAdjust none none (-1) (n : Int) with | (lo, hi) => pure (lo, (-1 : Int), Builtin.Slice.slicePlaces lo hi (-1))) _ _ s
  rw [adjust_rev n]
  show wpAny _ _ (pure ((n : Int) - 1, (-1 : Int), Builtin.Slice.slicePlaces ((n : Int) - 1) (-1) (-1))) _ _ s
  rw [places_rev]
  exact wpAny_pure h
theorem filterMap_cong {α β : Type} {f g : α → Option β} : ∀ (l : List α), (∀ x ∈ l, f x = g x) → l.filterMap f = l.filterMap g
  | [], _ => rfl
  | x :: l, h => by
    rw [List.filterMap_cons, List.filterMap_cons, h x List.mem_cons_self, filterMap_cong l fun y z => h y (List.mem_cons_of_mem _ z)]
theorem pick_rev (xs : Array Value) : ((List.range xs.size).filterMap fun (m : Nat) => xs[((xs.size : Int) - 1 + (m : Int) * (-1)).toNat]?).toArray = xs.toList.reverse.toArray := by
  have e : ((List.range xs.size).filterMap fun (m : Nat) => xs[((xs.size : Int) - 1 + (m : Int) * (-1)).toNat]?) = ((List.range xs.size).map fun k => xs.size - 1 - k).filterMap (xs[·]?) := by
    rw [List.filterMap_map]
    apply filterMap_cong
    intro m hm
    have := List.mem_range.mp hm
    have e2 : ((xs.size : Int) - 1 + (m : Int) * (-1)).toNat = xs.size - 1 - m := by omega
    rw [e2]
    rfl
  rw [e, PySem.W.krv_range, List.filterMap_reverse, PySem.W.krv_all]
theorem getItem_tuple_rev {t sl : Addr} {items : Array Value} {vs : Value} {Q : Value → Shared → Prop} (ht : IsTup s.heap t items) (hs : s.heap.IsSliceOf sl .none .none vs) (ps : IsPart vs (some (-1)))
    (h : Q (.ref s.heap.objs.size) { s with heap := s.heap.push { cls := .type "tuple", data := .seq items.toList.reverse.toArray } })
    (hsz : items.size ≤ sizeLine) : wpAny (model prog w) A (getItem (.ref t) (.ref sl)) Q E s := by
  have htake : sizeOk (.seq items.toList.reverse.toArray) := by
    show items.toList.reverse.toArray.size ≤ sizeLine
    rw [List.size_toArray, List.length_reverse, Array.length_toList]
    exact hsz
  obtain ⟨os, hos, hcs, hds⟩ := id hs
  have hTs : s.TypeIs (.ref sl) "slice" := ⟨os, hos, hcs⟩
  unfold getItem
  try with_reducible refine wpAny_holding ?_
  first | refine wpAny_bind (wpAny_pure ?_) | skip
  refine wpAny_bind (wpAny_sequenceKey ht.typeIs (by decide) ?_)
  refine wpAny_bind (wpAny_callSpecial?_slot (name := Str.ofString "__getitem__") ht.typeIs PyProof.Rows.slot_tuple_getitem
    (wpAny_call_entry PyProof.Rows.slot_tuple_getitem ht.typeIs entry_tuple_getitem ?_ (args_tuple_getitem _ _)))
  show wpAny _ _ (Builtin.Tuple.tupleItemsOf (.ref t) >>= _) _ _ s
  refine wpAny_bind (tupleItemsOf_ ht ?_)
  refine wpAny_bind (wpAny_typeOf hTs ?_)
  rw [if_pos (by decide)]
  refine wpAny_bind (sliceApplied_rev hs ps ?_)
  have hno : ¬ ((((items.size : Int) - 1) == 0 && (-1 : Int) == 1 && items.size == items.size) = true) := by
    intro q
    rw [Bool.and_eq_true, Bool.and_eq_true] at q
    exact absurd q.1.2 (by decide)
  show wpAny _ _ (if (((items.size : Int) - 1) == 0 && (-1 : Int) == 1 && items.size == items.size) = true then _ else _) _ _ s
  rw [if_neg hno, pick_rev]
  first
    | exact wpAny_bind (m := Builtin.Tuple.tupleExact _) (wpAny_newObj_type (wpAny_pure ⟨_, rfl, wpAny_pure h⟩) htake)
    | exact wpAny_bind (m := Builtin.Tuple.tupleExact _) (wpAny_newObj_type (wpAny_bind (wpAny_pure (wpAny_pure ⟨_, rfl, wpAny_pure h⟩))) htake)
    | exact wpAny_bind (wpAny_bind (m := Builtin.Tuple.tupleExact _) (wpAny_newObj_type (wpAny_pure (wpAny_pure ⟨_, rfl, wpAny_pure h⟩)) htake))
    | exact wpAny_bind (wpAny_bind (m := Builtin.Tuple.tupleExact _) (wpAny_newObj_type (wpAny_pure ⟨_, rfl, wpAny_pure h⟩) htake))
end
end HT
namespace SM
open PySem PySem.Spec PyProof.Rows L2
section
variable {X : Cx}
def tRevT (K : PySem.W.Frag) (te : TE) : TE := fun σ H Q => te σ H fun x H1 => ∃ a xs, x = .ref a ∧ SqT K H1 a xs ∧ ∀ p, H1 p = none → Q (.ref p) (upd H1 p (.tup xs.reverse))
theorem pe_revT {e : Expr} {te : TE} {k : Nat} {p1 p2 p3 pos : Pos} (he : PE X e te) : PE X (.Subscript e (.Slice none none (some (.UnaryOp .USub (.Constant (.int 1) k p1) p2)) p3) pos) (tRevT X.K te) := by
  refine ⟨fun pins s σ H Q I h => ?_⟩
  refine Subscript_ (thn (he.run pins s σ H _ I h) fun v s1 ⟨x, H1, I1, r1, q1⟩ => ?_)
  obtain ⟨a, xs, ex, hx, q⟩ := q1
  subst ex
  cases r1
  have hst : PO X (some (.UnaryOp .USub (.Constant (.int 1) k p1) p2)) (tPart (tUn (rU fun i => .int (-i)) (tC (.int 1)))) := po_some (pe_un un_neg pe_int)
  refine wpAny_Slice (thn (po_none.run pins s1 σ H1 (fun o H2 => o = none ∧ H2 = H1) I1 ⟨rfl, rfl⟩) fun vl s2 ⟨l, H2, I2, pl, el, e2⟩ => ?_)
  subst el e2
  refine thn (po_none.run pins s2 σ H2 (fun o H3 => o = none ∧ H3 = H2) I2 ⟨rfl, rfl⟩) fun vu s3 ⟨u, H3, I3, pu, eu, e3⟩ => ?_
  subst eu e3
  refine thn (hst.run pins s3 σ H3 (fun o H4 => o = some (-1) ∧ H4 = H3) I3 ⟨1, rfl, -1, rfl, rfl, rfl⟩) fun vs s4 ⟨o, H4, I4, ps, eo, e4⟩ => ?_
  subst eo e4
  cases pl
  cases pu
  have I5 : Inv X pins σ H4 { s4 with heap := s4.heap.push { cls := .type "slice", data := .fields #[.none, .none, vs] } } := I4.kept (t' := s4.toks) fun b ob q => Heap.get?_push_of_some _ q
  obtain ⟨its, r, ht, hz⟩ := I5.tuple hx
  have hlen := r.length
  show wpAny (model X.prog X.w) X.A (subscriptTail e (.Slice none none (some (.UnaryOp .USub (.Constant (.int 1) k p1) p2)) p3) (.ref a) (.ref s4.heap.objs.size)) (EP X pins σ Q) X.xe { s4 with heap := s4.heap.push { cls := .type "slice", data := .fields #[.none, .none, vs] } }
  refine tail_any (ops := [.ref a, .ref s4.heap.objs.size]) ht.typeIs (PyProof.Rows.slot_tuple_getitem.lookup) ?_ (by with_unfolding_all rfl)
  refine HT.getItem_tuple_rev ht (Heap.IsSliceOf.new _ .none .none vs) ps ?_ (by rw [List.size_toArray]; omega)
  refine ⟨.ref _, _, I5.laid (t' := s4.toks) (o := .tup xs.reverse) (fun b ob q => Heap.get?_push_of_some _ q) (Nat.le_refl _) ?_, rfl, q _ (I5.hok.fresh (Nat.le_refl _))⟩
  exact ⟨by rw [List.length_reverse]; exact hz, _, r.reverse, ⟨_, Heap.get?_push_size _ rfl, rfl, 0, rfl⟩⟩
def rInT (K : PySem.W.Frag) : R2 := fun x y H Q => ∃ d ds, Dp K H x d ∧ Dp K H y (.tuple ds) ∧ SeqAt.shaped d = true ∧ SeqAt.shaped (.tuple ds) = true ∧ Q (.bl (ds.any fun z => PyData.eqv z d)) H
def rNotInT (K : PySem.W.Frag) : R2 := fun x y H Q => ∃ d ds, Dp K H x d ∧ Dp K H y (.tuple ds) ∧ SeqAt.shaped d = true ∧ SeqAt.shaped (.tuple ds) = true ∧ Q (.bl (!ds.any fun z => PyData.eqv z d)) H
theorem op_inT (hu : X.A.units + 65 < cLine) : OpR X (compareOp .In) (rInT X.K) := by
  intro pins s σ H x y v u Q I rx ry h
  obtain ⟨d, ds, hd, he, sd, se, q⟩ := h
  obtain ⟨as, r1⟩ := Dp.reads I d x v hd rx
  obtain ⟨bs, r2⟩ := Dp.reads I (.tuple ds) y u he ry
  exact SeqAt.in_tuple_reads r2 r1 (SeqAt.canLay_of_shaped se) (SeqAt.canLay_of_shaped sd) (room_in_shaped sd hu) ⟨.bl _, H, I, rfl, q⟩
theorem op_notInT (hu : X.A.units + 65 < cLine) : OpR X (compareOp .NotIn) (rNotInT X.K) := by
  intro pins s σ H x y v u Q I rx ry h
  obtain ⟨d, ds, hd, he, sd, se, q⟩ := h
  obtain ⟨as, r1⟩ := Dp.reads I d x v hd rx
  obtain ⟨bs, r2⟩ := Dp.reads I (.tuple ds) y u he ry
  exact SeqAt.notIn_tuple_reads r2 r1 (SeqAt.canLay_of_shaped se) (SeqAt.canLay_of_shaped sd) (room_in_shaped sd hu) ⟨.bl _, H, I, rfl, q⟩
def rInA (K : PySem.W.Frag) : R2 := fun x y H Q => rInD K x y H Q ∨ rInT K x y H Q
def rNotInA (K : PySem.W.Frag) : R2 := fun x y H Q => rNotInD K x y H Q ∨ rNotInT K x y H Q
theorem op_inA (hu : X.A.units + 65 < cLine) : OpR X (compareOp .In) (rInA X.K) := (op_inD hu).or (op_inT hu)
theorem op_notInA (hu : X.A.units + 65 < cLine) : OpR X (compareOp .NotIn) (rNotInA X.K) := (op_notInD hu).or (op_notInT hu)
theorem units65 {k : Nat} {A : Around} (r : Room k A) : A.units + 65 < cLine := by have := r.un; omega
theorem any_str (x : Str) : ∀ ns : List Str, ((ns.map PyData.str).any fun z => PyData.eqv z (.str x)) = decide (x ∈ ns)
  | [] => by simp
  | n :: ns => by
    rw [List.map_cons, List.any_cons, any_str x ns, PyData.eqv]
    by_cases h : n = x
    · subst h
      simp
    · have h' : ¬ x = n := fun z => h z.symm
      simp [h, h']
end
end SM
set_option Elab.async false
set_option linter.all false
set_option maxRecDepth 100000
set_option maxHeartbeats 2000000
/-! Displays of tuples and flat things: data, all new. -/
namespace SM
open PySem PySem.Spec PyProof.Rows L2
variable {K : PySem.W.Frag} {σ : L2.St}
def LtE (K : PySem.W.Frag) (te : TE) (σ : L2.St) (d : PyData) : Prop := ∀ H Q, (∀ v H', Keep [] H H' → Dt K H' v d → Q v H') → te σ H Q
def LtA (K : PySem.W.Frag) (ta : TA) (σ : L2.St) (ds : List PyData) : Prop := ∀ H Q, (∀ xs H', Keep [] H H' → DtAll K H' xs ds → Q xs H') → ta σ H Q
theorem LtA.nil : LtA K tNil σ [] := fun H Q k => k [] H Keep.refl .nil
theorem LtA.cons {te : TE} {ta : TA} {d : PyData} {ds : List PyData} (h : LtE K te σ d) (t : LtA K ta σ ds) : LtA K (tCons te ta) σ (d :: ds) :=
  fun H Q k => h H _ fun v H1 k1 d1 => t H1 _ fun xs H2 k2 d2 => k _ _ (k1.trans k2) (.cons (d1.k0 k2) d2)
theorem LtE.str {x : Str} : LtE K (tC (.str x)) σ (.str x) := fun H Q k => k _ _ Keep.refl (.str x)
theorem LtE.bl {x : Bool} : LtE K (tC (.bl x)) σ (.bool x) := fun H Q k => k _ _ Keep.refl (.bl x)
theorem LtE.int {x : Int} : LtE K (tC (.int x)) σ (.int x) := fun H Q k => k _ _ Keep.refl (.int x)
theorem LtE.non : LtE K (tC .non) σ .none := fun H Q k => k _ _ Keep.refl .non
theorem LtE.var {i : Nat} {x : Str} (h : σ[i]? = some (some (.str x))) : LtE K (tVar i) σ (.str x) := fun H Q k => ⟨_, h, k _ _ Keep.refl (.str x)⟩
theorem LtE.tup {ta : TA} {ds : List PyData} (h : LtA K ta σ ds) (n : Nat.ble ds.length 100 = true := by rfl) : LtE K (tTup ta) σ (.tuple ds) :=
  fun H Q k => h H _ fun xs H1 k1 d1 => ⟨by rw [d1.length]; exact Nat.le_trans (Nat.le_of_ble_eq_true n) (by decide), fun p hp => k _ _ (k1.trans (Keep.new hp)) (.tup (SqT.of upd_same) (d1.k0 (Keep.new hp)))⟩
/-- a list display of such -/
theorem LtA.lst {ta : TA} {ds : List PyData} {H : Hp} {Q : VK} (h : LtA K ta σ ds) (n : Nat.ble ds.length 100 = true) (k : ∀ p xs H', H p = none → Keep [] H H' → H' p = some (.lst xs) → DtAll K H' xs ds → Q (.ref p) H') : tLst ta σ H Q :=
  h H _ fun xs H1 k1 d1 => ⟨by rw [d1.length]; exact Nat.le_trans (Nat.le_of_ble_eq_true n) (by decide), fun p hp => k p xs _ (k1.free (by simp) hp) (k1.trans (Keep.new hp)) upd_same (d1.k0 (Keep.new hp))⟩
end SM
set_option Elab.async false
set_option linter.all false
set_option maxRecDepth 100000
set_option maxHeartbeats 2000000
/-! comprehensions in comprehensions -/
namespace SM
open PySem PySem.Spec PyProof.Rows L2
/-- tuple(..) of a list or a tuple -/
def teTup (K : PySem.W.Frag) (te : TE) : TE := tCB (fun xs H Q => ∃ p ys, xs = [.ref p] ∧ ((SqL K H p ys ∧ ∀ l, H l = none → Q (.ref l) (upd H l (.tup ys))) ∨ (SqT K H p ys ∧ Q (.ref p) H))) (tCons te tNil)
theorem relabel_look {env : Env} : ∀ {names : List (Str × NameKind)} {x : Str}, (names.lookup x = some .cell ∨ names.lookup x = some .free) →
    ((names.map fun (n, k) => if (k == NameKind.free && env.scope.kind == .function && env.kindOf n == some .cell) then (n, NameKind.cell) else (n, k)).lookup x = some .cell ∨
    (names.map fun (n, k) => if (k == NameKind.free && env.scope.kind == .function && env.kindOf n == some .cell) then (n, NameKind.cell) else (n, k)).lookup x = some .free)
  | [], _, h => by simp at h
  | (n, k) :: r, x, h => by
    have ih := @relabel_look env r x
    show List.lookup x ((if (k == NameKind.free && env.scope.kind == .function && env.kindOf n == some .cell) = true then (n, NameKind.cell) else (n, k)) :: _) = _ ∨ List.lookup x ((if (k == NameKind.free && env.scope.kind == .function && env.kindOf n == some .cell) = true then (n, NameKind.cell) else (n, k)) :: _) = _
    cases hx : x == n with
    | true =>
      simp only [List.lookup_cons, hx] at h
      by_cases hc : (k == NameKind.free && env.scope.kind == .function && env.kindOf n == some .cell) = true
      · rw [if_pos hc]
        simp [List.lookup_cons, hx]
      · rw [if_neg hc]
        simpa [List.lookup_cons, hx] using h
    | false =>
      simp only [List.lookup_cons, hx] at h
      by_cases hc : (k == NameKind.free && env.scope.kind == .function && env.kindOf n == some .cell) = true
      · rw [if_pos hc]; simp only [List.lookup_cons, hx]; exact ih h
      · rw [if_neg hc]; simp only [List.lookup_cons, hx]; exact ih h
theorem blkOk_nest {N : List Str} {sc scope : Scope} {env : Env} {own : List (Str × Nat)} (h : blkC N sc scope own = true) : BlkOk N (relabel sc env) scope own := by
  obtain ⟨a, b, c, d, e⟩ := blkOk_by h
  exact ⟨a, b, c, fun y hy z => relabel_look (d y hy z), e⟩
variable {K : PySem.W.Frag}
/-- from H on, te gives d, and leaves what stands -/
def LtH (K : PySem.W.Frag) (te : TE) (σ : L2.St) (H : Hp) (d : PyData) : Prop := ∀ H1, Keep [] H H1 → ∀ Q, (∀ v H', Keep [] H1 H' → Dt K H' v d → Q v H') → te σ H1 Q
/-- a comprehension over a tuple, item by item -/
theorem lcT {i j : Nat} {σ : L2.St} {H : Hp} {t : Addr} {xs : List V} {ds : List PyData} {f : PyData → PyData} {te : TE} {Q : VK} (hv : σ[i]? = some (some (.ref t))) (hq : SqT K H t xs) (hd : DtAll K H xs ds) (hl : ds.length ≤ 100)
    (he : ∀ H2, Keep [] H H2 → ∀ v d, d ∈ ds → Dt K H2 v d → LtH K te ((σ.set j none).set j (some v)) H2 (f d))
    (k : ∀ D ys H', H D = none → Keep [] H H' → H' D = some (.lst ys) → DtAll K H' ys (ds.map f) → Q (.ref D) H') : tLc (iTup K (tVar i)) (gName j) tYes te [j] σ H Q := by
  have len := hd.length
  refine ⟨_, hv, t, rfl, ⟨xs, hq⟩, fun D hD => ?_⟩
  refine lc_tup (xs := xs) (Qd := fun H' => Q (.ref D) H') (fun i H' => ∃ acc, Keep [] H H' ∧ H' D = some (.lst acc) ∧ acc.length = i ∧ DtAll K H' acc ((ds.take i).map f)) ⟨[], Keep.new hD, upd_same, rfl, by simpa using DtAll.nil⟩ ?_ ?_ ?_
  · rintro n H' _ ⟨acc, k1, _⟩
    exact seqT_keep k1 Soft.nil hq
  · rintro n x H' hx ⟨acc, k1, e1, en, da⟩
    obtain ⟨d, hd', dx⟩ := hd.get hx
    have hn : n < ds.length := by
      rcases Nat.lt_or_ge n ds.length with h | h
      · exact h
      · rw [List.getElem?_eq_none h] at hd'
        cases hd'
    refine ⟨?_, ?_⟩
    · show ((σ.set j none).set j (some x)).set j none = σ.set j none
      rw [List.set_set, List.set_set]
    · show te _ H' _
      refine he H' k1 x d (List.mem_of_getElem? hd') (dx.k0 k1) H' Keep.refl _ fun y H2 k2 dy => ?_
      refine ⟨acc, k2.to e1, ?_, acc ++ [y], Keep.own (k1.trans k2) hD, upd_same, by rw [List.length_append, en]; rfl, ?_⟩
      · rw [en]
        exact Nat.lt_of_lt_of_le (show n < 101 by omega) (by decide)
      · rw [List.take_succ, hd', Option.toList_some, List.map_append]
        exact ((da.k0 k2).append (.cons dy .nil)).keep (Keep.at_ (m := [D]) (by simp)) (Soft.lst (k2.to e1))
  · rintro H' ⟨acc, k1, e1, en, da⟩
    rw [len, List.take_length] at da
    exact k D acc H' hD k1 e1 da
/-- tuple(a list of new data) -/
theorem LtH.tup {i j : Nat} {σ : L2.St} {H : Hp} {t : Addr} {xs : List V} {ds : List PyData} {f : PyData → PyData} {te : TE} (hv : σ[i]? = some (some (.ref t))) (hq : SqT K H t xs) (hd : DtAll K H xs ds) (hl : ds.length ≤ 100)
    (he : ∀ H2, Keep [] H H2 → ∀ v d, d ∈ ds → Dt K H2 v d → LtH K te ((σ.set j none).set j (some v)) H2 (f d)) : LtH K (teTup K (tLc (iTup K (tVar i)) (gName j) tYes te [j])) σ H (.tuple (ds.map f)) := by
  intro H1 k1 Q k
  refine lcT (Q := fun x H2 => ∃ p ys, [x] = [V.ref p] ∧ ((SqL K H2 p ys ∧ ∀ l, H2 l = none → Q (.ref l) (upd H2 l (.tup ys))) ∨ (SqT K H2 p ys ∧ Q (.ref p) H2))) hv (seqT_keep k1 Soft.nil hq) (hd.k0 k1) hl (fun H2 k2 => he H2 (k1.trans k2)) fun D ys H2 hD k2 e2 d2 => ?_
  refine ⟨D, ys, rfl, .inl ⟨SqL.of e2, fun l hl => ?_⟩⟩
  exact k _ _ (k2.trans (Keep.new hl)) (.tup (SqT.of upd_same) (d2.k0 (Keep.new hl)))
/-! ### another word for "was" -/
def ren (w s : Str) : Str := if s = "was" then w else s
def renD (w : Str) : PyData → PyData
  | .str s => .str (ren w s)
  | d => d
def renE (w : Str) : PyData → PyData
  | .tuple ds => .tuple (ds.map (renD w))
  | d => d
def renP (w : Str) : PyData → PyData
  | .tuple ds => .tuple (ds.map (renE w))
  | d => d
def renS (w : Str) (s : Str × Str) : Str × Str := (ren w s.1, ren w s.2)
def renT (w : Str) (s : Str × Str × Bool) : Str × Str × Bool := (ren w s.1, ren w s.2.1, s.2.2)
def renL (w : Str) (l : Ln) : Ln := ⟨l.tests.map (renT w), l.steps.map (renS w), l.keep.map (List.map (renS w))⟩
theorem renP_steps (w : Str) (l : List (Str × Str)) : renP w (stepsD l) = stepsD (l.map (renS w)) := by
  show PyData.tuple _ = PyData.tuple _
  rw [List.map_map, List.map_map]
  rfl
theorem renP_tests (w : Str) (l : List (Str × Str × Bool)) : renP w (testsD l) = testsD (l.map (renT w)) := by
  show PyData.tuple _ = PyData.tuple _
  rw [List.map_map, List.map_map]
  rfl
def partsD (l : Ln) : List PyData := testsD l.tests :: stepsD l.steps :: keepD l.keep
theorem renP_line (w : Str) (l : Ln) : (partsD l).map (renP w) = partsD (renL w l) := by
  obtain ⟨t, s, k⟩ := l
  cases k with
  | none => simp only [partsD, keepD, renL, List.map_cons, List.map_nil, renP_steps, renP_tests, Option.map_none]
  | some k => simp only [partsD, keepD, renL, List.map_cons, List.map_nil, renP_steps, renP_tests, Option.map_some]
theorem ren_ne {w s : Str} (h : s ≠ "was") : ren w s = s := if_neg h
theorem ren_mem {w s : Str} {ns : List Str} (h : s ∈ ns) : ren w s ∈ ns.map (ren w) := List.mem_map_of_mem h
theorem here_ne : ("here" : Str) ≠ "was" := by decide +kernel
theorem new_ne : ("new" : Str) ≠ "was" := by decide +kernel
theorem nothing_ne : ("nothing" : Str) ≠ "was" := by decide +kernel
theorem GoodS.ren {w : Str} {ns : List Str} {s : Str × Str} (h : GoodS ns s) : GoodS (ns.map (ren w)) (renS w s) := by
  refine ⟨?_, ?_⟩
  · rcases h.1 with e | e
    · exact .inl (show SM.ren w s.1 = _ by rw [e]; exact ren_ne here_ne)
    · exact .inr (ren_mem e)
  · rcases h.2 with e | e | e | e
    · exact .inl (show SM.ren w s.2 = _ by rw [e]; exact ren_ne new_ne)
    · exact .inr (.inl (show SM.ren w s.2 = _ by rw [e]; exact ren_ne here_ne))
    · exact .inr (.inr (.inl (show SM.ren w s.2 = _ by rw [e]; exact ren_ne nothing_ne)))
    · exact .inr (.inr (.inr (ren_mem e)))
theorem GoodT.ren {w : Str} {ns : List Str} {s : Str × Str × Bool} (h : GoodT ns s) : GoodT (ns.map (ren w)) (renT w s) := by
  refine ⟨?_, ?_⟩
  · rcases h.1 with e | e | e
    · exact .inl (show SM.ren w s.1 = _ by rw [e]; exact ren_ne here_ne)
    · exact .inr (.inl (show SM.ren w s.1 = _ by rw [e]; exact ren_ne new_ne))
    · exact .inr (.inr (ren_mem e))
  · rcases h.2 with e | e | e | e
    · exact .inl (show SM.ren w s.2.1 = _ by rw [e]; exact ren_ne new_ne)
    · exact .inr (.inl (show SM.ren w s.2.1 = _ by rw [e]; exact ren_ne here_ne))
    · exact .inr (.inr (.inl (show SM.ren w s.2.1 = _ by rw [e]; exact ren_ne nothing_ne)))
    · exact .inr (.inr (.inr (ren_mem e)))
theorem GoodL.ren {w : Str} {ns : List Str} {l : Ln} (h : GoodL ns l) : GoodL (ns.map (ren w)) (renL w l) := by
  refine ⟨⟨by rw [renL, List.length_map]; exact h.tests.1, fun t z => ?_⟩, ⟨by rw [renL, List.length_map]; exact h.steps.1, fun t z => ?_⟩, fun k z => ?_⟩
  · obtain ⟨s, hs, rfl⟩ := List.mem_map.mp z
    exact (h.tests.2 s hs).ren
  · obtain ⟨s, hs, rfl⟩ := List.mem_map.mp z
    exact (h.steps.2 s hs).ren
  · cases hk : l.keep with
    | none =>
      rw [renL, hk] at z
      cases z
    | some k0 =>
      have e : k0.map (renS w) = k := by
        rw [renL, hk] at z
        exact Option.some.inj z
      subst e
      refine ⟨by rw [List.length_map]; exact (h.keep k0 hk).1, fun t z => ?_⟩
      obtain ⟨s, hs, rfl⟩ := List.mem_map.mp z
      exact ((h.keep k0 hk).2 s hs).ren
end SM
set_option Elab.async false
set_option linter.all false
set_option maxRecDepth 100000
set_option maxHeartbeats 2000000
/-! Kinds of data, and isinstance of any value. -/
namespace SM
open PySem PySem.Spec PyProof.Rows L2
variable {K : PySem.W.Frag} {H : Hp}
def tyN : PyData → String
  | .none => "NoneType"
  | .bool _ => "bool"
  | .int _ => "int"
  | .str _ => "str"
  | .list _ => "list"
  | .tuple _ => "tuple"
  | .dict _ => "dict"
theorem sqL_ty {a : Addr} {xs : List V} (h : SqL K H a xs) : TyX K H (.ref a) (.type "list") := by
  rcases h with (h | ⟨o, h⟩) | ⟨o, its, n, h, c, _⟩
  · exact .base (.lst h)
  · exact .base (.frz h)
  · exact .kList h c
theorem sqT_ty {a : Addr} {xs : List V} (h : SqT K H a xs) : TyX K H (.ref a) (.type "tuple") := by
  rcases h with (h | ⟨o, h⟩) | ⟨o, its, n, h, c, _⟩
  · exact .base (.tup h)
  · exact .fTuple h
  · exact .kTuple h c
theorem Dq.ty {v : V} {d : PyData} (h : Dq K H v d) : TyX K H v (.type (tyN d)) := by
  cases h with
  | non => exact .base .non
  | bl b => exact .base (.bl b)
  | int i => exact .base (.int i)
  | str x => exact .base (.str x)
  | lst s t => exact sqL_ty s
  | tup s t => exact sqT_ty s
  | dic s t => exact .base (.dK s)
def isTup : PyData → Bool
  | .tuple _ => true
  | _ => false
def isLst : PyData → Bool
  | .list _ => true
  | _ => false
def isSeq : PyData → Bool
  | .tuple _ => true
  | .list _ => true
  | _ => false
def isStr : PyData → Bool
  | .str _ => true
  | _ => false
def isBool : PyData → Bool
  | .bool _ => true
  | _ => false
theorem kit_tup (d : PyData) : PySem.W.kitOne K (.type (tyN d)) (.type "tuple") = some (isTup d) := by cases d <;> rfl
theorem kit_lst (d : PyData) : PySem.W.kitOne K (.type (tyN d)) (.type "list") = some (isLst d) := by cases d <;> rfl
theorem kit_str (d : PyData) : PySem.W.kitOne K (.type (tyN d)) (.type "str") = some (isStr d) := by cases d <;> rfl
theorem kit_bool (d : PyData) : PySem.W.kitOne K (.type (tyN d)) (.type "bool") = some (isBool d) := by cases d <;> rfl
theorem kit_seq (d : PyData) : PySem.W.kitAny K (.type (tyN d)) [.type "list", .type "tuple"] = some (isSeq d) := by cases d <;> rfl
theorem isi_tup {v : V} {d : PyData} {Q : VK} (h : Dq K H v d) (q : Q (.bl (isTup d)) H) : rIsi K [v, .ty "tuple"] H Q := ⟨_, _, _, _, _, rfl, .ty _, h.ty, kit_tup d, q⟩
theorem isi_lst {v : V} {d : PyData} {Q : VK} (h : Dq K H v d) (q : Q (.bl (isLst d)) H) : rIsi K [v, .ty "list"] H Q := ⟨_, _, _, _, _, rfl, .ty _, h.ty, kit_lst d, q⟩
theorem isi_str {v : V} {d : PyData} {Q : VK} (h : Dq K H v d) (q : Q (.bl (isStr d)) H) : rIsi K [v, .ty "str"] H Q := ⟨_, _, _, _, _, rfl, .ty _, h.ty, kit_str d, q⟩
theorem isi_bool {v : V} {d : PyData} {Q : VK} (h : Dq K H v d) (q : Q (.bl (isBool d)) H) : rIsi K [v, .ty "bool"] H Q := ⟨_, _, _, _, _, rfl, .ty _, h.ty, kit_bool d, q⟩
mutual
/-- data without dicts -/
theorem Dq.toDp : ∀ {v : V} {d : PyData}, Dq K H v d → d.canLay0 = true → Dp K H v d
  | _, _, .non, _ => .non
  | _, _, .bl b, _ => .bl b
  | _, _, .int i, _ => .int i
  | _, _, .str x, _ => .str x
  | _, _, .lst s t, h => .lst s (DqAll.toDp t (by simpa [PyData.canLay0] using h))
  | _, _, .tup s t, h => .tup s (DqAll.toDp t (by simpa [PyData.canLay0] using h))
  | _, _, .dic s t, h => by simp [PyData.canLay0] at h
theorem DqAll.toDp : ∀ {vs : List V} {ds : List PyData}, DqAll K H vs ds → PyData.canLayAll0 ds = true → DpAll K H vs ds
  | _, _, .nil, _ => .nil
  | _, _, .cons s t, h => by
    rw [PyData.canLayAll0, Bool.and_eq_true] at h
    exact .cons (s.toDp h.1) (DqAll.toDp t h.2)
end
/-- among some words -/
def memS (ns : List Str) (d : PyData) : Bool := (ns.map PyData.str).any fun z => PyData.eqv z d
theorem Lay.items {n : Nat} {ds : List PyData} (h : Lay (n + 1) (.tuple ds)) : ∀ d ∈ ds, Lay n d := by
  obtain ⟨a, b⟩ := h
  rw [PyData.canLay0] at a
  rw [PyData.depth] at b
  have b' : PyData.depthAll ds ≤ n := by omega
  clear b
  induction ds with
  | nil => exact fun d z => by cases z
  | cons e ds ih =>
    rw [PyData.canLayAll0, Bool.and_eq_true] at a
    rw [PyData.depthAll] at b'
    intro d z
    rcases List.mem_cons.mp z with rfl | z
    · exact ⟨a.1, Nat.le_trans (Nat.le_max_left _ _) b'⟩
    · exact ih a.2 (Nat.le_trans (Nat.le_max_right _ _) b') d z
theorem Lay.itemsL {n : Nat} {ds : List PyData} (h : Lay (n + 1) (.list ds)) : ∀ d ∈ ds, Lay n d := by
  obtain ⟨a, b⟩ := h
  rw [PyData.canLay0] at a
  rw [PyData.depth] at b
  exact Lay.items (ds := ds) ⟨by rw [PyData.canLay0]; exact a, by rw [PyData.depth]; exact b⟩
/-- from H on, te gives the bool b, and leaves what stands -/
def LtB (te : TE) (σ : L2.St) (H : Hp) (b : Bool) : Prop := ∀ H1, Keep [] H H1 → ∀ Q : VK, (∀ H', Keep [] H1 H' → Q (.bl b) H') → te σ H1 Q
/-- bools, item by item of a tuple -/
theorem lcB {j : Nat} {σ : L2.St} {H : Hp} {t : Addr} {xs : List V} {ds : List PyData} {f : PyData → Bool} {te : TE} {D : Addr} {Qd : Hp → Prop} (hq : SqT K H t xs) (hd : DqAll K H xs ds) (hl : ds.length ≤ 1000)
    (he : ∀ H2, Keep [] H H2 → ∀ v d, d ∈ ds → Dq K H2 v d → LtB te ((σ.set j none).set j (some v)) H2 (f d)) (hD : H D = none)
    (k : ∀ H', Keep [] H H' → H' D = some (.lst ((ds.map f).map V.bl)) → Qd H') :
    ∃ W : Nat → Nat → Hp → Prop, (∃ m, W 0 m (upd H D (.lst []))) ∧ ∀ i m H, W i m H →
      ((Itt K t).stop i H ∧ Qd H) ∨ ((Itt K t).go i H ∧ ∃ Nx : Hp → Prop, (∀ H', Nx H' → ∃ m', m' < m ∧ W (i + 1) m' H') ∧ ∀ x H', (Itt K t).yld i H x H' → gName j x (wipe σ [j]) H' fun σ2 H2 => wipe σ2 [j] = wipe σ [j] ∧ tYes σ2 H2 fun b H3 =>
        if b = true then te σ2 H3 fun y H4 => ∃ acc, H4 D = some (.lst acc) ∧ acc.length < sizeLine ∧ Nx (upd H4 D (.lst (acc ++ [y]))) else Nx H3) := by
  have len := hd.length
  refine lc_tup (xs := xs) (Qd := Qd) (fun i H' => Keep [] H H' ∧ H' D = some (.lst (((ds.take i).map f).map V.bl))) ⟨Keep.new hD, upd_same⟩ ?_ ?_ ?_
  · rintro n H' _ ⟨k1, _⟩
    exact seqT_keep k1 Soft.nil hq
  · rintro n x H' hx ⟨k1, e1⟩
    obtain ⟨d, hd', dx⟩ := hd.get hx
    have hn : n < ds.length := by
      rcases Nat.lt_or_ge n ds.length with h | h
      · exact h
      · rw [List.getElem?_eq_none h] at hd'
        cases hd'
    refine ⟨?_, ?_⟩
    · show ((σ.set j none).set j (some x)).set j none = σ.set j none
      rw [List.set_set, List.set_set]
    · show te _ H' _
      refine he H' k1 x d (List.mem_of_getElem? hd') (dx.mono k1.same) H' Keep.refl _ fun H2 k2 => ?_
      refine ⟨_, k2.to e1, ?_, Keep.own (k1.trans k2) hD, ?_⟩
      · rw [List.length_map, List.length_map, List.length_take]
        exact Nat.lt_of_lt_of_le (show min n ds.length < 1001 by omega) (by decide)
      · rw [List.take_succ, hd', Option.toList_some, List.map_append, List.map_append]
        exact upd_same
  · rintro H' ⟨k1, e1⟩
    rw [len, List.take_length] at e1
    exact k H' k1 e1
/-- bools, item by item of a list -/
theorem lcBL {j : Nat} {σ : L2.St} {H : Hp} {t : Addr} {xs : List V} {ds : List PyData} {f : PyData → Bool} {te : TE} {D : Addr} {Qd : Hp → Prop} (hq : SqL K H t xs) (hd : DqAll K H xs ds) (hl : ds.length ≤ 1000)
    (he : ∀ H2, Keep [] H H2 → ∀ v d, d ∈ ds → Dq K H2 v d → LtB te ((σ.set j none).set j (some v)) H2 (f d)) (hD : H D = none)
    (k : ∀ H', Keep [] H H' → H' D = some (.lst ((ds.map f).map V.bl)) → Qd H') :
    ∃ W : Nat → Nat → Hp → Prop, (∃ m, W 0 m (upd H D (.lst []))) ∧ ∀ i m H, W i m H →
      ((Itl K t).stop i H ∧ Qd H) ∨ ((Itl K t).go i H ∧ ∃ Nx : Hp → Prop, (∀ H', Nx H' → ∃ m', m' < m ∧ W (i + 1) m' H') ∧ ∀ x H', (Itl K t).yld i H x H' → gName j x (wipe σ [j]) H' fun σ2 H2 => wipe σ2 [j] = wipe σ [j] ∧ tYes σ2 H2 fun b H3 =>
        if b = true then te σ2 H3 fun y H4 => ∃ acc, H4 D = some (.lst acc) ∧ acc.length < sizeLine ∧ Nx (upd H4 D (.lst (acc ++ [y]))) else Nx H3) := by
  have len := hd.length
  refine lc_list (xs := xs) (Qd := Qd) (fun i H' => Keep [] H H' ∧ H' D = some (.lst (((ds.take i).map f).map V.bl))) ⟨Keep.new hD, upd_same⟩ ?_ ?_ ?_
  · rintro n H' _ ⟨k1, _⟩
    exact k1.same.seq hq
  · rintro n x H' hx ⟨k1, e1⟩
    obtain ⟨d, hd', dx⟩ := hd.get hx
    have hn : n < ds.length := by
      rcases Nat.lt_or_ge n ds.length with h | h
      · exact h
      · rw [List.getElem?_eq_none h] at hd'
        cases hd'
    refine ⟨?_, ?_⟩
    · show ((σ.set j none).set j (some x)).set j none = σ.set j none
      rw [List.set_set, List.set_set]
    · show te _ H' _
      refine he H' k1 x d (List.mem_of_getElem? hd') (dx.mono k1.same) H' Keep.refl _ fun H2 k2 => ?_
      refine ⟨_, k2.to e1, ?_, Keep.own (k1.trans k2) hD, ?_⟩
      · rw [List.length_map, List.length_map, List.length_take]
        exact Nat.lt_of_lt_of_le (show min n ds.length < 1001 by omega) (by decide)
      · rw [List.take_succ, hd', Option.toList_some, List.map_append, List.map_append]
        exact upd_same
  · rintro H' ⟨k1, e1⟩
    rw [len, List.take_length] at e1
    exact k H' k1 e1
theorem all_id (bs : List PyData) (f : PyData → Bool) : (bs.map f).all (fun b => b) = bs.all f := by
  induction bs with
  | nil => rfl
  | cons b bs ih => rw [List.map_cons, List.all_cons, List.all_cons, ih]
/-- bools, sign by sign of a text -/
theorem lcBstr {j : Nat} {σ : L2.St} {H : Hp} {z : Str} {f : Nat → Bool} {te : TE} {D : Addr} {Qd : Hp → Prop} (hl : z.cps.size ≤ 1000)
    (he : ∀ H2, Keep [] H H2 → ∀ c, LtB te ((σ.set j none).set j (some (.str ⟨#[c]⟩))) H2 (f c)) (hD : H D = none)
    (k : ∀ H', Keep [] H H' → H' D = some (.lst ((z.cps.toList.map f).map V.bl)) → Qd H') :
    ∃ W : Nat → Nat → Hp → Prop, (∃ m, W 0 m (upd H D (.lst []))) ∧ ∀ i m H, W i m H →
      ((Its z).stop i H ∧ Qd H) ∨ ((Its z).go i H ∧ ∃ Nx : Hp → Prop, (∀ H', Nx H' → ∃ m', m' < m ∧ W (i + 1) m' H') ∧ ∀ x H', (Its z).yld i H x H' → gName j x (wipe σ [j]) H' fun σ2 H2 => wipe σ2 [j] = wipe σ [j] ∧ tYes σ2 H2 fun b H3 =>
        if b = true then te σ2 H3 fun y H4 => ∃ acc, H4 D = some (.lst acc) ∧ acc.length < sizeLine ∧ Nx (upd H4 D (.lst (acc ++ [y]))) else Nx H3) := by
  have wk : Walk (Its z) z.cps.size (fun _ => True) (fun i H x H' => H' = H ∧ ∃ c, z.cps[i]? = some c ∧ x = .str ⟨#[c]⟩) :=
    ⟨fun _ _ hi _ => hi, fun _ _ => Nat.le_refl _, fun _ _ _ _ _ _ y => y⟩
  refine lc_it wk (Qd := Qd) (fun i H' => Keep [] H H' ∧ H' D = some (.lst (((z.cps.toList.take i).map f).map V.bl))) ⟨Keep.new hD, upd_same⟩ (fun _ _ _ _ => trivial) ?_ ?_
  · rintro i x H1 H' hi ⟨k1, e1⟩ ⟨rfl, c, hc, rfl⟩
    refine ⟨?_, ?_⟩
    · show ((σ.set j none).set j _).set j none = σ.set j none
      rw [List.set_set, List.set_set]
    · show te _ H' _
      refine he H' k1 c H' Keep.refl _ fun H2 k2 => ?_
      have hc' : z.cps.toList[i]? = some c := by rw [Array.getElem?_toList]; exact hc
      refine ⟨_, k2.to e1, ?_, Keep.own (k1.trans k2) hD, ?_⟩
      · rw [List.length_map, List.length_map, List.length_take]
        exact Nat.lt_of_lt_of_le (show min i z.cps.toList.length < 1001 by omega) (by decide)
      · rw [List.take_succ, hc', Option.toList_some, List.map_append, List.map_append]
        exact upd_same
  · rintro H' ⟨k1, e1⟩
    rw [← Array.length_toList, List.take_length] at e1
    exact k H' k1 e1
/-- over a list or a tuple -/
def iSeq (K : PySem.W.Frag) (tl : TE) : TI := fun σ H R => tl σ H fun x H1 => ∃ a, x = .ref a ∧ (((∃ xs, SqL K H1 a xs) ∧ R (Itl K a) H1) ∨ ((∃ xs, SqT K H1 a xs) ∧ R (Itt K a) H1))
theorem pi_seq {X : Cx} {tg l : Expr} {tl : TE} (hl : PE X l tl) : PI X tg l (iSeq X.K tl) := by
  refine ⟨fun pins s σ H R I h => ?_⟩
  refine thn (hl.run pins s σ H _ I h) fun v s1 ⟨x, H1, I1, r1, a, e, q⟩ => ?_
  subst e
  cases r1
  have fpo : ∀ b, b ∈ [s1.heap.objs.size] → FpOk X pins H1 b := fun b hb => by
    have e : b = s1.heap.objs.size := by simpa using hb
    rw [e]
    exact I1.fpOk (Nat.le_refl _) (I1.hok.fresh (Nat.le_refl _))
  rcases q with ⟨⟨xs, hq⟩, q⟩ | ⟨⟨xs, hq⟩, q⟩
  · obtain ⟨its, rv, p, hz⟩ := I1.list hq
    exact wpAny_pyIter_list p.isList ⟨s1.heap.objs.size, [s1.heap.objs.size], _, _, H1, rfl, I1.kept (t' := s1.toks) fun b o e => Heap.get?_push_of_some _ e, turn_list a _, ⟨_, Heap.get?_push_size _ rfl, rfl, rfl⟩, fpo, q⟩
  · obtain ⟨its, rv, p, hz⟩ := I1.tuple hq
    exact wpAny_pyIter_tuple (show s1.heap.IsTuple a its.toArray from p) ⟨s1.heap.objs.size, [s1.heap.objs.size], _, _, H1, rfl, I1.kept (t' := s1.toks) fun b o e => Heap.get?_push_of_some _ e, turn_tuple a _, ⟨_, Heap.get?_push_size _ rfl, rfl, rfl⟩, fpo, q⟩
end SM
set_option Elab.async false
set_option linter.all false
set_option maxRecDepth 100000
set_option maxHeartbeats 4000000
/-! enumerate of a tuple -/
namespace PySem
open Sem (wp)
open AutoSeq1 (wpAny_loadPart')
theorem meets_enumerate_newT (l : Addr) (items : Array Value) (n : Nat) (dct : Option Addr) (sl : Array (Option Value)) :
    Meets (Builtin.«enumerate.__new__» ⟨[.type "enumerate", .ref l], []⟩) (fun _ R s => s.heap.get? l = some { cls := .type "tuple", dict := dct, data := .seq items n, slots := sl } ∧
      R (.ok (.ret (.ref (s.heap.push { cls := .type "tuple_iterator", data := .fields #[.ref l, .int 0 0] }).objs.size)))
        { s with heap := (s.heap.push { cls := .type "tuple_iterator", data := .fields #[.ref l, .int 0 0] }).push { cls := .type "enumerate", data := .fields #[.none, .bool false, .ref s.heap.objs.size, rawInt 0, .none, .none] } }) :=
  .of_wp fun prog w A R s h => by
    obtain ⟨hp, g, d, tk, os⟩ := s; obtain ⟨hl, h⟩ := h
    have hsub := sub_enumerate
    have hL : Heap.IsTuple (Shared.heap ⟨hp, g, d, tk, os⟩) l items := ⟨_, hl, rfl, n, rfl⟩
    wp_walk using wpAny_loadPart' hl
    refine wpAny_stack_any fun st => wpAny_pure ?_
    split
    · rename_i c _ _ _ _ _
      cases (c == Value.type "enumerate")
      · wp_walk using wpAny_loadPart' hl, wpAny_pyIter_tuple hL
        exact ⟨_, rfl, h⟩
      · wp_walk using wpAny_loadPart' hl, wpAny_pyIter_tuple hL
        exact ⟨_, rfl, h⟩
    · wp_walk using wpAny_loadPart' hl, wpAny_pyIter_tuple hL
      exact ⟨_, rfl, h⟩
section
variable {prog : Program} {w : World} {A : Around} {E : Value → Shared → Prop} {s : Shared}
theorem call_enumerate_tuple {l : Addr} {items : Array Value} {Q : Value → Shared → Prop} (hL : s.heap.IsTuple l items)
    (h : ∀ h', IsEnum h' (s.heap.objs.size + 1) s.heap.objs.size 0 .none → h'.IsTupleIter s.heap.objs.size l 0 → h'.objs.size = s.heap.objs.size + 2 →
      (∀ b o, s.heap.get? b = some o → h'.get? b = some o) → Q (.ref (s.heap.objs.size + 1)) { s with heap := h' }) :
    wpAny (model prog w) A (call (.type "enumerate") [.ref l]) Q E s := by
  obtain ⟨⟨c, dct, dt, sl⟩, hl, hc, n, hd⟩ := hL
  replace hc : c = .type "tuple" := hc
  replace hd : dt = .seq items n := hd
  subst hc hd
  refine callType_new F.called_enumerate (by decide) (F.typeCall_enumerate_1 _) (F.newCall_enumerate_1 _) (fun obj => F.args_object_init_2 obj _) F.entry_enumerate_new
    (meets_enumerate_newT l items n dct sl) ⟨hl, ?_⟩
  have hz : (s.heap.push { cls := .type "tuple_iterator", data := .fields #[.ref l, .int 0 0] }).objs.size = s.heap.objs.size + 1 := Heap.size_push ..
  show _ ∧ _
  rw [hz]
  have he : IsEnum ((s.heap.push { cls := .type "tuple_iterator", data := .fields #[.ref l, .int 0 0] }).push
      { cls := .type "enumerate", data := .fields #[.none, .bool false, .ref s.heap.objs.size, rawInt 0, .none, .none] }) (s.heap.objs.size + 1) s.heap.objs.size 0 .none := by
    have := Heap.get?_push_size (s.heap.push { cls := .type "tuple_iterator", data := .fields #[.ref l, .int 0 0] })
      (o := { cls := .type "enumerate", data := .fields #[.none, .bool false, .ref s.heap.objs.size, rawInt 0, .none, .none] }) rfl
    rw [hz] at this; exact this
  refine ⟨⟨_, he, rfl⟩, h _ he ⟨_, Heap.get?_push_of_some _ (Heap.get?_push_size _ rfl), rfl, rfl⟩ (by rw [Heap.size_push, hz]) fun b o x => Heap.get?_push_of_some _ (Heap.get?_push_of_some _ x)⟩
end
end PySem
set_option Elab.async false
set_option linter.all false
set_option maxRecDepth 100000
set_option maxHeartbeats 4000000
/-! for i, x in enumerate(tuple) -/
namespace SM
open PySem PySem.Spec PyProof.Rows L2
/-- the tuple at a, each item in a new pair -/
def ItT (K : PySem.W.Frag) (a : Addr) : It :=
  ⟨fun i H => ∃ (xs : List V) (x : V), SqT K H a xs ∧ xs[i]? = some x, fun i H v H' => ∃ T x, v = .ref T ∧ H T = none ∧ H' = upd H T (.tup [.int (i : Nat), x]) ∧ ∀ xs, SqT K H a xs → xs[i]? = some x, fun i H => ∃ xs : List V, SqT K H a xs ∧ xs.length = i⟩
theorem enum_ne_tup {h : Heap} {e it a : Addr} {i : Int} {old : Value} {items : Array Value} (he : IsEnum h e it i old) (ht : h.IsTuple a items) : e ≠ a := by
  intro z
  obtain ⟨o, ho, hc, _⟩ := ht
  rw [← z, he] at ho
  cases ho
  exact absurd (Value.type.inj hc) (by decide)
theorem it_ne_tup {h : Heap} {it a t : Addr} {i : Nat} {items : Array Value} (he : h.IsTupleIter it t i) (ht : h.IsTuple a items) : a ≠ it := by
  intro z
  obtain ⟨o, ho, hc, _⟩ := ht
  obtain ⟨o', ho', hc', _⟩ := he
  rw [z, ho'] at ho
  cases ho
  rw [hc'] at hc
  exact absurd (Value.type.inj hc) (by decide)
theorem turn_enumT {P : Program} {w : World} {K : PySem.W.Frag} {elts : List Expr} {kk : Nat} {tpos : Pos} (a e it : Addr) :
    Turn P w K (.Tuple elts kk tpos) (ItT K a) [e, it] e (fun i h => (∃ old, IsEnum h e it ((i : Nat) : Int) old) ∧ h.IsTupleIter it a i ∧ e ≠ it) where
  mem := by simp
  obj := fun i h st b hb => by
    obtain ⟨⟨old, he⟩, ⟨o, ho, hc, hd⟩, _⟩ := st
    have e' : b = e ∨ b = it := by simpa using hb
    rcases e' with z | z
    · rw [z]; exact ⟨_, he, fun v q => nomatch q⟩
    · rw [z]; exact ⟨o, ho, fun v q => by rw [hd] at q; cases q⟩
  keep := fun i h h' st k => let ⟨⟨old, he⟩, hi, hne⟩ := st; ⟨⟨old, k e (by simp) _ he⟩, hi.at fun o q => k it (by simp) o q, hne⟩
  item := by
    intro X hP hw hK hc i pins s σ H E I hf st hg
    subst hP hw hK
    obtain ⟨⟨old, he⟩, hit, hne⟩ := st
    obtain ⟨xs, x, hq, hx⟩ := hg
    obtain ⟨its, rv, p, hz⟩ := I.tuple hq
    obtain ⟨u, hu, ru⟩ := rv.get hx
    have hel : e < s.heap.objs.size := Heap.lt_size he
    have hil : it < s.heap.objs.size := by obtain ⟨_, q, _⟩ := hit; exact Heap.lt_size q
    have pt : s.heap.IsTuple a its.toArray := p
    have hi : i < its.toArray.size := by
      rw [List.size_toArray]
      exact (List.getElem?_eq_some_iff.mp hu).1
    have D := Draws.tuple (prog := X.prog) (w := X.w) (A := X.A.in1) (show X.A.in1.handled = none from I.ok.hd hc) it a (it_ne_tup hit pt) its.toArray
    refine wpAny_pyNext_enum_itemD D he ⟨hit, pt⟩ hi hne (by simp [hne, enum_ne_tup he pt]) fun y h' tk hy ho ⟨hit', pt'⟩ hT hsz hk => ?_
    have ey : y = u := by
      have : its.toArray[i]? = some u := by simpa using hu
      rw [this] at hy
      exact (Option.some.inj hy).symm
    subst ey
    refine ⟨_, rfl, wpAny_letOwnedTupleGo_enum (s := { s with heap := h', toks := tk + 1 }) ho fun h'' he' sb => ?_⟩
    have hT2 : h''.get? s.heap.objs.size = some { cls := .type "tuple", data := .seq #[.int i tk, y] } := (sb.2 _ (Nat.ne_of_gt hel)).trans hT
    have new : ObjOk X.prog X.w (upd H s.heap.objs.size (.tup [.int (i : Nat), x])) h'' s.heap.objs.size (.tup [.int (i : Nat), x]) :=
      ⟨by show 2 ≤ sizeLine; decide, [.int i tk, y], .cons ⟨_, rfl⟩ (.cons ru .nil), ⟨_, hT2, rfl, _, rfl⟩⟩
    have I1 : Inv X pins σ (upd H s.heap.objs.size (.tup [.int (i : Nat), x])) { s with heap := h'', toks := tk + 1 } :=
      I.turnedNew (ch := [e, it]) (fun b ob hb q => (sb.2 b (fun z => hb (by simp [z]))).trans (hk b ob (fun z => hb (by simp [z])) (fun z => hb (by simp [z])) q)) hf (Nat.le_refl _) new
    refine ⟨.ref s.heap.objs.size, _, I1, rfl, ⟨_, x, rfl, I.hok.fresh (Nat.le_refl _), rfl, fun ys hy => by rw [I.tuple_inj hy hq]; exact hx⟩, ⟨⟨y, ?_⟩, hit'.at fun o q => (sb.2 it (Ne.symm hne)).trans q, hne⟩, fun b hb => ?_⟩
    · have e1 : ((i + 1 : Nat) : Int) = (i : Int) + 1 := by omega
      rw [e1]; exact he'
    · have hb' : b < s.heap.objs.size := by
        have e' : b = e ∨ b = it := by simpa using hb
        rcases e' with z | z
        · rw [z]; exact hel
        · rw [z]; exact hil
      rw [upd_ne (Nat.ne_of_lt hb')]
      exact (hf b hb).1
  done := by
    intro X hP hw hK hc i pins s σ H E I hf st hg
    subst hP hw hK
    obtain ⟨⟨old, he⟩, hit, hne⟩ := st
    obtain ⟨xs, hq, hx⟩ := hg
    obtain ⟨its, rv, p, hz⟩ := I.tuple hq
    obtain ⟨f0, f1, f2, f3, f4, f5⟩ := hf it (by simp)
    have hl := rv.length
    have pt : s.heap.IsTuple a its.toArray := p
    have D := Draws.tuple (prog := X.prog) (w := X.w) (A := X.A.in1) (show X.A.in1.handled = none from I.ok.hd hc) it a (it_ne_tup hit pt) its.toArray
    have hn : i = its.toArray.size := by rw [List.size_toArray]; omega
    exact wpAny_pyNext_enum_endD D he (by rw [← hn]; exact ⟨hit, pt⟩) fun h' eb => ⟨rfl, I.turned (t' := s.toks) (fun b o hb q => eb b o hb q) f0 f1 f3 f4 f5⟩
  self := fun A i s Q E st h => let ⟨⟨_, he⟩, _⟩ := st; wpAny_pyIter_enum he h
/-- enumerate of a list or a tuple -/
def iEnumA (K : PySem.W.Frag) (ta : TA) : TI := fun σ H R => ta σ H fun vs H1 => ∃ a xs, vs = [.ref a] ∧ ((SqL K H1 a xs ∧ R (Ite K a) H1) ∨ (SqT K H1 a xs ∧ R (ItT K a) H1))
theorem pi_enumA {X : Cx} {e : Expr} {ta : TA} {p pos tpos : Pos} {elts : List Expr} {kk : Nat} (hg : Gl X "enumerate") (hm : X.mg "enumerate" = none) (ha : PA X [e] ta) (hs : starEach [e] X.env = [(false, eval e X.env)] := by rfl) :
    PI X (.Tuple elts kk tpos) (.Call (.Name "enumerate" p) [e] [] pos) (iEnumA X.K ta) := by
  refine ⟨fun pins s σ H R I h => ?_⟩
  refine Call_ (ld_blt I hg hm boot_enumerate (PyProof.Rows.callWith_type1 (thn (ha.run pos pins s σ H _ I h) fun us s1 ⟨vs, H1, I1, r1, q1⟩ => ?_) hs rfl))
  obtain ⟨a, xs, ex, q1⟩ := q1
  subst ex
  cases r1 with
  | cons r rr =>
    cases rr
    cases r
    have fpo : ∀ b, b = s1.heap.objs.size + 1 ∨ b = s1.heap.objs.size → s1.heap.objs.size ≤ b := by
      intro b e'
      rcases e' with z | z
      · rw [z]; exact Nat.le_add_right _ _
      · rw [z]; exact Nat.le_refl _
    rcases q1 with ⟨hq, q⟩ | ⟨hq, q⟩
    · obtain ⟨its, rv, p', hz⟩ := I1.list hq
      refine call_enumerate_list p'.isList fun h' he hit hsz hk => wpAny_pyIter_enum he ?_
      have I2 : Inv X pins σ H1 { s1 with heap := h' } := I1.kept (t' := s1.toks) hk
      refine ⟨s1.heap.objs.size + 1, [s1.heap.objs.size + 1, s1.heap.objs.size], _, _, H1, rfl, I2, turn_enum a (s1.heap.objs.size + 1) s1.heap.objs.size, ⟨⟨.none, he⟩, hit, Nat.succ_ne_self _⟩, fun b hb => ?_, q⟩
      have hle := fpo b (by simpa using hb)
      exact I1.fpOk hle (I1.hok.fresh hle)
    · obtain ⟨its, rv, p', hz⟩ := I1.tuple hq
      refine call_enumerate_tuple (show s1.heap.IsTuple a its.toArray from p') fun h' he hit hsz hk => wpAny_pyIter_enum he ?_
      have I2 : Inv X pins σ H1 { s1 with heap := h' } := I1.kept (t' := s1.toks) hk
      refine ⟨s1.heap.objs.size + 1, [s1.heap.objs.size + 1, s1.heap.objs.size], _, _, H1, rfl, I2, turn_enumT a (s1.heap.objs.size + 1) s1.heap.objs.size, ⟨⟨.none, he⟩, hit, Nat.succ_ne_self _⟩, fun b hb => ?_, q⟩
      have hle := fpo b (by simpa using hb)
      exact I1.fpOk hle (I1.hok.fresh hle)
/-- for i, x in enumerate(a tuple) -/
theorem for_enumT {K : PySem.W.Frag} {a : Addr} {xs : List V} {g : TG} {tb : TS} {D : Ends} {σ : L2.St} {H : Hp} (Pv : Nat → L2.St → Hp → Prop) (h0 : Pv 0 σ H) (hl : ∀ i σ H, i ≤ xs.length → Pv i σ H → SqT K H a xs)
    (hs : ∀ (i : Nat) (x : V) (T : Addr) (σ : L2.St) (H : Hp), xs[i]? = some x → Pv i σ H → H T = none → g (.ref T) σ (upd H T (.tup [.int (i : Int), x])) fun σ2 H2 => tb { D with nx := Pv (i + 1), ct := Pv (i + 1), bk := D.nx } σ2 H2)
    (hd : ∀ σ H, Pv xs.length σ H → D.nx σ H) :
    ∃ W : Nat → Nat → L2.St → Hp → Prop, (∃ m, W 0 m σ H) ∧ ∀ i m σ H, W i m σ H →
      ((ItT K a).stop i H ∧ D.nx σ H) ∨ ((ItT K a).go i H ∧ ∃ N : L2.St → Hp → Prop, (∀ σ' H', N σ' H' → ∃ m', m' < m ∧ W (i + 1) m' σ' H') ∧ ∀ x H', (ItT K a).yld i H x H' → g x σ H' fun σ2 H2 => tb { D with nx := N, ct := N, bk := D.nx } σ2 H2) := by
  refine ⟨fun i m σ H => m + i = xs.length ∧ Pv i σ H, ⟨xs.length, rfl, h0⟩, ?_⟩
  intro i m σ H w
  obtain ⟨em, p⟩ := w
  have sq := hl i σ H (by omega) p
  by_cases c : i < xs.length
  · right
    refine ⟨⟨xs, xs[i], sq, List.getElem?_eq_getElem c⟩, Pv (i + 1), fun σ' H' q => ⟨m - 1, by omega, by omega, q⟩, fun v H' y => ?_⟩
    obtain ⟨T, x, rfl, hT, rfl, hx⟩ := y
    exact hs i x T σ H (hx xs sq) p hT
  · left
    have e : i = xs.length := by omega
    subst e
    exact ⟨⟨xs, sq, rfl⟩, hd σ H p⟩
/-- for i, x in enumerate(a list or a tuple) that stands -/
theorem for_enumA {K : PySem.W.Frag} {a : Addr} {xs : List V} {g : TG} {tb : TS} {D : Ends} {σ : L2.St} {H : Hp} (Pv : Nat → L2.St → Hp → Prop) (hq : SqL K H a xs ∨ SqT K H a xs) (h0 : Pv 0 σ H) (hk : ∀ i σ' H', Pv i σ' H' → Keep [] H H')
    (hs : ∀ (i : Nat) (x : V) (T : Addr) (σ : L2.St) (H : Hp), xs[i]? = some x → Pv i σ H → H T = none → g (.ref T) σ (upd H T (.tup [.int (i : Int), x])) fun σ2 H2 => tb { D with nx := Pv (i + 1), ct := Pv (i + 1), bk := D.nx } σ2 H2)
    (hd : ∀ σ H, Pv xs.length σ H → D.nx σ H) :
    (SqL K H a xs ∧ ∃ W : Nat → Nat → L2.St → Hp → Prop, (∃ m, W 0 m σ H) ∧ ∀ i m σ H, W i m σ H →
      ((Ite K a).stop i H ∧ D.nx σ H) ∨ ((Ite K a).go i H ∧ ∃ N : L2.St → Hp → Prop, (∀ σ' H', N σ' H' → ∃ m', m' < m ∧ W (i + 1) m' σ' H') ∧ ∀ x H', (Ite K a).yld i H x H' → g x σ H' fun σ2 H2 => tb { D with nx := N, ct := N, bk := D.nx } σ2 H2)) ∨
    (SqT K H a xs ∧ ∃ W : Nat → Nat → L2.St → Hp → Prop, (∃ m, W 0 m σ H) ∧ ∀ i m σ H, W i m σ H →
      ((ItT K a).stop i H ∧ D.nx σ H) ∨ ((ItT K a).go i H ∧ ∃ N : L2.St → Hp → Prop, (∀ σ' H', N σ' H' → ∃ m', m' < m ∧ W (i + 1) m' σ' H') ∧ ∀ x H', (ItT K a).yld i H x H' → g x σ H' fun σ2 H2 => tb { D with nx := N, ct := N, bk := D.nx } σ2 H2)) := by
  rcases hq with hq | hq
  · exact .inl ⟨hq, for_enumL Pv h0 (fun i σ' H' _ p => (hk i σ' H' p).same.seq hq) hs hd⟩
  · exact .inr ⟨hq, for_enumT Pv h0 (fun i σ' H' _ p => seqT_keep (hk i σ' H' p) Soft.nil hq) hs hd⟩
end SM
set_option Elab.async false
set_option linter.all false
set_option maxRecDepth 100000
set_option maxHeartbeats 4000000
/-! raise C(e), C an own error that stores its argument. -/
namespace SM
open PySem PySem.Spec PyProof.Rows L2 PySem.HandSPX
/-- what raising x(..) wants: the class, its __init__ -/
structure RaiseOk (P : Program) (w : World) (K : PySem.W.Frag) (mg : Str → Option Value) (base : Heap) (x f : Str) : Prop where
  err : ErrC K (He.ga K x) (He.ma K (He.ga K x) "__init__")
  no : PySem.W.findIn K (.ref (He.ga K x)) f = some none
  ex : ∃ fd, FnOk P w K mg base CX0 1 (He.ma K (He.ga K x) "__init__") fd ["self", f] (spErr K f) ∧ Binds K fd ["self", f] []
  at_ : mg x = some (.ref (He.ga K x))
/-- the raise's reading -/
def tRaiseE (K : PySem.W.Frag) (C : Addr) (f : Str) (te : TE) (W : WX) : TS := fun _ σ H => tMkO C (spErr K f) [] (tCons te tNil) σ H fun cls d H' => W cls d σ H'
theorem ps_raiseErr {X : Cx} {W : WX} {x f : Str} {e : Expr} {te : TE} {p pos pos' : Pos} (R : RaiseOk X.prog X.w X.K X.mg X.base x f) (hc : X.calm = true) (hr : Room 2 X.A) (tk : Takes X W) (he : PE X e te) (hg : Gl X x := by rfl) (hdb : (x == ("__debug__" : Str)) = false := by decide)
    (hs : starEach [e] X.env = (false, eval e X.env) :: starEach [] X.env := by rfl) (hpl : (backTo pos (starEach [] X.env)).any (·.1) = false := by rfl) :
    PS X (.Raise (some (.Call (.Name x p) [e] [] pos)) none pos') (tRaiseE X.K (He.ga X.K x) f te W) := by
  obtain ⟨T, no, ⟨fd, F, b⟩, at_⟩ := R
  exact ps_raise hc tk (pmk_oex (ds := []) T.ox T.iC T.tI F hr b .nil pass0 hg at_ (pa_cons he pa_nil hs) hdb hs hpl)
theorem upd_del {H : Hp} {a d : Addr} {o1 o2 u v : HO} (ha : H a = none) : upd (del (upd (upd (upd H a o1) d u) a o2) a) d v = upd H d v := by
  funext b
  by_cases hd : b = d
  · rw [hd, upd_same, upd_same]
  · rw [upd_ne hd, upd_ne hd]
    by_cases hb : b = a
    · rw [hb, del_same, ha]
    · rw [del_ne hb, upd_ne hb, upd_ne hd, upd_ne hb]
/-- once its argument is read: what the raise tells -/
theorem raise_out {K : PySem.W.Frag} {C fI : Addr} {f : Str} {H1 : Hp} {v : V} {W : Value → Option Addr → Hp → Prop} (T : ErrC K C fI) (no : PySem.W.findIn K (.ref C) f = some none) (q : ∀ d, H1 d = none → W (.ref C) (some d) (upd H1 d (.xd [(f, v)]))) :
    [v].length ≤ 1000 ∧ ∀ a, H1 a = none → spErr K f (.ref a :: ([v] ++ [])) (upd H1 a (exo a C none))
      (fun y H2 => y = .non ∧ ∃ (d : Addr) (fs : List (Str × V)), H2 a = some (exo a C (some d)) ∧ H2 d = some (exd d fs) ∧ H1 d = none ∧ W (.ref C) (some d) (upd (del H2 a) d (.xd fs))) (fun _ _ _ => False) := by
  refine ⟨by simp, fun a ha => ⟨a, C, v, rfl, T.ox, no, upd_same, fun dx n ne => ⟨rfl, dx, [(f, v)], upd_same, ?_, ?_, ?_⟩⟩⟩
  · rw [upd_ne ne, upd_same]
  · rw [upd_ne ne] at n
    exact n
  · rw [upd_ne ne] at n
    rw [upd_del ha]
    exact q dx n
end SM
set_option Elab.async false
set_option linter.all false
set_option maxRecDepth 100000
set_option maxHeartbeats 6400000
/-! set(a list or a tuple of texts): how many different ones. -/
namespace SM
open PySem PySem.Spec PyProof.Rows
def addS (acc : List Str) (x : Str) : List Str := if acc.any (· == x) = true then acc else acc ++ [x]
/-- the different ones, as they come -/
def dedS (xs : List Str) : List Str := xs.foldl addS []
theorem dedS_snoc (xs : List Str) (x : Str) : dedS (xs ++ [x]) = addS (dedS xs) x := by
  rw [dedS, List.foldl_append]
  rfl
theorem addS_len (acc : List Str) (x : Str) : (addS acc x).length = if acc.any (· == x) = true then acc.length else acc.length + 1 := by
  unfold addS
  split <;> simp
theorem addS_le (acc : List Str) (x : Str) : (addS acc x).length ≤ acc.length + 1 := by
  rw [addS_len]
  split <;> omega
theorem dedS_le (xs : List Str) : ∀ i, (dedS (xs.take i)).length ≤ i
  | 0 => by simp [dedS]
  | i + 1 => by
    have ih := dedS_le xs i
    rw [List.take_succ]
    cases e : xs[i]? with
    | none => rw [Option.toList_none, List.append_nil]; omega
    | some x =>
      rw [Option.toList_some, dedS_snoc]
      have := addS_le (dedS (xs.take i)) x
      omega
theorem addS_any (acc : List Str) (x k : Str) : (addS acc x).any (· == k) = (acc.any (· == k) || decide (k = x)) := by
  unfold addS
  split
  · rename_i h
    by_cases e : k = x
    · subst e
      rw [h]
      rfl
    · rw [decide_eq_false e, Bool.or_false]
  · rw [List.any_append]
    congr 1
    rw [List.any_cons, List.any_nil, Bool.or_false]
    by_cases e : k = x
    · subst e
      simp
    · rw [decide_eq_false e]
      exact beq_eq_false_iff_ne.mpr fun z => e z.symm
section
variable {prog : Program} {w : World} {A : Around} {R : Result → Shared → Prop} {I : Addr} {fp wr : List Addr} {G : Array GenState → Array GenState → Prop} {P : Nat → Value → Prop} {St : Nat → Shared → Prop}
/-- each text of the walk is added -/
theorem set_words (S : Addr) (xs : List Str) (W : WalksS prog w A.in1 I fp wr G xs.length P St) (out : S ∉ fp) (few : xs.length + 1 < scanBound) (hval : ∀ i v, P i v → ∃ x t, xs[i]? = some x ∧ v = .str x t) :
    ∀ (k i : Nat) (s : Shared), xs.length - i = k → i ≤ xs.length → St i s → s.heap.SetOf (PySem.strKind prog w) S (fun y => (dedS (xs.take i)).any (· == y)) (dedS (xs.take i)).length →
      (∀ s', Moved (S :: wr) G s s' → s'.heap.SetOf (PySem.strKind prog w) S (fun y => (dedS xs).any (· == y)) (dedS xs).length → R (.ok (.ret .none)) s') →
      codeAny (model prog w) A (.builtin "set.update.loop" ⟨[.ref S, .ref I], []⟩) R s := by
  have nw : S ∉ wr := fun h => out (W.sub _ h)
  have up : ∀ b ∈ wr, b ∈ S :: wr := fun b hb => List.mem_cons_of_mem _ hb
  have stays : ∀ {s s' : Shared} {f : Str → Bool} {n : Nat}, Moved wr G s s' → s.heap.SetOf (PySem.strKind prog w) S f n → s'.heap.SetOf (PySem.strKind prog w) S f n := by
    intro s s' f n m hS
    obtain ⟨o, es, ep, t, ho, rest⟩ := hS
    exact ⟨o, es, ep, t, m.heap S _ nw ho, rest⟩
  intro k
  induction k with
  | zero =>
    intro i s hk hi hst hS hR
    refine codeAny_builtin F.entry_set_update_loop ?_
    rw [Around.under_plainId F.plain_set_update_loop _]
    show wpAny _ A.in1 (pyNext (.ref I) >>= _) _ _ s
    have ei : i = xs.length := by omega
    subst ei
    rw [List.take_length] at hS
    exact wpAny_bind (W.done s _ _ hst fun s' m => wpAny_pure (hR s' (m.mono up) (stays m hS)))
  | succ k ih =>
    intro i s hk hi hst hS hR
    refine codeAny_builtin F.entry_set_update_loop ?_
    rw [Around.under_plainId F.plain_set_update_loop _]
    show wpAny _ A.in1 (pyNext (.ref I) >>= _) _ _ s
    refine wpAny_bind (W.item i s _ _ (by omega) hst fun v s' hP hst' m => ?_)
    obtain ⟨x, t, hx, rfl⟩ := hval i v hP
    show wpAny _ A.in1 (holding [Value.str x t] (setAdd S (.str x t)) >>= _) _ _ s'
    refine wpAny_bind (wpAny_holding ?_)
    unfold setAdd
    refine wpAny_holding (wpAny_bind ((PySem.strKind prog w).pyHash (k := x) (strKind_is _ _ _ _) ?_))
    have hS' := stays m hS
    have room : (dedS (xs.take i)).length + 1 < scanBound := by
      have := dedS_le xs i
      omega
    refine wpAny_setAddHashed_of (knd := PySem.strKind prog w) (s := { s' with toks := s'.toks + 1 }) (strKind_is _ _ _ _) rfl hS' room fun h' sb hS2 => ?_
    have next : dedS (xs.take (i + 1)) = addS (dedS (xs.take i)) x := by
      rw [List.take_succ, hx, Option.toList_some, dedS_snoc]
    have hS3 : h'.SetOf (PySem.strKind prog w) S (fun y => (dedS (xs.take (i + 1))).any (· == y)) (dedS (xs.take (i + 1))).length :=
      SetOf_congr hS2 (fun y => by rw [next, addS_any]) (by rw [next, addS_len])
    refine wpAny_pure ⟨plainId_quiet F.plain_set_update_loop _, ih (i + 1) _ (by omega) (by omega) (W.frame _ s' _ _ hst' (Nat.le_succ _) fun b hb o e => ?_) hS3 fun s'' m2 hE => hR s'' (Moved.trans W.gtrans ((m.mono up).then_heap (Nat.le_succ _) fun b o hb e => ?_) m2) hE⟩
    · exact (sb.2 b fun z : b = S => out (z ▸ hb)).trans e
    · exact (sb.2 b fun z : b = S => hb (by rw [z]; exact List.mem_cons_self)).trans e
end
section
variable {prog : Program} {w : World} {A : Around} {E : Value → Shared → Prop} {s : Shared}
/-- what the fresh set holds once __init__ is through -/
def Filled (prog : Program) (w : World) (s : Shared) (xs : List Str) (E : Value → Shared → Prop) : Result → Shared → Prop := wants (fun r s₂ => r = .none ∧ ∃ h' tk, s₂ = { s with heap := h', toks := tk } ∧
  h'.SetOf (PySem.strKind prog w) s.heap.objs.size (fun y => (dedS xs).any (· == y)) (dedS xs).length ∧ (∀ b o, s.heap.get? b = some o → h'.get? b = some o)) E
theorem call_set_words {l : Addr} {items : Array Value} {xs : List Str} {Q : Value → Shared → Prop} (hh : A.handled = none) (hl : s.heap.IsList l items ∨ s.heap.IsTuple l items) (hi : StrsAre items.toList xs) (few : xs.length + 1 < scanBound)
    (h : ∀ (h' : Heap) (tk : Nat), h'.SetOf (PySem.strKind prog w) s.heap.objs.size (fun y => (dedS xs).any (· == y)) (dedS xs).length → (∀ b o, s.heap.get? b = some o → h'.get? b = some o) → Q (.ref s.heap.objs.size) { s with heap := h', toks := tk }) :
    wpAny (model prog w) A (call (.type "set") [.ref l]) Q E s := by
  have len : items.size = xs.length := by rw [← StrsAre.len_eq hi, Array.length_toList]
  have hval : ∀ (i : Nat) (v : Value), items[i]? = some v → ∃ x t, xs[i]? = some x ∧ v = .str x t := fun i v hv => by
    have hi' : i < xs.length := by rw [← len]; exact (Array.getElem?_eq_some_iff.mp hv).1
    obtain ⟨t, e⟩ := SS.strs_at hi i v (by rw [Array.getElem?_toList]; exact hv)
    refine ⟨xs[i], t, List.getElem?_eq_getElem hi', ?_⟩
    rw [e, List.getD_eq_getElem?_getD, List.getElem?_eq_getElem hi']
    rfl
  have C := PySem.F.called_set
  obtain ⟨c, tl, hmro⟩ := C.mro
  have hmade := C.made
  have hsub := C.sub
  refine wpAny_call (codeAny_of_tree ?_)
  show wpAny _ _ (callAny (.type "set") _) _ _ _
  refine wpAny_pure ⟨Code.quiet_builtin _ (by decide +kernel), codeAny_builtin PySem.F.entry_type_call ?_⟩
  rw [Around.under_plain (weight_type_call_type "set" [.ref l] []) rfl]
  have h1 := C.notType
  have h2 := C.canCreate
  have hct := PySem.F.typeCall_set_1 (.ref l)
  repeat (any_goals (first | assumption | wp_step))
  refine codeAny_mono (code_set_new_1 (.ref l) (E := E) (Q₁ := fun obj s₁ => ∃ led : Bool, obj = .ref s.heap.objs.size ∧ s₁ = { s with heap := s.heap.push { cls := .type "set", dict := none, data := .set #[] 0 (.fresh 0 0 led) } }) fun led => ⟨led, rfl, rfl⟩) fun r s₁ hr => ?_
  cases r with
  | error e => exact hr
  | ok fl =>
    cases fl with
    | next => exact hr.elim
    | brk => exact hr.elim
    | cont => exact hr.elim
    | ret obj =>
      obtain ⟨led, rfl, rfl⟩ := hr
      have hS : (s.heap.push { cls := .type "set", dict := none, data := .set #[] 0 (.fresh 0 0 led) }).get? s.heap.objs.size = some { cls := .type "set", dict := none, data := .set #[] 0 (.fresh 0 0 led) } := Heap.get?_push_size _ rfl
      have hT : Shared.TypeIs { s with heap := s.heap.push { cls := .type "set", dict := none, data := .set #[] 0 (.fresh 0 0 led) } } (.ref s.heap.objs.size) "set" := ⟨_, hS, rfl⟩
      have hli := C.init.lookup
      have hbi := C.init.bind (.ref s.heap.objs.size)
      repeat (any_goals (first | assumption | wp_step))
      refine codeAny_mono (codeAny_call_builtin (R := Filled prog w s xs E) C.init.plain PySem.F.entry_set_init (check_set_init_1 hT ?_)) fun r₂ s₂ hr₂ => ?_
      · have hz : (s.heap.push { cls := .type "set", dict := none, data := .set #[] 0 (.fresh 0 0 led) }).objs.size = s.heap.objs.size + 1 := Heap.size_push ..
        rcases hl with hl | hl
        · obtain ⟨⟨oc, od, dt, sl⟩, hol, hc, nl, hd⟩ := hl
          simp only at hc hd
          subst hc hd
          have kept := Heap.get?_push_of_some { cls := .type "set", dict := none, data := .set #[] 0 (.fresh 0 0 led) } hol
          have s1 := PySem.F.sub_list_set
          have s2 := PySem.F.sub_list_frozenset
          have nd : (Value.type "list" == Value.type "dict") = false := by decide
          have hl1 : (s.heap.push { cls := .type "set", dict := none, data := .set #[] 0 (.fresh 0 0 led) }).IsList l items := ⟨_, kept, rfl, nl, rfl⟩
          have below : l < s.heap.objs.size := Heap.lt_size hol
          unfold Builtin.«set.__init__» noKeywords Builtin.Frozenset.updateFrom
          generalize hPI : pyIter = PI
          wp_walk
          subst hPI
          refine wpAny_pyIter_list hl1 (wpAny_bind (wpAny_runValue ?_))
          have apart : l ≠ (s.heap.push { cls := .type "set", dict := none, data := .set #[] 0 (.fresh 0 0 led) }).objs.size := by
            rw [hz]
            exact Nat.ne_of_lt (Nat.lt_succ_of_lt below)
          have W0 := (Walks.list (prog := prog) (w := w) (A := A.in1.in1.in1) (by simp [hh]) _ l apart items).toS
          rw [len] at W0
          refine set_words s.heap.objs.size xs W0 (by rw [hz]; simp only [List.mem_cons, List.not_mem_nil, or_false, not_or]; exact ⟨Nat.ne_of_lt (Nat.lt_succ_self _), Nat.ne_of_gt below⟩) few hval xs.length 0 _ rfl (Nat.zero_le _) ⟨⟨_, Heap.get?_push_size _ rfl, rfl, rfl⟩, hl1.push _⟩ ?_ fun s' m hE => ?_
          · exact SetOf_congr ((setObjOf_fresh (knd := PySem.strKind prog w) led).setOf (Heap.get?_push_of_some _ hS) (by unfold scanBound; omega)) (fun _ => rfl) rfl
          · obtain ⟨h', g', d', tk', os'⟩ := s'
            have eg : g' = s.gens := m.gens
            have ed : d' = s.drawn := m.drawn
            have eo : os' = s.os := m.os
            subst eg ed eo
            show wpAny _ _ _ _ _ _
            refine wpAny_pure ?_
            show wpAny _ _ (ret Value.none) _ _ _
            refine wpAny_pure ⟨rfl, h', tk', rfl, hE, fun b o e => ?_⟩
            have hb := Heap.lt_size e
            exact m.heap b o (by rw [hz]; simp only [List.mem_cons, List.not_mem_nil, or_false, not_or]; exact ⟨Nat.ne_of_lt hb, Nat.ne_of_lt (Nat.lt_succ_of_lt hb)⟩) (Heap.get?_push_of_some _ (Heap.get?_push_of_some _ e))
        · obtain ⟨⟨oc, od, dt, sl⟩, hol, hc, nl, hd⟩ := hl
          simp only at hc hd
          subst hc hd
          have kept := Heap.get?_push_of_some { cls := .type "set", dict := none, data := .set #[] 0 (.fresh 0 0 led) } hol
          have s1 := PySem.F.sub_tuple_set
          have s2 := PySem.F.sub_tuple_frozenset
          have nd : (Value.type "tuple" == Value.type "dict") = false := by decide
          have hl1 : (s.heap.push { cls := .type "set", dict := none, data := .set #[] 0 (.fresh 0 0 led) }).IsTuple l items := ⟨_, kept, rfl, nl, rfl⟩
          have below : l < s.heap.objs.size := Heap.lt_size hol
          unfold Builtin.«set.__init__» noKeywords Builtin.Frozenset.updateFrom
          generalize hPI : pyIter = PI
          wp_walk
          subst hPI
          refine wpAny_pyIter_tuple hl1 (wpAny_bind (wpAny_runValue ?_))
          have apart : l ≠ (s.heap.push { cls := .type "set", dict := none, data := .set #[] 0 (.fresh 0 0 led) }).objs.size := by
            rw [hz]
            exact Nat.ne_of_lt (Nat.lt_succ_of_lt below)
          have W0 := (Walks.tuple (prog := prog) (w := w) (A := A.in1.in1.in1) (by simp [hh]) _ l apart items).toS
          rw [len] at W0
          refine set_words s.heap.objs.size xs W0 (by rw [hz]; simp only [List.mem_cons, List.not_mem_nil, or_false, not_or]; exact ⟨Nat.ne_of_lt (Nat.lt_succ_self _), Nat.ne_of_gt below⟩) few hval xs.length 0 _ rfl (Nat.zero_le _) ⟨⟨_, Heap.get?_push_size _ rfl, rfl, rfl⟩, hl1.push _⟩ ?_ fun s' m hE => ?_
          · exact SetOf_congr ((setObjOf_fresh (knd := PySem.strKind prog w) led).setOf (Heap.get?_push_of_some _ hS) (by unfold scanBound; omega)) (fun _ => rfl) rfl
          · obtain ⟨h', g', d', tk', os'⟩ := s'
            have eg : g' = s.gens := m.gens
            have ed : d' = s.drawn := m.drawn
            have eo : os' = s.os := m.os
            subst eg ed eo
            show wpAny _ _ _ _ _ _
            refine wpAny_pure ?_
            show wpAny _ _ (ret Value.none) _ _ _
            refine wpAny_pure ⟨rfl, h', tk', rfl, hE, fun b o e => ?_⟩
            have hb := Heap.lt_size e
            exact m.heap b o (by rw [hz]; simp only [List.mem_cons, List.not_mem_nil, or_false, not_or]; exact ⟨Nat.ne_of_lt hb, Nat.ne_of_lt (Nat.lt_succ_of_lt hb)⟩) (Heap.get?_push_of_some _ (Heap.get?_push_of_some _ e))
      · cases r₂ with
        | error e => exact hr₂
        | ok fl₂ =>
          cases fl₂ with
          | next => exact hr₂.elim
          | brk => exact hr₂.elim
          | cont => exact hr₂.elim
          | ret r =>
            obtain ⟨rfl, h', tk, rfl, hS', hk'⟩ := hr₂
            repeat (any_goals (first | assumption | wp_step))
            exact h _ _ hS' hk'
end
end SM
set_option Elab.async false
set_option linter.all false
set_option maxRecDepth 100000
set_option maxHeartbeats 2000000
/-! len(set(a list or a tuple of texts)) -/
namespace SM
open PySem PySem.Spec PyProof.Rows L2
def tLenSetW (K : PySem.W.Frag) (ta : TE) : TE := fun σ H Q => ta σ H fun x H1 => ∃ l, ∃ xs : List Str, x = .ref l ∧ (SqL K H1 l (xs.map V.str) ∨ SqT K H1 l (xs.map V.str)) ∧ xs.length ≤ 100 ∧ Q (.int (dedS xs).length) H1
section
variable {X : Cx}
theorem pe_lenSetW {a : Expr} {ta : TE} {p p2 q pos : Pos} (hc : X.calm = true) (hg : Gl X "len") (hm : X.mg "len" = none) (hg2 : Gl X "set") (hm2 : X.mg "set" = none) (ha : PE X a ta)
    (na : starEach [a] X.env = (false, eval a X.env) :: starEach [] X.env := by rfl) : PE X (.Call (.Name "len" p) [.Call (.Name "set" p2) [a] [] q] [] pos) (tLenSetW X.K ta) := by
  refine ⟨fun pins s σ H Q I h => ?_⟩
  refine Call_ (ld_blt I hg hm boot_len (callWith_builtin1 (args_cons ?_ rfl) rfl rfl))
  refine Call_ (ld_blt I hg2 hm2 boot_set (callWith_type1 (args_cons (thn (ha.run pins s σ H _ I h) fun v s1 z => args_nil ?_) na) na rfl))
  obtain ⟨x, H1, I1, r1, l, xs, rfl, hq, few, want⟩ := z
  cases r1
  have room : xs.length + 1 < scanBound := by unfold scanBound; omega
  have look : ∃ its : List Value, Vals (xs.map V.str) its ∧ (s1.heap.IsList l its.toArray ∨ s1.heap.IsTuple l its.toArray) := by
    rcases hq with hq | hq
    · obtain ⟨its, r, pl, _⟩ := I1.list hq
      exact ⟨its, r, .inl pl.isList⟩
    · obtain ⟨its, r, pl, _⟩ := I1.tuple hq
      exact ⟨its, r, .inr pl⟩
  obtain ⟨its, r, there⟩ := look
  refine call_set_words (I1.ok.hd hc) there (by simpa using strsAre_of r) room fun h' tk hS kept => args_nil ?_
  obtain ⟨o, es, ep, t, ho, hex, hd, _, _, _, hf, hn⟩ := hS
  have I2 : Inv X pins σ H1 { s1 with heap := h', toks := tk } := I1.kept kept
  have le : (dedS xs).length ≤ 100 := by
    have := dedS_le xs xs.length
    rw [List.take_length] at this
    omega
  exact call_len_set ho hex hd hf (by rw [hn] <;> omega) ⟨.int (dedS xs).length, H1, I2.tok _, ⟨_, by rw [hn]⟩, want⟩
end
theorem addS_same {acc : List Str} {x : Str} (h : x ∈ acc) : addS acc x = acc := by
  unfold addS
  rw [if_pos]
  exact List.any_eq_true.mpr ⟨x, h, by simp⟩
theorem addS_new {acc : List Str} {x : Str} (h : x ∉ acc) : addS acc x = acc ++ [x] := by
  unfold addS
  rw [if_neg]
  intro z
  obtain ⟨y, hy, e⟩ := List.any_eq_true.mp z
  exact h (by rw [← eq_of_beq e]; exact hy)
end SM
set_option Elab.async false
set_option linter.all false
set_option maxRecDepth 100000
set_option maxHeartbeats 2000000
/-! A tuple of texts at the top, as the head looks at it. -/
namespace SM
open PySem PySem.Spec PyProof.Rows L2
def strV : Value → Option Str
  | .str x _ => some x
  | _ => none
def kTup? (K : PySem.W.Frag) (a : Addr) (ws : List Str) : Bool := match K.lookup a with
  | some o => decide (o.cls = .type "tuple") && (match o.data with
    | .seq its _ => decide (its.toList.map strV = ws.map some)
    | _ => false)
  | none => false
theorem strV_vals : ∀ {us : List Value} {ws : List Str}, us.map strV = ws.map some → Vals (ws.map V.str) us
  | [], [], _ => .nil
  | [], _ :: _, h => by simp at h
  | _ :: _, [], h => by simp at h
  | u :: us, w :: ws, h => by
    simp only [List.map_cons, List.cons.injEq] at h
    refine .cons ?_ (strV_vals h.2)
    cases u with
    | str x t =>
      have e : x = w := Option.some.inj h.1
      subst e
      exact ⟨t, rfl⟩
    | _ => cases h.1
theorem kTup_ok {K : PySem.W.Frag} {a : Addr} {ws : List Str} (h : kTup? K a ws = true) (n : Nat.ble ws.length 100 = true) (H : Hp) : SqT K H a (ws.map V.str) := by
  unfold kTup? at h
  split at h
  · rename_i o ho
    rw [Bool.and_eq_true, decide_eq_true_eq] at h
    obtain ⟨hc, h⟩ := h
    split at h
    · rename_i its k hd
      have e := of_decide_eq_true h
      have v := strV_vals e
      refine .inr ⟨o, its, k, ho, hc, hd, ?_, v⟩
      have l := congrArg List.length e
      rw [List.length_map, List.length_map, Array.length_toList] at l
      rw [l]
      exact Nat.le_trans (Nat.le_of_ble_eq_true n) (by decide)
    · cases h
  · cases h
end SM
set_option Elab.async false
set_option linter.all false
set_option maxRecDepth 100000
set_option maxHeartbeats 2000000
/-! a slice of a tuple that is the whole of it -/
namespace HT
open PySem PyProof.Rows
open PySem.SeqAt
section
variable {prog : Program} {w : World} {A : Around} {E : Value → Shared → Prop} {s : Shared}
theorem getItem_tuple_all {t sl : Addr} {items : Array Value} {vl vu : Value} {lo hi : Option Int} {Q : Value → Shared → Prop} (ht : IsTup s.heap t items) (hs : s.heap.IsSliceOf sl vl vu .none) (pl : IsPart vl lo) (pu : IsPart vu hi)
    (hw : sIx items.size 0 lo = 0 ∧ sIx items.size items.size hi = items.size) (h : Q (.ref t) s) : wpAny (model prog w) A (getItem (.ref t) (.ref sl)) Q E s := by
  obtain ⟨w1, w2⟩ := hw
  obtain ⟨os, hos, hcs, hds⟩ := id hs
  have hTs : s.TypeIs (.ref sl) "slice" := ⟨os, hos, hcs⟩
  unfold getItem
  try with_reducible refine wpAny_holding ?_
  first | refine wpAny_bind (wpAny_pure ?_) | skip
  refine wpAny_bind (wpAny_sequenceKey ht.typeIs (by decide) ?_)
  refine wpAny_bind (wpAny_callSpecial?_slot (name := Str.ofString "__getitem__") ht.typeIs PyProof.Rows.slot_tuple_getitem
    (wpAny_call_entry PyProof.Rows.slot_tuple_getitem ht.typeIs entry_tuple_getitem ?_ (args_tuple_getitem _ _)))
  show wpAny _ _ (Builtin.Tuple.tupleItemsOf (.ref t) >>= _) _ _ s
  refine wpAny_bind (tupleItemsOf_ ht ?_)
  refine wpAny_bind (wpAny_typeOf hTs ?_)
  rw [if_pos (by decide)]
  refine wpAny_bind (sliceApplied_gen hs pl pu ?_)
  have yes : (((sIx items.size 0 lo : Nat) : Int) == 0 && (1 : Int) == 1 && (sIx items.size items.size hi - sIx items.size 0 lo) == items.size) = true := by
    rw [w1, w2]
    simp
  show wpAny _ _ (if (((sIx items.size 0 lo : Nat) : Int) == 0 && (1 : Int) == 1 && (sIx items.size items.size hi - sIx items.size 0 lo) == items.size) = true then _ else _) _ _ s
  rw [if_pos yes]
  have ex : ∀ {B : Around} {F : Value → Shared → Prop} {R : Bool → Shared → Prop}, R true s → wpAny (model prog w) B (Builtin.Tuple.tupleIsExact (.ref t)) R F s := fun r => by
    unfold Builtin.Tuple.tupleIsExact
    exact wpAny_bind (wpAny_typeOf ht.typeIs (wpAny_pure r))
  refine wpAny_bind (ex ?_)
  rw [if_pos rfl]
  exact wpAny_bind (wpAny_rule (wpAny_pure ⟨_, rfl, wpAny_pure h⟩))
end
end HT
namespace SM
open PySem PySem.Spec PyProof.Rows L2
section
variable {X : Cx}
/-- t[lo:hi] of a tuple: t itself where it is the whole, else a new one -/
def rSlW (K : PySem.W.Frag) : V → Option Int → Option Int → Hp → VK → Prop := fun x lo hi H Q => ∃ a xs, x = .ref a ∧ SqT K H a xs ∧ (HT.sIx xs.length 0 lo = 0 ∧ HT.sIx xs.length xs.length hi = xs.length) ∧ Q (.ref a) H
theorem sl_tupW : SlR X (rSlW X.K) := by
  intro pins s σ H x v vl vu lo hi sl Q I rx hs pl pu h
  obtain ⟨a, xs, rfl, hx, hw, q⟩ := h
  cases rx
  obtain ⟨its, r, ht, hz⟩ := I.tuple hx
  have len : its.toArray.size = xs.length := by rw [List.size_toArray]; exact r.length.symm
  refine ⟨"tuple", _, PyProof.Rows.slot_tuple_getitem.lookup, ht.typeIs, ?_⟩
  exact HT.getItem_tuple_all ht hs pl pu (by rw [len]; exact hw) ⟨.ref a, H, I, rfl, q⟩
/-- t[lo:hi], whole or not -/
def rSlA (K : PySem.W.Frag) : V → Option Int → Option Int → Hp → VK → Prop := fun x lo hi H Q => rSlT K x lo hi H Q ∨ rSlW K x lo hi H Q
theorem sl_tupA : SlR X (rSlA X.K) := sl_tup.or sl_tupW
end
end SM
set_option Elab.async false
set_option linter.all false
set_option maxRecDepth 100000
set_option maxHeartbeats 2000000
/-! Displays with lists and dicts in them, told in the heap without what changes. -/
namespace SM
open PySem PySem.Spec PyProof.Rows L2
/-- the heap without some places -/
def off (m : List Addr) (H : Hp) : Hp := fun b => if b ∈ m then none else H b
theorem off_in {m : List Addr} {H : Hp} {b : Addr} (h : b ∈ m) : off m H b = none := if_pos h
theorem off_out {m : List Addr} {H : Hp} {b : Addr} (h : b ∉ m) : off m H b = H b := if_neg h
theorem off_some {m : List Addr} {H : Hp} {b : Addr} {o : HO} (h : off m H b = some o) : b ∉ m ∧ H b = some o := by
  by_cases z : b ∈ m
  · rw [off_in z] at h
    cases h
  · rw [off_out z] at h
    exact ⟨z, h⟩
theorem Keep.off {m : List Addr} {H H' : Hp} (k : Keep m H H') : Same (off m H) (off m H') := fun b o e => by
  obtain ⟨n, e⟩ := off_some e
  rw [off_out n]
  exact k b o n e
theorem Keep.off0 {m : List Addr} {H H' : Hp} (k : Keep [] H H') : Same (SM.off m H) (SM.off m H') := (Keep.of_nil k).off
theorem off_same {m : List Addr} {H : Hp} : Same (off m H) H := fun b o e => (off_some e).2
theorem off_nil {H : Hp} : Same H (off [] H) := fun b o e => by rw [off_out (by simp)]; exact e
def Live (m : List Addr) (H : Hp) : Prop := ∀ b ∈ m, H b ≠ none
theorem Live.nil {H : Hp} : Live [] H := fun b z => by cases z
theorem Live.one {H : Hp} {a : Addr} {o : HO} (h : H a = some o) : Live [a] H := fun b z => by
  rw [List.mem_singleton.mp z, h]
  exact fun e => by cases e
theorem Live.cons {m : List Addr} {H : Hp} {a : Addr} {o : HO} (h : H a = some o) (l : Live m H) : Live (a :: m) H := fun b z => by
  rcases List.mem_cons.mp z with rfl | z
  · rw [h]
    exact fun e => by cases e
  · exact l b z
theorem Live.keep {m : List Addr} {H H' : Hp} (l : Live m H) (k : Keep [] H H') : Live m H' := fun b z e => by
  cases h : H b with
  | none => exact l b z h
  | some o =>
    rw [k b o (by simp) h] at e
    cases e
theorem Live.out {m : List Addr} {H : Hp} {p : Addr} (l : Live m H) (h : H p = none) : p ∉ m := fun z => l p z h
theorem Src.live {H : Hp} {a : Addr} (h : Src H a) : Live [a] H := by
  obtain ⟨x, y, e, _⟩ := h
  exact Live.one e
theorem off_new {m : List Addr} {H : Hp} {p : Addr} {o : HO} (l : Live m H) (h : H p = none) : off m (upd H p o) p = some o := by
  rw [off_out (l.out h)]
  exact upd_same
theorem off_at {m : List Addr} {H H' : Hp} {p : Addr} {o : HO} (l : Live m H) (h : H p = none) (e : H' p = some o) : off m H' p = some o := by
  rw [off_out (l.out h)]
  exact e
variable {K : PySem.W.Frag} {m : List Addr} {σ : L2.St} {H0 : Hp}
theorem DqAll.append : ∀ {H : Hp} {vs us : List V} {ds es : List PyData}, DqAll K H vs ds → DqAll K H us es → DqAll K H (vs ++ us) (ds ++ es)
  | _, _, _, _, _, .nil, h => h
  | _, _, _, _, _, .cons h t, z => .cons h (DqAll.append t z)
theorem DqAll.take : ∀ {H : Hp} (n : Nat) {vs : List V} {ds : List PyData}, DqAll K H vs ds → DqAll K H (vs.take n) (ds.take n)
  | _, 0, _, _, _ => .nil
  | _, _ + 1, _, _, .nil => .nil
  | _, n + 1, _, _, .cons h t => .cons h (DqAll.take n t)
theorem DqAll.drop : ∀ {H : Hp} (n : Nat) {vs : List V} {ds : List PyData}, DqAll K H vs ds → DqAll K H (vs.drop n) (ds.drop n)
  | _, 0, _, _, h => h
  | _, _ + 1, _, _, .nil => .nil
  | _, n + 1, _, _, .cons _ t => DqAll.drop n t
theorem DqAll.strs {H : Hp} : ∀ (xs : List Str), DqAll K H (xs.map V.str) (xs.map PyData.str)
  | [] => .nil
  | x :: xs => .cons (.str x) (DqAll.strs xs)
theorem DqAll.rep {H : Hp} {vs : List V} {ds : List PyData} (h : DqAll K H vs ds) : ∀ n, DqAll K H (List.replicate n vs).flatten (List.replicate n ds).flatten
  | 0 => .nil
  | n + 1 => by
    rw [List.replicate_succ, List.replicate_succ, List.flatten_cons, List.flatten_cons]
    exact h.append (h.rep n)
/-- from H0 on, te gives new data -/
def LqE (K : PySem.W.Frag) (m : List Addr) (te : TE) (σ : L2.St) (H0 : Hp) (d : PyData) : Prop := ∀ H, Keep [] H0 H → ∀ Q : VK, (∀ v H', Keep [] H H' → Dq K (off m H') v d → Q v H') → te σ H Q
def LqA (K : PySem.W.Frag) (m : List Addr) (ta : TA) (σ : L2.St) (H0 : Hp) (ds : List PyData) : Prop := ∀ H, Keep [] H0 H → ∀ Q : List V → Hp → Prop, (∀ xs H', Keep [] H H' → DqAll K (off m H') xs ds → Q xs H') → ta σ H Q
theorem LqA.nil : LqA K m tNil σ H0 [] := fun H _ Q k => k [] H Keep.refl .nil
theorem LqA.cons {te : TE} {ta : TA} {d : PyData} {ds : List PyData} (h : LqE K m te σ H0 d) (t : LqA K m ta σ H0 ds) : LqA K m (tCons te ta) σ H0 (d :: ds) :=
  fun H k0 Q k => h H k0 _ fun v H1 k1 d1 => t H1 (k0.trans k1) _ fun xs H2 k2 d2 => k _ _ (k1.trans k2) (.cons (d1.mono k2.off0) d2)
theorem LqE.str {x : Str} : LqE K m (tC (.str x)) σ H0 (.str x) := fun H _ Q k => k _ _ Keep.refl (.str x)
theorem LqE.bl {x : Bool} : LqE K m (tC (.bl x)) σ H0 (.bool x) := fun H _ Q k => k _ _ Keep.refl (.bl x)
theorem LqE.int {x : Int} : LqE K m (tC (.int x)) σ H0 (.int x) := fun H _ Q k => k _ _ Keep.refl (.int x)
theorem LqE.non : LqE K m (tC .non) σ H0 .none := fun H _ Q k => k _ _ Keep.refl .non
theorem LqE.var {i : Nat} {v : V} {d : PyData} (dv : Dq K (off m H0) v d) (h : σ[i]? = some (some v)) : LqE K m (tVar i) σ H0 d := fun H k0 Q k => ⟨_, h, k _ _ Keep.refl (dv.mono k0.off0)⟩
theorem LqE.tup {ta : TA} {ds : List PyData} (l : Live m H0) (h : LqA K m ta σ H0 ds) (n : Nat.ble ds.length 100 = true := by rfl) : LqE K m (tTup ta) σ H0 (.tuple ds) :=
  fun H k0 Q k => h H k0 _ fun xs H1 k1 d1 => ⟨by rw [d1.length]; exact Nat.le_trans (Nat.le_of_ble_eq_true n) (by decide), fun p hp => k _ _ (k1.trans (Keep.new hp)) (.tup (SqT.of (off_new ((l.keep k0).keep k1) hp)) (d1.mono (Keep.new hp).off0))⟩
theorem LqE.lst {ta : TA} {ds : List PyData} (l : Live m H0) (h : LqA K m ta σ H0 ds) (n : Nat.ble ds.length 100 = true := by rfl) : LqE K m (tLst ta) σ H0 (.list ds) :=
  fun H k0 Q k => h H k0 _ fun xs H1 k1 d1 => ⟨by rw [d1.length]; exact Nat.le_trans (Nat.le_of_ble_eq_true n) (by decide), fun p hp => k _ _ (k1.trans (Keep.new hp)) (.lst (SqL.of (off_new ((l.keep k0).keep k1) hp)) (d1.mono (Keep.new hp).off0))⟩
theorem LqE.dic (l : Live m H0) : LqE K m tDNewK σ H0 (.dict []) := fun H k0 Q k p hp => k _ _ (Keep.new hp) (.dic (kvs := []) (ds := []) (off_new (l.keep k0) hp) .nil)
theorem LqE.rep {ta : TA} {d : PyData} {ds : List PyData} {n : Nat} (l : Live m H0) (h : LqA K m ta σ H0 (d :: ds)) (n1 : Nat.ble (ds.length + 1) 100 = true := by rfl) (n2 : Nat.ble 2 n = true := by rfl) (n3 : Nat.ble n 1000 = true := by rfl) : LqE K m (tOp (rRepT K) (tTup ta) (tC (.int (n : Int)))) σ H0 (.tuple (List.replicate n (d :: ds)).flatten) :=
  fun H k0 Q k => h H k0 _ fun xs H1 k1 d1 => by
    have len : xs.length = ds.length + 1 := d1.length
    have a1 := Nat.le_of_ble_eq_true n1
    have a2 := Nat.le_of_ble_eq_true n2
    have a3 := Nat.le_of_ble_eq_true n3
    refine ⟨by rw [len]; exact Nat.le_trans a1 (by decide), fun p hp => ⟨p, (n : Int), xs, rfl, rfl, SqT.of upd_same, fun e => ?_, by omega, by omega, by omega, fun q hq => ?_⟩⟩
    · rw [e] at len
      cases len
    · have kk := (Keep.new (m := []) (o := .tup xs) hp).trans (Keep.new (o := .tup (List.replicate (n : Int).toNat xs).flatten) hq)
      refine k _ _ (k1.trans kk) (.tup (SqT.of (off_new (((l.keep k0).keep k1).keep (Keep.new hp)) hq)) ?_)
      rw [Int.toNat_natCast]
      exact (d1.mono kk.off0).rep n
theorem off_less {m : List Addr} {q : Addr} {H : Hp} : Same (off (q :: m) H) (off m H) := fun b o e => by
  obtain ⟨n, e⟩ := off_some e
  rw [off_out (fun z => n (List.mem_cons_of_mem _ z))]
  exact e
theorem off_fresh {m : List Addr} {q : Addr} {H : Hp} {o : HO} (h : H q = none) : Same (off m H) (off (q :: m) (upd H q o)) := fun b u e => by
  obtain ⟨n, e⟩ := off_some e
  have nb : b ≠ q := fun z => by
    rw [z, h] at e
    cases e
  rw [off_out (by
    intro z
    rcases List.mem_cons.mp z with z | z
    · exact nb z
    · exact n z), upd_ne nb]
  exact e
theorem off_past {m : List Addr} {q : Addr} {H H' : Hp} (k : Keep [] H H') (h : H q = none) : Same (off m H) (off (q :: m) H') := fun b u e => by
  obtain ⟨n, e⟩ := off_some e
  rw [off_out (by
    intro z
    rcases List.mem_cons.mp z with z | z
    · rw [z, h] at e
      cases e
    · exact n z)]
  exact k b u (by simp) e
theorem off_self {m : List Addr} {q : Addr} {H : Hp} {o : HO} : Same (off (q :: m) H) (off (q :: m) (upd H q o)) := fun b u e => by
  obtain ⟨n, e⟩ := off_some e
  have nb : b ≠ q := fun z => n (by rw [z]; exact List.mem_cons_self)
  rw [off_out n, upd_ne nb]
  exact e
/-- a list display of such -/
theorem LqA.lst {ta : TA} {ds : List PyData} {H : Hp} {Q : VK} (h : LqA K m ta σ H0 ds) (k0 : Keep [] H0 H) (n : Nat.ble ds.length 100 = true) (k : ∀ p xs H', H p = none → Keep [] H H' → H' p = some (.lst xs) → DqAll K (off (p :: m) H') xs ds → Q (.ref p) H') : tLst ta σ H Q :=
  h H k0 _ fun xs H1 k1 d1 => ⟨by rw [d1.length]; exact Nat.le_trans (Nat.le_of_ble_eq_true n) (by decide), fun p hp => k p xs _ (k1.free (by simp) hp) (k1.trans (Keep.new hp)) upd_same (d1.mono (off_fresh hp))⟩
/-- x + [..], x a list of such -/
theorem LqA.cat {i : Nat} {ta : TA} {p : Addr} {xs : List V} {ds es : List PyData} {H : Hp} {Q : VK} (hv : σ[i]? = some (some (.ref p))) (hp : H p = some (.lst xs)) (hd : DqAll K (off m H) xs ds) (dl : ds.length ≤ 400) (h : LqA K m ta σ H es) (n : Nat.ble es.length 100 = true)
    (k : ∀ q ys H', H q = none → Keep [] H H' → H' q = some (.lst ys) → DqAll K (off (q :: m) H') ys (ds ++ es) → Q (.ref q) H') : tOp rCat (tVar i) (tLst ta) σ H Q := by
  refine ⟨_, hv, LqA.lst h Keep.refl n fun r zs H1 nr k1 e1 d1 => ?_⟩
  refine ⟨p, r, xs, zs, rfl, rfl, k1.to hp, e1, ?_, fun q hq => ?_⟩
  · rw [hd.length, d1.length]
    have := Nat.le_of_ble_eq_true n
    exact Nat.le_trans (show ds.length + es.length ≤ 500 by omega) (by decide)
  · exact k q _ _ (k1.free (by simp) hq) (k1.trans (Keep.new hq)) upd_same (((hd.mono k1.off0).append (d1.mono off_less)).mono (off_fresh hq))
theorem DqAll.at_ {H : Hp} {vs : List V} {ds : List PyData} (h : DqAll K H vs ds) {i : Nat} {v : V} (e : vs[i]? = some v) : ∃ d ∈ ds, Dq K H v d := by
  obtain ⟨d, e1, h1⟩ := h.get e
  exact ⟨d, List.mem_of_getElem? e1, h1⟩
/-! ### a datum, and if it is a list: what it holds stands without it -/
def isLs : PyData → Bool
  | .list _ => true
  | _ => false
def isTu : PyData → Bool
  | .tuple _ => true
  | _ => false
def Dn (K : PySem.W.Frag) (m : List Addr) (H : Hp) (v : V) (d : PyData) : Prop := Dq K (off m H) v d ∧ (isLs d = false ∨ ∃ l xs ds, v = .ref l ∧ d = .list ds ∧ l ∉ m ∧ H l = some (.lst xs) ∧ DqAll K (off (l :: m) H) xs ds) ∧ (isTu d = true → ∃ a xs, v = .ref a ∧ a ∉ m ∧ H a = some (.tup xs))
theorem Dn.of {H : Hp} {v : V} {d : PyData} (h : Dq K (off m H) v d) (n : isLs d = false) (t : isTu d = false) : Dn K m H v d := ⟨h, .inl n, fun z => by rw [t] at z; cases z⟩
theorem Dn.tup {H : Hp} {a : Addr} {xs : List V} {ds : List PyData} (n : a ∉ m) (e : H a = some (.tup xs)) (h : DqAll K (off m H) xs ds) : Dn K m H (.ref a) (.tuple ds) :=
  ⟨.tup (SqT.of (by rw [off_out n]; exact e)) h, .inl rfl, fun _ => ⟨a, xs, rfl, n, e⟩⟩
theorem Dn.keep {H H' : Hp} {v : V} {d : PyData} (h : Dn K m H v d) (k : Keep m H H') : Dn K m H' v d := by
  obtain ⟨a, b, c⟩ := h
  refine ⟨a.mono k.off, ?_, fun z => ?_⟩
  · rcases b with b | ⟨l, xs, ds, e1, e2, e3, e4, e5⟩
    · exact .inl b
    · exact .inr ⟨l, xs, ds, e1, e2, e3, k _ _ e3 e4, e5.mono (k.up (fun a z => List.mem_cons_of_mem _ z)).off⟩
  · obtain ⟨t, xs, e1, e2, e3⟩ := c z
    exact ⟨t, xs, e1, e2, k _ _ e2 e3⟩
theorem Dn.k0 {H H' : Hp} {v : V} {d : PyData} (h : Dn K m H v d) (k : Keep [] H H') : Dn K m H' v d := h.keep (Keep.of_nil k)
theorem Dn.lst {H : Hp} {l : Addr} {xs : List V} {ds : List PyData} (n : l ∉ m) (e : H l = some (.lst xs)) (h : DqAll K (off (l :: m) H) xs ds) : Dn K m H (.ref l) (.list ds) :=
  ⟨.lst (SqL.of (by rw [off_out n]; exact e)) (h.mono off_less), .inr ⟨l, xs, ds, rfl, rfl, n, e, h⟩, fun z => by cases z⟩
inductive DnAll (K : PySem.W.Frag) (m : List Addr) (H : Hp) : List V → List PyData → Prop
  | nil : DnAll K m H [] []
  | cons {v : V} {vs : List V} {d : PyData} {ds : List PyData} : Dn K m H v d → DnAll K m H vs ds → DnAll K m H (v :: vs) (d :: ds)
theorem DnAll.keep {H H' : Hp} (k : Keep m H H') : ∀ {vs : List V} {ds : List PyData}, DnAll K m H vs ds → DnAll K m H' vs ds
  | _, _, .nil => .nil
  | _, _, .cons h t => .cons (h.keep k) (DnAll.keep k t)
theorem DnAll.k0 {H H' : Hp} {vs : List V} {ds : List PyData} (h : DnAll K m H vs ds) (k : Keep [] H H') : DnAll K m H' vs ds := h.keep (Keep.of_nil k)
theorem DnAll.length {H : Hp} : ∀ {vs : List V} {ds : List PyData}, DnAll K m H vs ds → vs.length = ds.length
  | _, _, .nil => rfl
  | _, _, .cons _ t => congrArg (· + 1) t.length
theorem DnAll.append {H : Hp} : ∀ {vs us : List V} {ds es : List PyData}, DnAll K m H vs ds → DnAll K m H us es → DnAll K m H (vs ++ us) (ds ++ es)
  | _, _, _, _, .nil, h => h
  | _, _, _, _, .cons h t, z => .cons h (DnAll.append t z)
theorem DnAll.at_ {H : Hp} : ∀ {vs : List V} {ds : List PyData}, DnAll K m H vs ds → ∀ {i : Nat} {v : V}, vs[i]? = some v → ∃ d, ds[i]? = some d ∧ Dn K m H v d
  | _, _, .nil, i, v, e => by simp at e
  | _, _, .cons h t, 0, v, e => by
    simp at e
    subst e
    exact ⟨_, rfl, h⟩
  | _, _, .cons h t, i + 1, v, e => by
    obtain ⟨d, e1, h1⟩ := t.at_ (i := i) (v := v) (by simpa using e)
    exact ⟨d, by simpa using e1, h1⟩
def LnE (K : PySem.W.Frag) (m : List Addr) (te : TE) (σ : L2.St) (H0 : Hp) (d : PyData) : Prop := ∀ H, Keep [] H0 H → ∀ Q : VK, (∀ v H', Keep [] H H' → Dn K m H' v d → Q v H') → te σ H Q
def LnA (K : PySem.W.Frag) (m : List Addr) (ta : TA) (σ : L2.St) (H0 : Hp) (ds : List PyData) : Prop := ∀ H, Keep [] H0 H → ∀ Q : List V → Hp → Prop, (∀ xs H', Keep [] H H' → DnAll K m H' xs ds → Q xs H') → ta σ H Q
theorem LnA.nil : LnA K m tNil σ H0 [] := fun H _ Q k => k [] H Keep.refl .nil
theorem LnA.cons {te : TE} {ta : TA} {d : PyData} {ds : List PyData} (h : LnE K m te σ H0 d) (t : LnA K m ta σ H0 ds) : LnA K m (tCons te ta) σ H0 (d :: ds) :=
  fun H k0 Q k => h H k0 _ fun v H1 k1 d1 => t H1 (k0.trans k1) _ fun xs H2 k2 d2 => k _ _ (k1.trans k2) (.cons (d1.k0 k2) d2)
theorem LnE.of {te : TE} {d : PyData} (h : LqE K m te σ H0 d) (n : isLs d = false := by rfl) (t : isTu d = false := by rfl) : LnE K m te σ H0 d := fun H k0 Q k => h H k0 _ fun v H1 k1 d1 => k v H1 k1 (.of d1 n t)
theorem LnE.tup {ta : TA} {ds : List PyData} (l : Live m H0) (h : LqA K m ta σ H0 ds) (n : Nat.ble ds.length 100 = true := by rfl) : LnE K m (tTup ta) σ H0 (.tuple ds) :=
  fun H k0 Q k => h H k0 _ fun xs H1 k1 d1 => ⟨by rw [d1.length]; exact Nat.le_trans (Nat.le_of_ble_eq_true n) (by decide), fun p hp =>
    k _ _ (k1.trans (Keep.new hp)) (.tup (((l.keep k0).keep k1).out hp) upd_same (d1.mono (Keep.new hp).off0))⟩
theorem LnE.lst {ta : TA} {ds : List PyData} (l : Live m H0) (h : LqA K m ta σ H0 ds) (n : Nat.ble ds.length 100 = true := by rfl) : LnE K m (tLst ta) σ H0 (.list ds) :=
  fun H k0 Q k => h H k0 _ fun xs H1 k1 d1 => ⟨by rw [d1.length]; exact Nat.le_trans (Nat.le_of_ble_eq_true n) (by decide), fun p hp =>
    k _ _ (k1.trans (Keep.new hp)) (.lst (((l.keep k0).keep k1).out hp) upd_same (d1.mono (off_fresh hp)))⟩
theorem LnA.lst {ta : TA} {ds : List PyData} {H : Hp} {Q : VK} (h : LnA K m ta σ H0 ds) (k0 : Keep [] H0 H) (n : Nat.ble ds.length 100 = true) (k : ∀ p xs H', H p = none → Keep [] H H' → H' p = some (.lst xs) → DnAll K m H' xs ds → Q (.ref p) H') : tLst ta σ H Q :=
  h H k0 _ fun xs H1 k1 d1 => ⟨by rw [d1.length]; exact Nat.le_trans (Nat.le_of_ble_eq_true n) (by decide), fun p hp => k p xs _ (k1.free (by simp) hp) (k1.trans (Keep.new hp)) upd_same (d1.k0 (Keep.new hp))⟩
theorem LnA.cat {i : Nat} {ta : TA} {p : Addr} {xs : List V} {ds es : List PyData} {H : Hp} {Q : VK} (hv : σ[i]? = some (some (.ref p))) (hp : H p = some (.lst xs)) (hd : DnAll K m H xs ds) (dl : ds.length ≤ 400) (h : LnA K m ta σ H es) (n : Nat.ble es.length 100 = true)
    (k : ∀ q ys H', H q = none → Keep [] H H' → H' q = some (.lst ys) → DnAll K m H' ys (ds ++ es) → Q (.ref q) H') : tOp rCat (tVar i) (tLst ta) σ H Q := by
  refine ⟨_, hv, LnA.lst h Keep.refl n fun r zs H1 nr k1 e1 d1 => ?_⟩
  refine ⟨p, r, xs, zs, rfl, rfl, k1.to hp, e1, ?_, fun q hq => ?_⟩
  · rw [hd.length, d1.length]
    have := Nat.le_of_ble_eq_true n
    exact Nat.le_trans (show ds.length + es.length ≤ 500 by omega) (by decide)
  · exact k q _ _ (k1.free (by simp) hq) (k1.trans (Keep.new hq)) upd_same (((hd.k0 k1).append d1).k0 (Keep.new hq))
theorem Dn.less {H : Hp} {D : Addr} {v : V} {d : PyData} (h : Dn K (D :: m) H v d) : Dn K m H v d := by
  obtain ⟨a, b, c⟩ := h
  refine ⟨a.mono off_less, ?_, fun z => ?_⟩
  · rcases b with b | ⟨l, xs, ds, e1, e2, e3, e4, e5⟩
    · exact .inl b
    · refine .inr ⟨l, xs, ds, e1, e2, fun z => e3 (List.mem_cons_of_mem _ z), e4, e5.mono fun b o e => ?_⟩
      obtain ⟨n, e⟩ := off_some e
      rw [off_out (by
        intro z
        rcases List.mem_cons.mp z with z | z
        · exact n (by rw [z]; exact List.mem_cons_self)
        · exact n (List.mem_cons_of_mem _ (List.mem_cons_of_mem _ z)))]
      exact e
  · obtain ⟨t, xs, e1, e2, e3⟩ := c z
    exact ⟨t, xs, e1, fun z => e2 (List.mem_cons_of_mem _ z), e3⟩
theorem DnAll.less {H : Hp} {D : Addr} : ∀ {vs : List V} {ds : List PyData}, DnAll K (D :: m) H vs ds → DnAll K m H vs ds
  | _, _, .nil => .nil
  | _, _, .cons h t => .cons h.less (DnAll.less t)
/-- a comprehension over a list of such, its elements new data -/
theorem lcN {j : Nat} {σ : L2.St} {H : Hp} {t : Addr} {xs : List V} {ds : List PyData} {f : PyData → PyData} {te : TE} {D : Addr} {Qd : Hp → Prop} (lv : Live m H) (hq : SqL K H t xs) (hd : DqAll K (off m H) xs ds) (hl : ds.length ≤ 100)
    (he : ∀ H2, Keep [] H H2 → Live (D :: m) H2 → ∀ v d, d ∈ ds → Dq K (off (D :: m) H2) v d → LnE K (D :: m) te ((σ.set j none).set j (some v)) H2 (f d)) (hD : H D = none)
    (k : ∀ ys H', Keep [] H H' → H' D = some (.lst ys) → DnAll K m H' ys (ds.map f) → Qd H') :
    ∃ W : Nat → Nat → Hp → Prop, (∃ m, W 0 m (upd H D (.lst []))) ∧ ∀ i m H, W i m H →
      ((Itl K t).stop i H ∧ Qd H) ∨ ((Itl K t).go i H ∧ ∃ Nx : Hp → Prop, (∀ H', Nx H' → ∃ m', m' < m ∧ W (i + 1) m' H') ∧ ∀ x H', (Itl K t).yld i H x H' → gName j x (wipe σ [j]) H' fun σ2 H2 => wipe σ2 [j] = wipe σ [j] ∧ tYes σ2 H2 fun b H3 =>
        if b = true then te σ2 H3 fun y H4 => ∃ acc, H4 D = some (.lst acc) ∧ acc.length < sizeLine ∧ Nx (upd H4 D (.lst (acc ++ [y]))) else Nx H3) := by
  have len := hd.length
  refine lc_list (xs := xs) (Qd := Qd) (fun i H' => ∃ acc, Keep [] H H' ∧ H' D = some (.lst acc) ∧ acc.length = i ∧ DnAll K (D :: m) H' acc ((ds.take i).map f)) ⟨[], Keep.new hD, upd_same, rfl, by simpa using DnAll.nil⟩ ?_ ?_ ?_
  · rintro n H' _ ⟨acc, k1, _⟩
    exact k1.same.seq hq
  · rintro n x H' hx ⟨acc, k1, e1, en, da⟩
    obtain ⟨d, hd', dx⟩ := hd.get hx
    have hn : n < ds.length := by
      rcases Nat.lt_or_ge n ds.length with h | h
      · exact h
      · rw [List.getElem?_eq_none h] at hd'
        cases hd'
    refine ⟨?_, ?_⟩
    · show ((σ.set j none).set j (some x)).set j none = σ.set j none
      rw [List.set_set, List.set_set]
    · show te _ H' _
      refine he H' k1 (Live.cons e1 (lv.keep k1)) x d (List.mem_of_getElem? hd') (dx.mono (off_past k1 hD)) H' Keep.refl _ fun y H2 k2 dy => ?_
      refine ⟨acc, k2.to e1, ?_, acc ++ [y], Keep.own (k1.trans k2) hD, upd_same, by rw [List.length_append, en]; rfl, ?_⟩
      · rw [en]
        exact Nat.lt_of_lt_of_le (show n < 101 by omega) (by decide)
      · rw [List.take_succ, hd', Option.toList_some, List.map_append]
        exact ((da.k0 k2).append (.cons dy .nil)).keep (Keep.at_ (by simp))
  · rintro H' ⟨acc, k1, e1, en, da⟩
    rw [len, List.take_length] at da
    exact k acc H' k1 e1 da.less
/-! ### how large data are -/
structure Fit (w n : Nat) (d : PyData) : Prop where
  sh : d.showable = true
  lv : d.leavesShort 13 = true
  wt : d.weight ≤ w
  dp : d.depth ≤ n
theorem Fit.mono {w n w' n' : Nat} {d : PyData} (h : Fit w n d) (hw : w ≤ w') (hn : n ≤ n') : Fit w' n' d := ⟨h.sh, h.lv, Nat.le_trans h.wt hw, Nat.le_trans h.dp hn⟩
def fitB (w n : Nat) (d : PyData) : Bool := d.showable && (d.leavesShort 13 && (decide (d.weight ≤ w) && decide (d.depth ≤ n)))
theorem Fit.ofB {w n : Nat} {d : PyData} (f : fitB w n d = true) : Fit w n d := by
  obtain ⟨h1, f⟩ := He.ba f
  obtain ⟨h2, f⟩ := He.ba f
  obtain ⟨h3, h4⟩ := He.ba f
  exact ⟨h1, h2, of_decide_eq_true h3, of_decide_eq_true h4⟩
theorem Fit.fits {d : PyData} (h : Fit 1048576 60 d) : fits d = true := by
  unfold SM.fits
  rw [h.sh, h.lv, decide_eq_true h.wt, decide_eq_true h.dp]
  rfl
theorem fitAll {w n : Nat} : ∀ (ds : List PyData), (∀ d ∈ ds, Fit w n d) → PyData.showableAll ds = true ∧ PyData.leavesShortAll 13 ds = true ∧ PyData.weightAll ds ≤ ds.length * (w + 1) ∧ PyData.depthAll ds ≤ n
  | [], _ => ⟨by rw [PyData.showableAll], by rw [PyData.leavesShortAll], by rw [PyData.weightAll]; exact Nat.zero_le _, by rw [PyData.depthAll]; exact Nat.zero_le _⟩
  | d :: ds, h => by
    obtain ⟨a, b, c, e⟩ := fitAll ds fun z hz => h z (List.mem_cons_of_mem _ hz)
    obtain ⟨a1, b1, c1, e1⟩ := h d List.mem_cons_self
    refine ⟨by rw [PyData.showableAll, a, a1]; rfl, by rw [PyData.leavesShortAll, b, b1]; rfl, ?_, ?_⟩
    · rw [PyData.weightAll, List.length_cons, Nat.succ_mul]
      omega
    · rw [PyData.depthAll]
      exact Nat.max_le.mpr ⟨e1, e⟩
theorem Fit.list {w n k : Nat} {ds : List PyData} (h : ∀ d ∈ ds, Fit w n d) (l : ds.length ≤ k) : Fit (k * (w + 1)) (n + 1) (.list ds) := by
  obtain ⟨a, b, c, e⟩ := fitAll ds h
  refine ⟨by rw [PyData.showable]; exact a, by rw [PyData.leavesShort]; exact b, ?_, ?_⟩
  · rw [PyData.weight]
    exact Nat.le_trans c (Nat.mul_le_mul_right _ l)
  · rw [PyData.depth]
    omega
theorem Fit.tuple {w n k : Nat} {ds : List PyData} (h : ∀ d ∈ ds, Fit w n d) (l : ds.length ≤ k) : Fit (k * (w + 1)) (n + 1) (.tuple ds) := by
  obtain ⟨a, b, c, e⟩ := fitAll ds h
  refine ⟨by rw [PyData.showable]; exact a, by rw [PyData.leavesShort]; exact b, ?_, ?_⟩
  · rw [PyData.weight]
    exact Nat.le_trans c (Nat.mul_le_mul_right _ l)
  · rw [PyData.depth]
    omega
theorem Fit.bool {w n : Nat} (b : Bool) : Fit w n (.bool b) := ⟨by rw [PyData.showable], by rw [PyData.leavesShort], by rw [PyData.weight]; exact Nat.zero_le _, by rw [PyData.depth]; exact Nat.zero_le _⟩
theorem Fit.str {w n : Nat} {x : Str} (h : PyData.strOk x = true) (l : x.length ≤ w) : Fit w n (.str x) := by
  refine ⟨by rw [PyData.showable], ?_, ?_, by rw [PyData.depth]; exact Nat.zero_le _⟩
  · rw [PyData.leavesShort, List.all_eq_true]
    intro c hc
    have h1 : (x.cps.all (· < 0x110000)) = true := h
    rw [Array.all_eq_true'] at h1
    have := of_decide_eq_true (h1 c (Array.mem_toList_iff.mp hc))
    exact decide_eq_true (Nat.lt_trans this (by decide))
  · rw [PyData.weight]
    exact l
end SM
set_option Elab.async false
set_option linter.all false
set_option maxRecDepth 100000
set_option maxHeartbeats 2000000
/-! The head's facts with own classes' properties beside: the getter of each stands behind it. -/
namespace SM
open PySem PySem.Spec PyProof.Rows L2
/-- the getter of the property m of the class that the module's name c stands for -/
def pga (K : PySem.W.Frag) (c m : Str) : Addr := match PySem.W.recIn K (He.ma K (He.ga K c) m) "property" with
  | some (.ref g :: _) => g
  | _ => 0
def fnWA (K : PySem.W.Frag) (a : Addr) : He.FnW := match K.lookup a with
  | some ⟨_, _, .func fd, _⟩ => some (fd.name, fd.qualname, fd.params, fd.body, fd.scope, fd.globals, fd.closure, fd.builtins)
  | _ => none
structure PropD where
  cls : Str
  name : Str
  qual : Str
  params : Arguments
  body : List Stmt
  scope : Scope
def PropD.val (d : PropD) : He.FnW := some (d.name, d.qual, d.params, .stmts d.body, d.scope, mainGlobals, [], builtinsNs)
def PropD.ok (K : PySem.W.Frag) (d : PropD) : Bool := (He.eqO (PySem.W.findIn K (.ref (He.ga K d.cls)) d.name) (some (some (.ref (He.ma K (He.ga K d.cls) d.name)))) && (He.eqO (PySem.W.specialIn K (.ref (He.ma K (He.ga K d.cls) d.name)) "__get__") (some (some (.builtin "property.__get__"))) && (decide (PySem.W.takesIn K (.ref (He.ma K (He.ga K d.cls) d.name)) = some true) &&
  match PySem.W.recIn K (He.ma K (He.ga K d.cls) d.name) "property" with
  | some (.ref _ :: _) => true
  | _ => false))) && (PySem.W.keepIn K (.ref (pga K d.cls d.name)) && (match K.lookup (pga K d.cls d.name) with
  | some ⟨_, _, .func fd, _⟩ => PySem.W.codeIn K fd.code d.qual && (He.dflB K fd.defaults [] && He.kwdB K fd.kwdefaults [])
  | _ => false))
/-- a property's getter: where it stands, its def -/
structure PropAt (K : PySem.W.Frag) (d : PropD) : Prop where
  of : PropOf K (He.ga K d.cls) d.name (He.ma K (He.ga K d.cls) d.name) (pga K d.cls d.name)
  fn : ∃ fd, FunD K d.name d.qual d.params d.body d.scope [] [] (pga K d.cls d.name) fd
theorem PropD.at_ {K : PySem.W.Frag} {d : PropD} (e : fnWA K (pga K d.cls d.name) = d.val) (c : d.ok K = true) : PropAt K d := by
  obtain ⟨c, k⟩ := He.ba c
  obtain ⟨c1, c⟩ := He.ba c
  obtain ⟨c2, c⟩ := He.ba c
  obtain ⟨c3, c4⟩ := He.ba c
  obtain ⟨kp, c5⟩ := He.ba k
  refine ⟨⟨He.eqO_ok c1, He.eqO_ok c2, of_decide_eq_true c3, ?_⟩, ?_⟩
  · unfold pga
    cases q : PySem.W.recIn K (He.ma K (He.ga K d.cls) d.name) "property" with
    | none =>
      rw [q] at c4
      cases c4
    | some l =>
      rw [q] at c4
      cases l with
      | nil => cases c4
      | cons a r =>
        cases a with
        | ref g => exact ⟨r, rfl⟩
        | _ => cases c4
  · unfold fnWA at e
    cases q : K.lookup (pga K d.cls d.name) with
    | none =>
      rw [q] at c5
      cases c5
    | some o =>
      obtain ⟨oc, od, dt, osl⟩ := o
      rw [q] at c5 e
      cases dt with
      | func fd =>
        obtain ⟨n1, n2, n3, n4, n5, n6, n7, n8, n9, n10, n11, n12, n13, n14, n15⟩ := fd
        have e2 : (some (n1, n2, n3, n4, n5, n6, n7, n15) : He.FnW) = some (d.name, d.qual, d.params, .stmts d.body, d.scope, mainGlobals, [], builtinsNs) := e
        simp only [Option.some.injEq, Prod.mk.injEq] at e2
        obtain ⟨h1, h2, h3, h4, h5, h6, h7, h8⟩ := e2
        subst h3 h4 h5 h6 h7 h8
        have c6 : (PySem.W.codeIn K n13 d.qual && (He.dflB K n8 [] && He.kwdB K n9 [])) = true := c5
        obtain ⟨k1, k2⟩ := He.ba c6
        obtain ⟨k3, k4⟩ := He.ba k2
        rw [h1, h2] at q
        exact ⟨_, ⟨oc, od, n8, n9, n10, n11, n12, n13, n14, osl, rfl, q, k1, He.dflB_ok k3, He.kwdB_ok k4⟩, kp⟩
      | _ => cases c5
abbrev AlP : Type := He.AlD × List He.FnW × Bool
def obsPK (fa : List He.Fa) (fn : List He.DefD) (pr : List PropD) (ex : PySem.W.Frag → Bool) (K : PySem.W.Frag) : AlP := (He.obsD fa fn K, pr.map (fun d => fnWA K (pga K d.cls d.name)), (pr.all fun d => d.ok K) && ex K)
def obsP (n : Nat) (fa : List He.Fa) (fn : List He.DefD) (pr : List PropD) (ex : PySem.W.Frag → Bool) (g : Addr → Option Obj) : AlP := obsPK fa fn pr ex (He.frG g (He.asD g n))
def valP (fn : List He.DefD) (pr : List PropD) : AlP := (He.valD fn, pr.map PropD.val, true)
def SaysP (fa : List He.Fa) (fn : List He.DefD) (pr : List PropD) (ex : PySem.W.Frag → Bool) (K : PySem.W.Frag) : Prop := obsPK fa fn pr ex K = valP fn pr
def hookP (n : Nat) (fa : List He.Fa) (fn : List He.DefD) (pr : List PropD) (ex : PySem.W.Frag → Bool) : PySem.W.Hook where
  α := AlP
  obs := fun s => obsP n fa fn pr ex s.heap.get?
  val := fun _ => valP fn pr
  says := fun _ h => ∃ K : PySem.W.Frag, K.In h ∧ SaysP fa fn pr ex K
  of := fun _ _ e => ⟨_, He.frG_in, e⟩
  keeps := fun _ _ _ ⟨K, hK, c⟩ k => ⟨K, PySem.W.Frag.In.keeps hK k, c⟩
theorem obsP_eq {n : Nat} {fa : List He.Fa} {fn : List He.DefD} {pr : List PropD} {ex : PySem.W.Frag → Bool} {g : Addr → Option Obj} {s : Shared} (h : ∀ a, g a = s.heap.get? a) : obsP n fa fn pr ex g = (hookP n fa fn pr ex).obs s := by
  have e : g = s.heap.get? := funext h
  rw [e] <;> rfl
section
variable {fa : List He.Fa} {fn : List He.DefD} {pr : List PropD} {ex : PySem.W.Frag → Bool} {K : PySem.W.Frag}
theorem SaysP.d (c : SaysP fa fn pr ex K) : He.SaysD fa fn K := congrArg (fun z : AlP => z.1) c
theorem SaysP.more (c : SaysP fa fn pr ex K) : ex K = true := (He.ba (show ((pr.all fun d => d.ok K) && ex K) = true from congrArg (fun z : AlP => z.2.2) c)).2
theorem SaysP.prop (c : SaysP fa fn pr ex K) (i : Nat) {d : PropD} (h : pr[i]? = some d := by rfl) : PropAt K d := by
  have c2 := (He.ba (show ((pr.all fun d => d.ok K) && ex K) = true from congrArg (fun z : AlP => z.2.2) c)).1
  have e : pr.map (fun d => fnWA K (pga K d.cls d.name)) = pr.map PropD.val := congrArg (fun z : AlP => z.2.1) c
  have e2 : (pr.map fun d => fnWA K (pga K d.cls d.name))[i]? = (pr.map PropD.val)[i]? := by rw [e]
  rw [List.getElem?_map, List.getElem?_map, h] at e2
  exact PropD.at_ (Option.some.inj e2) (List.all_eq_true.mp c2 d (List.mem_of_getElem? h))
end
end SM
set_option Elab.async false
set_option linter.all false
set_option maxRecDepth 100000
set_option maxHeartbeats 2000000
/-! The head's facts over a part of the heap that is given by its addresses. -/
namespace SM
open PySem PySem.Spec PyProof.Rows L2
def obsA (as : List Addr) (fa : List He.Fa) (fn : List He.DefD) (pr : List PropD) (ex : PySem.W.Frag → Bool) (g : Addr → Option Obj) : AlP := obsPK fa fn pr ex (He.frG g as)
def hookA (as : List Addr) (fa : List He.Fa) (fn : List He.DefD) (pr : List PropD) (ex : PySem.W.Frag → Bool) : PySem.W.Hook where
  α := AlP
  obs := fun s => obsA as fa fn pr ex s.heap.get?
  val := fun _ => valP fn pr
  says := fun _ h => ∃ K : PySem.W.Frag, K.In h ∧ SaysP fa fn pr ex K
  of := fun _ _ e => ⟨_, He.frG_in, e⟩
  keeps := fun _ _ _ ⟨K, hK, c⟩ k => ⟨K, PySem.W.Frag.In.keeps hK k, c⟩
theorem obsA_eq {as : List Addr} {fa : List He.Fa} {fn : List He.DefD} {pr : List PropD} {ex : PySem.W.Frag → Bool} {g : Addr → Option Obj} {s : Shared} (h : ∀ a, g a = s.heap.get? a) : obsA as fa fn pr ex g = (hookA as fa fn pr ex).obs s := by
  have e : g = s.heap.get? := funext h
  rw [e] <;> rfl
end SM
set_option Elab.async false
set_option linter.all false
set_option maxRecDepth 100000
set_option maxHeartbeats 2000000
/-! {k: i for i, k in enumerate(tuple)}; comprehensions of which only what stays is told. -/
namespace SM
open PySem PySem.Spec PyProof.Rows L2
theorem dc_enumT {K : PySem.W.Frag} {a : Addr} {xs : List V} {g : TG} {tt : TT} {tk tv : TE} {vs : List Nat} {σ : L2.St} {H1 : Hp} {D : Addr} {Qd : Hp → Prop} (Pv : Nat → Hp → Prop) (h0 : Pv 0 (upd H1 D (.dK []))) (hl : ∀ i H, i ≤ xs.length → Pv i H → SqT K H a xs)
    (hs : ∀ (i : Nat) x T H, xs[i]? = some x → Pv i H → H T = none → g (.ref T) (wipe σ vs) (upd H T (.tup [.int (i : Int), x])) fun σ2 H2 => wipe σ2 vs = wipe σ vs ∧ tt σ2 H2 fun b H3 =>
      if b = true then tk σ2 H3 fun y H4 => tv σ2 H4 fun z H5 => ∃ kvs k, y = kV k ∧ H5 D = some (.dK kvs) ∧ kvs.length < sizeLine ∧ Pv (i + 1) (upd H5 D (.dK (putK kvs k z))) else Pv (i + 1) H3) (hd : ∀ H, Pv xs.length H → Qd H) :
    ∃ W : Nat → Nat → Hp → Prop, (∃ m, W 0 m (upd H1 D (.dK []))) ∧ ∀ i m H, W i m H →
      ((ItT K a).stop i H ∧ Qd H) ∨ ((ItT K a).go i H ∧ ∃ Nx : Hp → Prop, (∀ H', Nx H' → ∃ m', m' < m ∧ W (i + 1) m' H') ∧ ∀ x H', (ItT K a).yld i H x H' → g x (wipe σ vs) H' fun σ2 H2 => wipe σ2 vs = wipe σ vs ∧ tt σ2 H2 fun b H3 =>
        if b = true then tk σ2 H3 fun y H4 => tv σ2 H4 fun z H5 => ∃ kvs k, y = kV k ∧ H5 D = some (.dK kvs) ∧ kvs.length < sizeLine ∧ Nx (upd H5 D (.dK (putK kvs k z))) else Nx H3) := by
  refine ⟨fun i m H => m + i = xs.length ∧ Pv i H, ⟨xs.length, rfl, h0⟩, ?_⟩
  intro i m H w
  obtain ⟨em, p⟩ := w
  have sq := hl i H (by omega) p
  by_cases c : i < xs.length
  · right
    refine ⟨⟨xs, xs[i], sq, List.getElem?_eq_getElem c⟩, Pv (i + 1), fun H' q => ⟨m - 1, by omega, by omega, q⟩, fun v H' y => ?_⟩
    obtain ⟨T, x, rfl, hT, rfl, hx⟩ := y
    exact hs i x T H (hx xs sq) p hT
  · left
    have e : i = xs.length := by omega
    subst e
    exact ⟨⟨xs, sq, rfl⟩, hd H p⟩
variable {K : PySem.W.Frag} {σ : L2.St} {H0 : Hp}
/-- from H0 on, te has a value and leaves what stands -/
def LaE (te : TE) (σ : L2.St) (H0 : Hp) : Prop := ∀ H, Keep [] H0 H → ∀ Q : VK, (∀ v H', Keep [] H H' → Q v H') → te σ H Q
def LaA (ta : TA) (σ : L2.St) (H0 : Hp) (n : Nat) : Prop := ∀ H, Keep [] H0 H → ∀ Q : List V → Hp → Prop, (∀ vs H', Keep [] H H' → vs.length = n → Q vs H') → ta σ H Q
theorem LaA.nil : LaA tNil σ H0 0 := fun H _ Q k => k [] H Keep.refl rfl
theorem LaA.cons {te : TE} {ta : TA} {n : Nat} (h : LaE te σ H0) (t : LaA ta σ H0 n) : LaA (tCons te ta) σ H0 (n + 1) :=
  fun H k0 Q k => h H k0 _ fun v H1 k1 => t H1 (k0.trans k1) _ fun vs H2 k2 e => k (v :: vs) H2 (k1.trans k2) (by rw [List.length_cons, e])
theorem LaE.tup {ta : TA} {n : Nat} (h : LaA ta σ H0 n) (l : Nat.ble n 100 = true := by rfl) : LaE (tTup ta) σ H0 :=
  fun H k0 Q k => h H k0 _ fun vs H1 k1 e => ⟨by rw [e]; exact Nat.le_trans (Nat.le_of_ble_eq_true l) (by decide), fun p hp => k _ _ (k1.trans (Keep.new hp))⟩
theorem LaE.var {i : Nat} {v : V} (h : σ[i]? = some (some v)) : LaE (tVar i) σ H0 := fun H _ Q k => ⟨v, h, k _ _ Keep.refl⟩
/-- d[x] -/
theorem LaE.dget {i j : Nat} {d : Addr} {kvs : List (Key × V)} {x : Str} {v : V} (hi : σ[i]? = some (some (.ref d))) (hj : σ[j]? = some (some (.str x))) (hd : H0 d = some (.dK kvs)) (hv : valV kvs (.inr x) = some v) : LaE (tDGet (tVar i) (tVar j)) σ H0 :=
  fun H k0 Q k => ⟨_, hi, _, hj, d, v, rfl, by rw [← hv]; exact DGet.k (k := .inr x) (k0.to hd), k v H Keep.refl⟩
/-- tuple([.. for .. in a tuple]) -/
theorem LaE.tupLc {tx : TE} {g : TG} {te : TE} {vs : List Nat} {xs : List V} (hl : xs.length ≤ 100)
    (hx : ∀ H, Keep [] H0 H → ∀ Q : VK, (∀ t H', Keep [] H H' → SqT K H' t xs → Q (.ref t) H') → tx σ H Q)
    (he : ∀ (i : Nat) x H2, xs[i]? = some x → Keep [] H0 H2 → ∀ Q' : VK, (∀ y H', Keep [] H2 H' → Q' y H') → g x (wipe σ vs) H2 fun σ2 H3 => wipe σ2 vs = wipe σ vs ∧ te σ2 H3 Q') : LaE (teTup K (tLc (iTup K tx) g tYes te vs)) σ H0 := by
  intro H k0 Q k
  refine hx H k0 _ fun t H1 k1 hq => ⟨t, rfl, ⟨xs, hq⟩, fun D hD => ?_⟩
  refine lc_tup (xs := xs) (Qd := fun H' => ∃ p ys, [V.ref D] = [.ref p] ∧ ((SqL K H' p ys ∧ ∀ l, H' l = none → Q (.ref l) (upd H' l (.tup ys))) ∨ (SqT K H' p ys ∧ Q (.ref p) H'))) (fun i H' => ∃ acc, Keep [] H1 H' ∧ H' D = some (.lst acc) ∧ acc.length = i) ⟨[], Keep.new hD, upd_same, rfl⟩ ?_ ?_ ?_
  · rintro n H' _ ⟨acc, k2, _⟩
    exact seqT_keep k2 Soft.nil hq
  · rintro n x H' hx' ⟨acc, k2, e2, en⟩
    have hn : n < xs.length := (List.getElem?_eq_some_iff.mp hx').1
    refine he n x H' hx' (k0.trans (k1.trans k2)) _ fun y H2 k3 => ?_
    refine ⟨acc, k3.to e2, ?_, acc ++ [y], Keep.own (k2.trans k3) hD, upd_same, by rw [List.length_append, en]; rfl⟩
    rw [en]
    exact Nat.lt_of_lt_of_le (show n < 101 by omega) (by decide)
  · rintro H' ⟨acc, k2, e2, en⟩
    exact ⟨D, acc, rfl, .inl ⟨SqL.of e2, fun l hl => k _ _ (k1.trans (k2.trans (Keep.new hl)))⟩⟩
/-- [x for x in a tuple of texts if ..] -/
theorem lcF {j : Nat} {σ : L2.St} {H : Hp} {t : Addr} {ns : List Str} {f : Str → Bool} {tt : TT} {D : Addr} {Qd : Hp → Prop} (hj : j < σ.length) (hq : SqT K H t (ns.map V.str)) (hl : ns.length ≤ 1000) (hD : H D = none)
    (ht : ∀ H2, Keep [] H H2 → ∀ s, s ∈ ns → ∀ Q : Bool → Hp → Prop, (∀ H', Keep [] H2 H' → Q (f s) H') → tt ((σ.set j none).set j (some (.str s))) H2 Q)
    (k : ∀ H', Keep [] H H' → H' D = some (.lst ((ns.filter f).map V.str)) → Qd H') :
    ∃ W : Nat → Nat → Hp → Prop, (∃ m, W 0 m (upd H D (.lst []))) ∧ ∀ i m H, W i m H →
      ((Itt K t).stop i H ∧ Qd H) ∨ ((Itt K t).go i H ∧ ∃ Nx : Hp → Prop, (∀ H', Nx H' → ∃ m', m' < m ∧ W (i + 1) m' H') ∧ ∀ x H', (Itt K t).yld i H x H' → gName j x (wipe σ [j]) H' fun σ2 H2 => wipe σ2 [j] = wipe σ [j] ∧ tt σ2 H2 fun b H3 =>
        if b = true then tVar j σ2 H3 fun y H4 => ∃ acc, H4 D = some (.lst acc) ∧ acc.length < sizeLine ∧ Nx (upd H4 D (.lst (acc ++ [y]))) else Nx H3) := by
  refine lc_tup (xs := ns.map V.str) (Qd := Qd) (fun i H' => Keep [] H H' ∧ H' D = some (.lst (((ns.take i).filter f).map V.str))) ⟨Keep.new hD, upd_same⟩ ?_ ?_ ?_
  · rintro n H' _ ⟨k1, _⟩
    exact seqT_keep k1 Soft.nil hq
  · rintro n x H' hx ⟨k1, e1⟩
    rw [List.getElem?_map] at hx
    cases e : ns[n]? with
    | none =>
      rw [e] at hx
      cases hx
    | some s =>
      rw [e] at hx
      cases hx
      have hn : n < ns.length := (List.getElem?_eq_some_iff.mp e).1
      refine ⟨?_, ?_⟩
      · show ((σ.set j none).set j (some (.str s))).set j none = σ.set j none
        rw [List.set_set, List.set_set]
      · show tt _ H' _
        refine ht H' k1 s (List.mem_of_getElem? e) _ fun H2 k2 => ?_
        have few : ((ns.take n).filter f).length ≤ n := Nat.le_trans (List.length_filter_le _ _) (by rw [List.length_take]; omega)
        cases c : f s with
        | true =>
          rw [if_pos rfl]
          refine ⟨.str s, by simp [wipe, hj], _, k2.to e1, ?_, Keep.own (k1.trans k2) hD, ?_⟩
          · rw [List.length_map]
            exact Nat.lt_of_lt_of_le (show _ < 1001 by omega) (by decide)
          · rw [upd_same, List.take_succ, e, Option.toList_some, List.filter_append, List.map_append]
            rw [List.filter_cons, if_pos c, List.filter_nil]
            rfl
        | false =>
          rw [if_neg Bool.false_ne_true]
          refine ⟨k1.trans k2, ?_⟩
          rw [k2.to e1, List.take_succ, e, Option.toList_some, List.filter_append, List.filter_cons, c, List.filter_nil, if_neg Bool.false_ne_true, List.append_nil]
  · rintro H' ⟨k1, e1⟩
    rw [List.length_map, List.take_length] at e1
    exact k H' k1 e1
/-- [x for x in a list of texts if ..] -/
theorem lcFL {j : Nat} {σ : L2.St} {H : Hp} {t : Addr} {ns : List Str} {f : Str → Bool} {tt : TT} {D : Addr} {Qd : Hp → Prop} (hj : j < σ.length) (hq : SqL K H t (ns.map V.str)) (hl : ns.length ≤ 1000) (hD : H D = none)
    (ht : ∀ H2, Keep [] H H2 → ∀ s, s ∈ ns → ∀ Q : Bool → Hp → Prop, (∀ H', Keep [] H2 H' → Q (f s) H') → tt ((σ.set j none).set j (some (.str s))) H2 Q)
    (k : ∀ H', Keep [] H H' → H' D = some (.lst ((ns.filter f).map V.str)) → Qd H') :
    ∃ W : Nat → Nat → Hp → Prop, (∃ m, W 0 m (upd H D (.lst []))) ∧ ∀ i m H, W i m H →
      ((Itl K t).stop i H ∧ Qd H) ∨ ((Itl K t).go i H ∧ ∃ Nx : Hp → Prop, (∀ H', Nx H' → ∃ m', m' < m ∧ W (i + 1) m' H') ∧ ∀ x H', (Itl K t).yld i H x H' → gName j x (wipe σ [j]) H' fun σ2 H2 => wipe σ2 [j] = wipe σ [j] ∧ tt σ2 H2 fun b H3 =>
        if b = true then tVar j σ2 H3 fun y H4 => ∃ acc, H4 D = some (.lst acc) ∧ acc.length < sizeLine ∧ Nx (upd H4 D (.lst (acc ++ [y]))) else Nx H3) := by
  refine lc_list (xs := ns.map V.str) (Qd := Qd) (fun i H' => Keep [] H H' ∧ H' D = some (.lst (((ns.take i).filter f).map V.str))) ⟨Keep.new hD, upd_same⟩ ?_ ?_ ?_
  · rintro n H' _ ⟨k1, _⟩
    exact k1.same.seq hq
  · rintro n x H' hx ⟨k1, e1⟩
    rw [List.getElem?_map] at hx
    cases e : ns[n]? with
    | none =>
      rw [e] at hx
      cases hx
    | some s =>
      rw [e] at hx
      cases hx
      have hn : n < ns.length := (List.getElem?_eq_some_iff.mp e).1
      refine ⟨?_, ?_⟩
      · show ((σ.set j none).set j (some (.str s))).set j none = σ.set j none
        rw [List.set_set, List.set_set]
      · show tt _ H' _
        refine ht H' k1 s (List.mem_of_getElem? e) _ fun H2 k2 => ?_
        have few : ((ns.take n).filter f).length ≤ n := Nat.le_trans (List.length_filter_le _ _) (by rw [List.length_take]; omega)
        cases c : f s with
        | true =>
          rw [if_pos rfl]
          refine ⟨.str s, by simp [wipe, hj], _, k2.to e1, ?_, Keep.own (k1.trans k2) hD, ?_⟩
          · rw [List.length_map]
            exact Nat.lt_of_lt_of_le (show _ < 1001 by omega) (by decide)
          · rw [upd_same, List.take_succ, e, Option.toList_some, List.filter_append, List.map_append]
            rw [List.filter_cons, if_pos c, List.filter_nil]
            rfl
        | false =>
          rw [if_neg Bool.false_ne_true]
          refine ⟨k1.trans k2, ?_⟩
          rw [k2.to e1, List.take_succ, e, Option.toList_some, List.filter_append, List.filter_cons, c, List.filter_nil, if_neg Bool.false_ne_true, List.append_nil]
  · rintro H' ⟨k1, e1⟩
    rw [List.length_map, List.take_length] at e1
    exact k H' k1 e1
end SM
set_option Elab.async false
set_option linter.all false
set_option maxRecDepth 100000
set_option maxHeartbeats 4000000
/-! try with more than one clause, each with a name for what is caught -/
namespace SM
open PySem PySem.Spec PyProof.Rows L2
/-- behind a suite the name in slot i is gone -/
def endsOff (D : Ends) (i : Nat) : Ends :=
  { nx := fun τ G => D.nx (τ.set i none) G
    rt := D.rt
    bk := fun τ G => D.bk (τ.set i none) G
    ct := fun τ G => D.ct (τ.set i none) G }
abbrev SuiteT := Addr → Value → Option Addr → TS
/-- what the clauses ask of what the body raises -/
def wNamed (K : PySem.W.Frag) (W0 : WX) (D : Ends) (i : Nat) : List (Value × SuiteT) → WX
  | [] => W0
  | (k, u) :: more => fun cl dd τ G => ∃ y, PySem.W.exmOne K cl k = some y ∧
      (y = true → ∀ p, G p = none → u p cl dd (endsOff D i) (τ.set i (some (.ref p))) G) ∧
      (y = false → wNamed K W0 D i more cl dd τ G)
inductive Clauses (X : Cx) (n : Str) : List ExceptHandler → List (Value × SuiteT) → Prop
  | none : Clauses X n [] []
  | more {x : Str} {k : Value} {u : SuiteT} {b : Stmt} {bs : List Stmt} {p1 p2 : Pos} {hs : List ExceptHandler} {l : List (Value × SuiteT)}
      (nm : Names X x k)
      (su : ∀ (p : Addr) (o : Obj) (cl : Value) (dd : Option Addr) (pins : List (Addr × Obj)), Zc cl dd o → (∃ fs, o.data = .fields fs) →
        PSs (X.suite p ((p, o) :: pins)) (b :: bs) (u p cl dd))
      (rest : Clauses X n hs l) : Clauses X n (.ExceptHandler (some (.Name x p1)) (some n) (b :: bs) p2 :: hs) ((k, u) :: l)
section
variable {X : Cx} {n : Str} {i : Nat} {body : List Stmt} {h1 : ExceptHandler} {hs : List ExceptHandler} {l : List (Value × SuiteT)} {tp : Pos} {tb : WX → TS} {W0 : WX}
theorem ps_tryNamed (e0 : X.stack = X.env :: X.outer) (e1 : X.env.frame = some X.env.locals) (nd : X.N.Nodup) (at_ : X.N[i]? = some n)
    (lo : X.env.kindOf n = some .local) (tk : Takes X W0)
    (hb : ∀ (W : WX) (pn : List (Addr × Obj)) (xe : Value → Shared → Prop), Takes (X.tr pn xe) W →
      PassesOwn (model X.prog X.w) X.A X.env xe → PSs (X.tr pn xe) body (tb W))
    (cs : Clauses X n (h1 :: hs) l) : PS X (.Try body (h1 :: hs) [] [] tp) (fun D τ G => tb (wNamed X.K W0 D i l) D τ G) := by
  refine ⟨fun pins st τ G D J0 q0 => ?_⟩
  have okx := J0.ok
  have frame : X.A.frames = some (X.env :: X.outer) := by
    rw [okx.frames, e0]
  have hloc : Loc X.env.scope n := .inl lo
  refine wpAny_Try_except ?_
  let landing : Value → Shared → Prop := fun v sa =>
    wpAny (model X.prog X.w) X.A (noteFrame v X.env) (fun _ sb =>
      wpAny (model X.prog X.w) X.A (setFlight v none) (fun _ sc =>
        wpAny (model X.prog X.w) X.A (handleBy v X.env (h1 :: hs)) (SP X pins D) X.xe sc) X.xe sb) X.xe sa
  have walked := (hb (wNamed X.K W0 D i l) (X.pn ++ pins) landing (fun u sx caught => ?_) PassesOwn.looking).run [] st τ G D (J0.toTry _) q0
  · refine wpAny_mono walked (fun fl sz z => ?_) (fun v sz z => z)
    cases fl with
    | next =>
      obtain ⟨τ1, G1, Jz, q⟩ := z
      exact wpAny_execs_nil ⟨τ1, G1, Jz.ofTry okx, q⟩
    | brk =>
      obtain ⟨τ1, G1, Jz, q⟩ := z
      exact ⟨τ1, G1, Jz.ofTry okx, q⟩
    | cont =>
      obtain ⟨τ1, G1, Jz, q⟩ := z
      exact ⟨τ1, G1, Jz.ofTry okx, q⟩
    | ret u =>
      obtain ⟨v, τ1, G1, Jz, r, q⟩ := z
      exact ⟨v, τ1, G1, Jz.ofTry okx, r, q⟩
  · obtain ⟨p, B, sB, pins1, τ1, G1, cl, dd, rfl, Jb, nb, up, sk, np, os, ag, wish⟩ := caught
    have J1 : Inv X pins τ1 G1 sB := Jb.ofTry okx
    have sk1 : Sky B (X.env :: X.outer) p (Zc cl dd) X.env.locals sx.heap := by
      rw [← e0]
      exact sk
    show wpAny (model X.prog X.w) X.A (noteFrame (.ref p) X.env) _ _ _
    refine Sky.land Zc.steady frame e1 sk1 fun hA flA upA => ?_
    have JA : Inv X pins τ1 G1 { sx with heap := hA } := J1.landed nb flA.1 (up.trans upA) os ag
    obtain ⟨oA, fA, atA, zA, dA⟩ := flA.there
    have away : p ∉ frs (X.env :: X.outer) := fun hm => by
      obtain ⟨_, o', e', nf⟩ := flA.2.2.1.mem hm
      rw [atA] at e'
      cases e'
      exact nf _ dA
    have offL : p ≠ X.env.locals := fun z => away (List.mem_filterMap.mpr ⟨X.env, List.mem_cons_self, by rw [e1, z]⟩)
    have offF : p ∉ X.fs := fun hm => by
      obtain ⟨ev, hev, q⟩ := List.mem_filterMap.mp hm
      exact away (List.mem_filterMap.mpr ⟨ev, List.mem_cons_of_mem _ hev, q⟩)
    have SA := JA.suite atA dA np offL offF
    have each : ∀ {hs' : List ExceptHandler} {l' : List (Value × SuiteT)}, Clauses X n hs' l' → wNamed X.K W0 D i l' cl dd τ1 G1 →
        wpAny (model X.prog X.w) X.A (handleBy (.ref p) X.env hs') (SP X pins D) X.xe { sx with heap := hA } := by
      intro hs' l' ck
      induction ck with
      | none =>
        intro wish
        refine wpAny_handleBy_nil ?_
        obtain ⟨_, _, _, o2, f2, T2, oT2, t2, at2, _, d2, s2, _⟩ := id flA
        unfold PySem.passOn
        refine wpAny_bind (wpAny_field at2 d2 s2 ?_)
        rw [if_neg (show ¬ ((Value.ref T2 == Value.none) = true) from by simp)]
        have out : wpAny (model X.prog X.w) X.A (setFlight (.ref p) X.env.frame) (fun _ sq =>
            wpAny (model X.prog X.w) X.A (throw (.ref p) : Sem Flow) (SP X pins D) X.xe sq) X.xe { sx with heap := hA } := by
          rw [e1]
          refine HandSPX.setFlight_upZ flA fun hB hhB upB => wpAny_throw (tk _ _ ?_)
          exact ⟨p, B, sB, pins, τ1, G1, cl, dd, rfl, J1, nb, (up.trans upA).trans upB, .inr (.inr (by rw [e0]; exact hhB)), np, os, ag, wish⟩
        first
          | exact wpAny_bind (wpAny_pure (wpAny_bind out))
          | exact wpAny_bind out
      | @more x k u b bs p1 p2 hs2 l2 nm su rest ih =>
        intro wish
        obtain ⟨y, hy, yes, no⟩ := wish
        refine wpAny_handleBy_cons (codeAny_handlers_test ?_) (by intro q; cases q)
        have kindOf : PySem.W.Looks (model X.prog X.w) hA (typeOf (.ref p)) cl := fun A' Q' E' s' kp q' =>
          wpAny_typeOf_ref (kp _ _ atA) (by rw [zA.1]; exact q')
        have match_ := PySem.W.exm_one (M := model X.prog X.w) (JA.kIn) kindOf hy
        have read : ∀ {Q' : Value → Shared → Prop} {E' : Value → Shared → Prop}, Q' k { sx with heap := hA } →
            wpAny (model X.prog X.w) (X.A.mark (some (.ref p))) (eval (.Name x p1) X.env) Q' E' { sx with heap := hA } := fun {Q' E'} q' => by
          obtain ⟨g1, g2, g3 | ⟨g3, g4, g5⟩⟩ := nm
          · exact ld_glob (X := X.suite p ((p, oA) :: (X.pn ++ pins))) SA g1 g3 q' g2
          · exact ld_blt (X := X.suite p ((p, oA) :: (X.pn ++ pins))) SA g1 g3 g4 q' g5 g2
        refine read (match_.here ?_)
        cases y with
        | false =>
          show wpAny _ X.A (handleBy (.ref p) X.env hs2) _ _ _
          exact ih (no rfl)
        | true =>
          refine codeAny_handlers_suite_as ?_
          refine HandSPX.lands_againZ flA fun hB flB upB => ?_
          have JB : Inv X pins τ1 G1 { sx with heap := hB } := J1.landed nb flB.1 ((up.trans upA).trans upB) os ag
          obtain ⟨oB, fB, atB, zB, dB⟩ := flB.there
          have SB := JB.suite atB dB np offL offF
          refine store_ok (X := X.suite p ((p, oB) :: (X.pn ++ pins))) (v := .ref p) SB nd at_ hloc rfl (fun sC SC => ?_) (.inr lo)
          refine wpAny_mono ((su p oB cl dd (X.pn ++ pins) zB ⟨_, dB⟩).run [] sC _ G1 _ SC (yes rfl p np)) (fun fl sD z => ?_) (fun _ _ z => False.elim z)
          have gone : ∀ {τ2 : L2.St} {G2 : Hp} {Q' : Shared → Prop}, Inv (X.suite p ((p, oB) :: (X.pn ++ pins))) [] τ2 G2 sD →
              (∀ sE, Inv X pins (τ2.set i none) G2 sE → Q' sE) →
              wpAny (model X.prog X.w) X.A (do bindName X.env n .none; unbindBehindTheSuite X.env n p2) (fun _ sE => Q' sE) X.xe sD :=
            fun {τ2 G2 Q'} S2 q' => gone_ok (S2.unsuite okx) nd at_ lo q'
          cases fl with
          | next =>
            obtain ⟨τ2, G2, S2, q⟩ := z
            exact gone S2 fun sE JE => ⟨_, _, JE, q⟩
          | brk =>
            obtain ⟨τ2, G2, S2, q⟩ := z
            exact gone S2 fun sE JE => ⟨_, _, JE, q⟩
          | cont =>
            obtain ⟨τ2, G2, S2, q⟩ := z
            exact gone S2 fun sE JE => ⟨_, _, JE, q⟩
          | ret u2 =>
            obtain ⟨v, τ2, G2, S2, r, q⟩ := z
            exact gone S2 fun sE JE => ⟨_, _, _, JE, r, q⟩
    exact each cs wish
end
/-! ### an instance made where its __init__ may raise -/
def tMakeS (C : Addr) (sp : Sp) (E : L2.St → XK) (t : TA) : TE := fun τ G Q => t τ G fun vs G1 =>
  ∀ x dx, G1 x = none → G1 dx = none → dx ≠ x → sp (.ref x :: vs) (upd (upd G1 dx (.own x)) x (.ins C dx [])) (fun v G2 => v = .non ∧ Q (.ref x) G2) (E τ)
section
variable {X : Cx} {CX : CXT} {j : Nat} {fi C : Addr} {fd : FuncData} {ps : List Str} {sp : Sp} {E : L2.St → XK} {x : Str} {p pos : Pos} {e : Expr} {es : List Expr} {t : TA}
theorem pe_makeS (M : Mk X.K C fi) (F : FnOk X.prog X.w X.K X.mg X.base CX j fi fd ps sp) (hr : Room (j + 1) X.A) (hg : Gl X x) (hm : X.mg x = some (.ref C))
    (bd : Binds X.K fd ps []) (hx : ∀ τ, PassesAt CX X τ (E τ)) (ha : PA X (e :: es) t) (hdb : (x == ("__debug__" : Str)) = false := by decide)
    (st : starEach (e :: es) X.env = (false, eval e X.env) :: starEach es X.env := by rfl) (pl : (backTo pos (starEach es X.env)).any (·.1) = false := by rfl) :
    PE X (.Call (.Name x p) (e :: es) [] pos) (tMakeS C sp E t) := by
  refine ⟨fun pins sh τ G Q J q => ?_⟩
  refine wpAny_Call_Name_kw (ld_glob J hg hm ?_ hdb)
  refine PySem.W.callWith_K (h₀ := X.base) J.ok.mod.kin M.kp (thn (ha.run pos pins sh τ G _ J q) fun us s1 got => ?_) st pl
  obtain ⟨vs, G1, J1, rv, want⟩ := got
  refine ⟨J1.kIn, ?_⟩
  have here := want (s1.heap.objs.size + 1) s1.heap.objs.size (J1.hok.fresh (Nat.le_succ _)) (J1.hok.fresh (Nat.le_refl _)) (Nat.ne_of_lt (Nat.lt_succ_self _))
  have J2 := Inv.made (C := C) J1
  have rall : Vals (V.ref (s1.heap.objs.size + 1) :: vs) (Value.ref (s1.heap.objs.size + 1) :: us) := .cons rfl rv
  have many : (Value.ref (s1.heap.objs.size + 1) :: us ++ []).length = ps.length := by
    rw [List.append_nil, ← rall.length]
    exact F.len _ _ _ _ here
  have bound := bd _ (Value.ref (s1.heap.objs.size + 1) :: us) J2.kIn many
  rw [List.append_nil] at bound
  refine wpAny_call (make_map (f := fi) J1.kIn M.makes M.init (beq_iff_eq.mp M.fn) ?_)
  refine codeAny_mono (F.run _ X.stack _ _ ⟨Value.ref (s1.heap.objs.size + 1) :: us, []⟩ _ _ _ (E τ) (hr.make C us []) (J2.env0.make C us []) bound rall here) fun res sz z => ?_
  match res, z with
  | .error er, z => exact hx τ pins _ _ er sz J2 z
  | .ok (.ret u), z =>
    obtain ⟨v, G3, J3, ru, ev, q3⟩ := J2.after z
    subst ev
    exact ⟨ru, ⟨V.ref (s1.heap.objs.size + 1), G3, J3, rfl, q3⟩⟩
  | .ok .next, z => exact False.elim z
  | .ok .brk, z => exact False.elim z
  | .ok .cont, z => exact False.elim z
end
end SM
set_option Elab.async false
set_option linter.all false
set_option maxRecDepth 100000
set_option maxHeartbeats 2000000
/-! x == y by the own __eq__ of x's class, whatever y is -/
namespace SM
open PySem PySem.Spec PyProof.Rows L2
section
variable {X : Cx} {CX : CXT} {j : Nat} {C fe : Addr} {fd : FuncData} {ps : List Str} {sp : Sp} {E : XK}
/-- an instance of C on the left, anything of which the kind is known on the right -/
def rEqOwn (K : PySem.W.Frag) (C : Addr) (sp : Sp) (E : XK) : R2 := fun x y G Q => ∃ (a dx : Addr) (fs : List (Str × V)) (ty : Value),
  x = .ref a ∧ G a = some (.ins C dx fs) ∧ TyX K G y ty ∧ PySem.W.notFirst K C ty = true ∧ sp [x, y] G (fun v G' => (∃ b, v = .bl b) ∧ Q v G') E
theorem op_eqOwn (F : FnOk X.prog X.w X.K X.mg X.base CX j fe fd ps sp) (at_ : PySem.W.findIn X.K (.ref C) "__eq__" = some (some (.ref fe)))
    (fn : PySem.W.isFn X.K (.ref fe) = true) (bd : Binds X.K fd ps []) (hx : Passes CX X E) (hr : Room j X.A) : OpR X (compareOp .Eq) (rEqOwn X.K C sp E) := by
  intro pins sh τ G x y u v Q J rx ry q
  obtain ⟨a, dx, fs, ty, rfl, ha, hy, hn, want⟩ := q
  obtain rfl : u = Value.ref a := rx
  obtain ⟨mA, JA, _⟩ := ins_get J.hok ha
  obtain ⟨od, JA, _⟩ := JA.look
  obtain ⟨m, hF⟩ := J.fr
  obtain ⟨P, kx, hp, _⟩ := kit_of J ry hy
  show wpAny (model X.prog X.w) X.A (richCompare .Eq (.ref a) v) (EP X pins τ Q) X.xe sh
  refine PySem.W.cmp_K (op := .Eq) (tb := ty) hr.units0 hF J.ok.mod.kin JA (kx.ty _ _ J.kIn hp) hn at_ fn ?_
  have many := F.len _ _ _ _ want
  have rr : Vals [V.ref a, y] [Value.ref a, v] := .cons rfl (.cons ry .nil)
  have bound : BindsTo sh fd ⟨[.ref a, v], []⟩ (ps.zip [.ref a, v]) := by
    have b := bd sh [.ref a, v] J.kIn (by simpa using many)
    simpa using b
  refine wpAny_call (codeAny_mono (F.run X.A X.stack sh G ⟨[.ref a, v], []⟩ _ _ _ E hr J.env0 bound rr want) fun res sz z => ?_)
  match res, z with
  | .error er, z => exact hx pins τ G sh er sz J z
  | .ok (.ret w), z =>
    obtain ⟨z1, G1, J1, rz, ⟨b, rfl⟩, q1⟩ := J.after z
    obtain rfl : w = Value.bool b := rz
    exact ⟨.bl b, G1, J1, rfl, q1⟩
  | .ok .next, z => exact False.elim z
  | .ok .brk, z => exact False.elim z
  | .ok .cont, z => exact False.elim z
end
end SM
set_option Elab.async false
set_option linter.all false
set_option maxRecDepth 100000
set_option maxHeartbeats 2000000
/-! New data out of data that stand: displays, cats, slices, items. -/
namespace SM
open PySem PySem.Spec PyProof.Rows L2
variable {K : PySem.W.Frag} {σ : L2.St} {H : Hp}
/-- LtH of an argument list -/
def LtL (K : PySem.W.Frag) (ta : TA) (σ : L2.St) (H : Hp) (ds : List PyData) : Prop := ∀ H1, Keep [] H H1 → ∀ Q, (∀ xs H', Keep [] H1 H' → DtAll K H' xs ds → Q xs H') → ta σ H1 Q
theorem LtL.nil : LtL K tNil σ H [] := fun H1 _ Q k => k [] H1 Keep.refl .nil
theorem LtL.cons {te : TE} {ta : TA} {d : PyData} {ds : List PyData} (h : LtH K te σ H d) (t : LtL K ta σ H ds) : LtL K (tCons te ta) σ H (d :: ds) :=
  fun H1 k1 Q k => h H1 k1 _ fun v H2 k2 d2 => t H2 (k1.trans k2) _ fun xs H3 k3 d3 => k _ _ (k2.trans k3) (.cons (d2.k0 k3) d3)
theorem LtH.str {x : Str} : LtH K (tC (.str x)) σ H (.str x) := fun H1 _ Q k => k _ _ Keep.refl (.str x)
theorem LtH.bl {x : Bool} : LtH K (tC (.bl x)) σ H (.bool x) := fun H1 _ Q k => k _ _ Keep.refl (.bl x)
theorem LtH.var {i : Nat} {v : V} {d : PyData} (h : σ[i]? = some (some v)) (hd : Dt K H v d) : LtH K (tVar i) σ H d := fun H1 k1 Q k => ⟨_, h, k _ _ Keep.refl (hd.k0 k1)⟩
theorem LtH.disp {ta : TA} {ds : List PyData} (h : LtL K ta σ H ds) (n : ds.length ≤ 100) : LtH K (tTup ta) σ H (.tuple ds) :=
  fun H1 k1 Q k => h H1 k1 _ fun xs H2 k2 d2 => ⟨by rw [d2.length]; exact Nat.le_trans n (by decide), fun p hp => k _ _ (k2.trans (Keep.new hp)) (.tup (SqT.of upd_same) (d2.k0 (Keep.new hp)))⟩
theorem LtH.cat {ta tb : TE} {ds es : List PyData} (h : LtH K ta σ H (.tuple ds)) (t : LtH K tb σ H (.tuple es)) (n : ds.length + es.length ≤ 100) : LtH K (tOp (rCatA K) ta tb) σ H (.tuple (ds ++ es)) := by
  intro H1 k1 Q k
  refine h H1 k1 _ fun v H2 k2 d2 => t H2 (k1.trans k2) _ fun u H3 k3 d3 => ?_
  have d2' := d2.k0 k3
  obtain ⟨a, xs, rfl, ha, da⟩ := d2'.items
  obtain ⟨b, ys, rfl, hb, db⟩ := d3.items
  have kk := k2.trans k3
  refine ⟨a, b, xs, ys, rfl, rfl, ha, hb, ?_, fun e => ?_, fun _ e => ?_, fun _ _ p hp => ?_⟩
  · rw [da.length, db.length]
    exact Nat.le_trans n (by decide)
  · subst e
    cases da
    exact k _ _ kk d3
  · subst e
    cases db
    rw [List.append_nil] at k
    exact k _ _ kk d2'
  · exact k _ _ (kk.trans (Keep.new hp)) (.tup (SqT.of upd_same) ((da.append db).k0 (Keep.new hp)))
theorem LtH.rev {ta : TE} {ds : List PyData} (h : LtH K ta σ H (.tuple ds)) : LtH K (tRevT K ta) σ H (.tuple ds.reverse) := by
  intro H1 k1 Q k
  refine h H1 k1 _ fun v H2 k2 d2 => ?_
  obtain ⟨a, xs, rfl, ha, da⟩ := d2.items
  exact ⟨a, xs, rfl, ha, fun p hp => k _ _ (k2.trans (Keep.new hp)) (.tup (SqT.of upd_same) (da.rev.k0 (Keep.new hp)))⟩
theorem sIx_n (n d k : Nat) : HT.sIx n d (some (k : Int)) = min k n := HT.sIx_nat n d k
theorem LtH.take {ta : TE} {tn : TO} {ds : List PyData} {n : Nat} (h : LtH K ta σ H (.tuple ds)) (hn : ∀ H1 (Q : Option Int → Hp → Prop), Q (some (n : Int)) H1 → tn σ H1 Q) : LtH K (tSl (SM.rSlA K) ta tNoPart tn) σ H (.tuple (ds.take n)) := by
  intro H1 k1 Q k
  refine h H1 k1 _ fun v H2 k2 d2 => ?_
  refine hn H2 _ ?_
  obtain ⟨a, xs, rfl, ha, da⟩ := d2.items
  by_cases hw : HT.sIx xs.length 0 none = 0 ∧ HT.sIx xs.length xs.length (some (n : Int)) = xs.length
  · refine .inr ⟨a, xs, rfl, ha, hw, ?_⟩
    have e : n ≥ ds.length := by
      have := hw.2
      rw [sIx_n, da.length] at this
      omega
    rw [List.take_of_length_le e] at k
    exact k _ _ k2 d2
  · refine .inl ⟨a, xs, rfl, ha, hw, fun p hp => ?_⟩
    have e : cutV xs none (some (n : Int)) = xs.take n := by
      unfold cutV
      rw [sIx_n, HT.sIx_none, List.drop_zero, Nat.sub_zero, List.take_eq_take_iff]
      omega
    refine k _ _ (k2.trans (Keep.new hp)) (.tup (SqT.of upd_same) ?_)
    rw [e]
    exact (da.take n).k0 (Keep.new hp)
theorem LtH.drop {ta : TE} {tn : TO} {ds : List PyData} {n : Nat} (h : LtH K ta σ H (.tuple ds)) (hn : ∀ H1 (Q : Option Int → Hp → Prop), Q (some (n : Int)) H1 → tn σ H1 Q) : LtH K (tSl (SM.rSlA K) ta tn tNoPart) σ H (.tuple (ds.drop n)) := by
  intro H1 k1 Q k
  refine h H1 k1 _ fun v H2 k2 d2 => ?_
  refine hn H2 _ ?_
  obtain ⟨a, xs, rfl, ha, da⟩ := d2.items
  by_cases hw : HT.sIx xs.length 0 (some (n : Int)) = 0 ∧ HT.sIx xs.length xs.length none = xs.length
  · refine .inr ⟨a, xs, rfl, ha, hw, ?_⟩
    have e := hw.1
    rw [sIx_n, da.length] at e
    rcases Nat.eq_zero_or_pos n with z | z
    · subst z
      exact k _ _ k2 d2
    · have e2 : ds = [] := List.eq_nil_of_length_eq_zero (by omega)
      subst e2
      rw [List.drop_nil] at k
      exact k _ _ k2 d2
  · refine .inl ⟨a, xs, rfl, ha, hw, fun p hp => ?_⟩
    have e : cutV xs (some (n : Int)) none = xs.drop n := by
      unfold cutV
      rw [sIx_n, HT.sIx_none, List.take_of_length_le (by rw [List.length_drop]; exact Nat.le_refl _)]
      rcases Nat.le_total n xs.length with z | z
      · rw [Nat.min_eq_left z]
      · rw [Nat.min_eq_right z, List.drop_length, List.drop_of_length_le z]
    refine k _ _ (k2.trans (Keep.new hp)) (.tup (SqT.of upd_same) ?_)
    rw [e]
    exact (da.drop n).k0 (Keep.new hp)
theorem atI_n {xs : List V} {n : Nat} {v : V} (h : xs[n]? = some v) : atI xs (n : Int) = some v := by
  have hn : n < xs.length := by
    rcases Nat.lt_or_ge n xs.length with z | z
    · exact z
    · rw [List.getElem?_eq_none z] at h
      cases h
  have e : (n : Int) < xs.length := by omega
  simp [atI, ixN, e, h]
theorem LtH.ix {ta ti : TE} {ds : List PyData} {d : PyData} {n : Nat} (h : LtH K ta σ H (.tuple ds)) (hn : ∀ H1 (Q : VK), Q (.int (n : Int)) H1 → ti σ H1 Q) (e : ds[n]? = some d) : LtH K (tOp (rIx K) ta ti) σ H d := by
  intro H1 k1 Q k
  refine h H1 k1 _ fun v H2 k2 d2 => ?_
  refine hn H2 _ ?_
  obtain ⟨a, xs, rfl, ha, da⟩ := d2.items
  obtain ⟨v, hv, dv⟩ := da.getD e
  exact .inr (.inl ⟨a, xs, _, v, rfl, rfl, ha, atI_n hv, k _ _ k2 dv⟩)
/-- not x -/
theorem LtH.notV {ta : TE} {b : Bool} (h : LtH K ta σ H (.bool b)) : LtH K (tNotV ta) σ H (.bool (!b)) := by
  intro H1 k1 Q k
  refine h H1 k1 _ fun v H2 k2 d2 => ?_
  cases d2
  exact ⟨b, rfl, k _ _ k2 (.bl _)⟩
/-- len(t) -/
theorem LtH.len {ta : TE} {ds : List PyData} {H1 : Hp} {Q : VK} (h : LtH K ta σ H (.tuple ds)) (k1 : Keep [] H H1) (k : ∀ H2, Keep [] H1 H2 → Q (.int (ds.length : Int)) H2) : tCB (fun xs H Q => ∃ p ys, xs = [V.ref p] ∧ (SqL K H p ys ∨ SqT K H p ys) ∧ Q (.int (ys.length : Int)) H) (tCons ta tNil) σ H1 Q := by
  refine h H1 k1 _ fun v H2 k2 d2 => ?_
  obtain ⟨a, xs, rfl, ha, da⟩ := d2.items
  exact ⟨a, xs, rfl, .inr ha, by rw [da.length]; exact k _ k2⟩
/-! ### data of texts, truths and tuples: equal is the same -/
mutual
inductive Pl : PyData → Prop
  | str (x : Str) : Pl (.str x)
  | bl (b : Bool) : Pl (.bool b)
  | tup {ds : List PyData} : PlA ds → Pl (.tuple ds)
inductive PlA : List PyData → Prop
  | nil : PlA []
  | cons {d : PyData} {ds : List PyData} : Pl d → PlA ds → PlA (d :: ds)
end
mutual
theorem Pl.eqv : ∀ {d e : PyData}, Pl d → Pl e → (PyData.eqv d e = true ↔ d = e)
  | _, _, .str x, .str y => by
    rw [PyData.eqv]
    exact ⟨fun h => by rw [eq_of_beq h], fun h => by cases h; exact beq_self_eq_true _⟩
  | _, _, .bl x, .bl y => by
    rw [PyData.eqv]
    cases x <;> cases y <;> simp
  | _, _, .tup x, .tup y => by
    rw [PyData.eqv, PlA.eqv x y]
    exact ⟨fun h => by rw [h], fun h => by cases h; rfl⟩
  | _, _, .str x, .bl y => by
    rw [PyData.eqv]
    simp
  | _, _, .str x, .tup y => by
    rw [PyData.eqv]
    simp
  | _, _, .bl x, .str y => by
    rw [PyData.eqv]
    simp
  | _, _, .bl x, .tup y => by
    rw [PyData.eqv]
    simp
  | _, _, .tup x, .str y => by
    rw [PyData.eqv]
    simp
  | _, _, .tup x, .bl y => by
    rw [PyData.eqv]
    simp
theorem PlA.eqv : ∀ {d e : List PyData}, PlA d → PlA e → (PyData.eqvAll d e = true ↔ d = e)
  | _, _, .nil, .nil => by
    rw [PyData.eqvAll]
    simp
  | _, _, .nil, .cons x y => by
    rw [PyData.eqvAll]
    simp
  | _, _, .cons x y, .nil => by
    rw [PyData.eqvAll]
    simp
  | _, _, .cons x y, .cons z u => by
    rw [PyData.eqvAll, Bool.and_eq_true, Pl.eqv x z, PlA.eqv y u]
    exact ⟨fun h => by rw [h.1, h.2], fun h => by cases h; exact ⟨rfl, rfl⟩⟩
end
theorem PlA.of : ∀ {ds : List PyData}, (∀ d ∈ ds, Pl d) → PlA ds
  | [], _ => .nil
  | d :: ds, h => .cons (h d List.mem_cons_self) (PlA.of fun e z => h e (List.mem_cons_of_mem _ z))
theorem pl_names (ns : List Str) : Pl (.tuple (ns.map .str)) := .tup (.of fun d z => by
  obtain ⟨x, _, rfl⟩ := List.mem_map.mp z
  exact .str x)
theorem pl_steps (l : List (Str × Str)) : Pl (stepsD l) := .tup (.of fun d z => by
  obtain ⟨x, _, rfl⟩ := List.mem_map.mp z
  exact .tup (.cons (.str _) (.cons (.str _) .nil)))
theorem pl_tests (l : List (Str × Str × Bool)) : Pl (testsD l) := .tup (.of fun d z => by
  obtain ⟨x, _, rfl⟩ := List.mem_map.mp z
  exact .tup (.cons (.str _) (.cons (.str _) (.cons (.bl _) .nil))))
theorem pl_line (l : Ln) : Pl (lnD l) := by
  obtain ⟨t, s, k⟩ := l
  cases k with
  | none => exact .tup (.cons (pl_tests _) (.cons (pl_steps _) .nil))
  | some k => exact .tup (.cons (pl_tests _) (.cons (pl_steps _) (.cons (pl_steps _) .nil)))
theorem pl_lines (ls : List Ln) : Pl (.tuple (linesD ls)) := .tup (.of fun d z => by
  obtain ⟨x, _, rfl⟩ := List.mem_map.mp z
  exact pl_line x)
theorem pl_plan (ns : List Str) (ls : List Ln) : Pl (planD ns ls) := .tup (.cons (pl_names ns) (.cons (pl_lines ls) .nil))
theorem map_inj {α : Type} {f : α → PyData} (h : ∀ a b, f a = f b → a = b) : ∀ {xs ys : List α}, xs.map f = ys.map f → xs = ys
  | [], [], _ => rfl
  | [], y :: ys, e => by simp at e
  | x :: xs, [], e => by simp at e
  | x :: xs, y :: ys, e => by
    rw [List.map_cons, List.map_cons] at e
    injection e with e1 e2
    rw [h _ _ e1, map_inj h e2]
theorem names_inj {a b : List Str} (h : PyData.tuple (a.map .str) = .tuple (b.map .str)) : a = b := by
  injection h with h
  exact map_inj (fun x y e => by injection e) h
theorem steps_inj {a b : List (Str × Str)} (h : stepsD a = stepsD b) : a = b := by
  injection h with h
  refine map_inj (fun x y e => ?_) h
  obtain ⟨x1, x2⟩ := x
  obtain ⟨y1, y2⟩ := y
  simp only [stepD] at e
  injection e with e
  injection e with e1 e
  injection e with e2 e
  injection e1 with e1
  injection e2 with e2
  rw [e1, e2]
theorem tests_inj {a b : List (Str × Str × Bool)} (h : testsD a = testsD b) : a = b := by
  injection h with h
  refine map_inj (fun x y e => ?_) h
  obtain ⟨x1, x2, x3⟩ := x
  obtain ⟨y1, y2, y3⟩ := y
  simp only [testD] at e
  injection e with e
  injection e with e1 e
  injection e with e2 e
  injection e with e3 e
  injection e1 with e1
  injection e2 with e2
  injection e3 with e3
  rw [e1, e2, e3]
theorem line_inj {a b : Ln} (h : lnD a = lnD b) : a = b := by
  obtain ⟨t, s, k⟩ := a
  obtain ⟨t', s', k'⟩ := b
  simp only [lnD] at h
  injection h with h
  injection h with h1 h
  injection h with h2 h
  rw [tests_inj h1, steps_inj h2]
  cases k with
  | none =>
    cases k' with
    | none => rfl
    | some k' => simp [keepD] at h
  | some k =>
    cases k' with
    | none => simp [keepD] at h
    | some k' =>
      simp only [keepD] at h
      injection h with h
      rw [steps_inj h]
theorem lines_inj {a b : List Ln} (h : PyData.tuple (linesD a) = .tuple (linesD b)) : a = b := by
  injection h with h
  exact map_inj (fun _ _ => line_inj) h
theorem plan_eqv {ns ms : List Str} {ls ks : List Ln} : PyData.eqv (planD ns ls) (planD ms ks) = true ↔ ns = ms ∧ ls = ks := by
  rw [(pl_plan ns ls).eqv (pl_plan ms ks)]
  refine ⟨fun h => ?_, fun h => by rw [h.1, h.2]⟩
  simp only [planD] at h
  injection h with h
  injection h with h1 h
  injection h with h2 h
  exact ⟨names_inj h1, lines_inj h2⟩
end SM
set_option Elab.async false
set_option linter.all false
set_option maxRecDepth 100000
set_option maxHeartbeats 2000000
/-! x != y where x's class has an own __eq__ and no own __ne__, whatever y is -/
namespace SN
open PySem PySem.Spec PyProof.Rows PySem.SeqAt
section
variable {prog : Program} {w : World} {A : Around} {E : Value → Shared → Prop} {s : Shared} {K : PySem.W.Frag} {x C f : Addr} {ox : Obj} {od : Option Obj} {b tb : Value}
theorem entry_ne {Q : Fin → Shared → Prop} (hu : A.units < cLine) (X : K.In s.heap) (I : PySem.W.InstAt s.heap x ox C od) (hs : PySem.W.findIn K (.ref C) "__eq__" = some (some (.ref f))) (hf : PySem.W.isFn K (.ref f) = true)
    (hcall : wpAny (model prog w) A (call (.ref f) [.ref x, b]) (fun v s' => ∃ r, v = .bool r ∧ Q (.done (.ret (.bool (!r)))) s') E s) : wpAny (model prog w) A (Builtin.«object.__ne__» ⟨[.ref x, b], []⟩) Q E s := by
  unfold Builtin.«object.__ne__»
  repeat (first
    | with_reducible refine wpAny_cRoomFor hu ?_
    | (refine wpAny_bind (m := callSpecialIfBound? (.ref x) (Str.ofString "__eq__") [b])
        (PySem.W.ifBound_K X I hs hf (wpAny_mono hcall (fun r s' hr => by
          obtain ⟨b, rfl, hq⟩ := hr
          repeat (first | exact hq | exact wpAny_pure hq | exact wpAny_truthy_bool hq | (refine wpAny_bind (m := truthy (.bool _)) (wpAny_truthy_bool ?_)) | wp_step)) fun _ _ e => e)))
    | wp_step)
theorem ifBound_objNe {M : Model} {args : List Value} {Q : Option Value → Shared → Prop} (X : K.In s.heap) (I : PySem.W.InstAt s.heap x ox C od) (hs : PySem.W.findIn K (.ref C) "__ne__" = some (some (.builtin "object.__ne__")))
    (h : wpAny M A (call (.builtin "object.__ne__") (.ref x :: args)) (fun v => Q (some v)) E s) : wpAny M A (callSpecialIfBound? (.ref x) "__ne__" args) Q E s := by
  simp only [callSpecialIfBound?, bindSpecialIfBound?]
  refine wpAny_holding (wpAny_bind (wpAny_bind (wpAny_bind (I.type.here ((PySem.W.looks_findIn X hs).here ?_)))))
  refine wpAny_bind (wpAny_askSetting (wpAny_ite ?_))
  have fin : wpAny M A (call (.builtin "object.__ne__") ([.ref x] ++ args) >>= fun v => pure (some v)) Q E s := wpAny_bind (wpAny_mono h (fun v s' h' => wpAny_pure h') fun _ _ h' => h')
  split
  · exact wpAny_bind (wpAny_of_eq (F.cmp_object.ne.bind _) (wpAny_pure (by exact fin)))
  · exact wpAny_tryCatch (wpAny_bind (wpAny_of_eq (F.cmp_object.ne.bind _) (wpAny_pure (by exact fin))))
theorem call_objNe {Q : Value → Shared → Prop} (hu : A.units + 1 < cLine) (X : K.In s.heap) (I : PySem.W.InstAt s.heap x ox C od) (hm : PySem.W.mroIn K C (.type "object") = some true) (hs : PySem.W.findIn K (.ref C) "__eq__" = some (some (.ref f))) (hf : PySem.W.isFn K (.ref f) = true)
    (hcall : wpAny (model prog w) A.in1 (call (.ref f) [.ref x, b]) (fun v s' => ∃ r, v = .bool r ∧ Q (.bool (!r)) s') E s) : wpAny (model prog w) A (call (.builtin "object.__ne__") [.ref x, b]) Q E s :=
  wpAny_call (codeAny_call_builtin F.cmp_object.ne.plain F.cmpEntry_ne (PySem.W.check_slot F.cmpKind_ne F.cmpSplit_ne (I.type.andThen (PySem.W.looks_mroIn X hm)) (F.cmpArgs_ne _ _)
    (entry_ne (A := A.in1) hu X I hs hf (wpAny_mono hcall (fun v s' hv => by
      obtain ⟨b, rfl, hq⟩ := hv
      first | exact ⟨b, rfl, hq⟩ | exact ⟨b, rfl, wpAny_pure hq⟩) fun _ _ e => e))))
theorem cmpNe_K {Q : Value → Shared → Prop} (hu : A.units + 1 < cLine) (X : K.In s.heap) (I : PySem.W.InstAt s.heap x ox C od) (hb : PySem.W.Looks (model prog w) s.heap (typeOf b) tb) (hn : PySem.W.notFirst K C tb = true)
    (hm : PySem.W.mroIn K C (.type "object") = some true) (hne : PySem.W.findIn K (.ref C) "__ne__" = some (some (.builtin "object.__ne__"))) (hs : PySem.W.findIn K (.ref C) "__eq__" = some (some (.ref f))) (hf : PySem.W.isFn K (.ref f) = true)
    (h : wpAny (model prog w) A.in1 (call (.ref f) [.ref x, b]) (fun v s' => ∃ r, v = .bool r ∧ Q (.bool (!r)) s') E s) : wpAny (model prog w) A (richCompare .NotEq (.ref x) b) Q E s := by
  have one : wpAny (model prog w) A (tryCompare (.ref x) "__ne__" b) (fun r s' => ∃ v, r = some v ∧ Q v s') E s := by
    unfold tryCompare
    refine wpAny_bind (ifBound_objNe X I hne (call_objNe hu X I hm hs hf (wpAny_mono h (fun v s' hv => ?_) fun _ _ e => e)))
    obtain ⟨r, rfl, hq⟩ := hv
    exact ⟨r, rfl, wpAny_pure ⟨_, rfl, hq⟩⟩
  unfold richCompare
  simp only [oneThing_ref]
  refine wpAny_holding (wpAny_bind (wpAny_cRoomFor (Nat.lt_of_succ_lt hu) ?_))
  rw [cmpInfo_NotEq]
  refine wpAny_bind (I.type.here (wpAny_bind (hb.here ?_)))
  split
  · rename_i q
    have e : PySem.W.subIn K tb (.ref C) = some false := by
      rcases Bool.or_eq_true_iff.mp hn with e | e
      · rw [beq_iff_eq.mp e] at q; simp at q
      · exact beq_iff_eq.mp e
    refine wpAny_bind ((PySem.W.looks_subIn X e).here ?_)
    simp only [Bool.false_eq_true, if_false]
    refine wpAny_bind (wpAny_mono one (fun r s' z => ?_) fun _ _ e => e)
    obtain ⟨v, rfl, hq⟩ := z
    exact wpAny_pure hq
  · refine wpAny_bind (wpAny_pure ?_)
    simp only [Bool.false_eq_true, if_false]
    refine wpAny_bind (wpAny_mono one (fun r s' z => ?_) fun _ _ e => e)
    obtain ⟨v, rfl, hq⟩ := z
    exact wpAny_pure hq
end
end SN
namespace SM
open PySem PySem.Spec PyProof.Rows L2
section
variable {X : Cx} {CX : CXT} {j : Nat} {C fe : Addr} {fd : FuncData} {ps : List Str} {sp : Sp} {E : XK}
def rNeOwn (K : PySem.W.Frag) (C : Addr) (sp : Sp) (E : XK) : R2 := fun x y G Q => ∃ (a dx : Addr) (fs : List (Str × V)) (ty : Value),
  x = .ref a ∧ G a = some (.ins C dx fs) ∧ TyX K G y ty ∧ PySem.W.notFirst K C ty = true ∧ sp [x, y] G (fun v G' => ∃ b, v = .bl b ∧ Q (.bl (!b)) G') E
theorem op_neOwn (F : FnOk X.prog X.w X.K X.mg X.base CX j fe fd ps sp) (at_ : PySem.W.findIn X.K (.ref C) "__eq__" = some (some (.ref fe))) (hm : PySem.W.mroIn X.K C (.type "object") = some true) (hne : PySem.W.findIn X.K (.ref C) "__ne__" = some (some (.builtin "object.__ne__")))
    (fn : PySem.W.isFn X.K (.ref fe) = true) (bd : Binds X.K fd ps []) (hx : Passes CX X E) (hr : Room (j + 1) X.A) : OpR X (compareOp .NotEq) (rNeOwn X.K C sp E) := by
  intro pins sh τ G x y u v Q J rx ry q
  obtain ⟨a, dx, fs, ty, rfl, ha, hy, hn, want⟩ := q
  obtain rfl : u = Value.ref a := rx
  obtain ⟨mA, JA, _⟩ := ins_get J.hok ha
  obtain ⟨od, JA, _⟩ := JA.look
  obtain ⟨P, kx, hp, _⟩ := kit_of J ry hy
  show wpAny (model X.prog X.w) X.A (richCompare .NotEq (.ref a) v) (EP X pins τ Q) X.xe sh
  refine SN.cmpNe_K (tb := ty) (by have := hr.un; omega) J.kIn JA (kx.ty _ _ J.kIn hp) hn hm hne at_ fn ?_
  have many := F.len _ _ _ _ want
  have rr : Vals [V.ref a, y] [Value.ref a, v] := .cons rfl (.cons ry .nil)
  have bound : BindsTo sh fd ⟨[.ref a, v], []⟩ (ps.zip [.ref a, v]) := by
    have b := bd sh [.ref a, v] J.kIn (by simpa using many)
    simpa using b
  refine wpAny_call (codeAny_mono (F.run X.A.in1 X.stack sh G ⟨[.ref a, v], []⟩ _ _ _ E hr.in1 J.env0.in1 bound rr want) fun res sz z => ?_)
  match res, z with
  | .error er, z => exact hx pins τ G sh er sz J z
  | .ok (.ret w), z =>
    obtain ⟨z1, G1, J1, rz, ⟨b, rfl, q1⟩⟩ := J.after z
    obtain rfl : w = Value.bool b := rz
    exact ⟨b, rfl, .bl _, G1, J1, rfl, q1⟩
  | .ok .next, z => exact False.elim z
  | .ok .brk, z => exact False.elim z
  | .ok .cont, z => exact False.elim z
end
end SM
set_option Elab.async false
set_option linter.all false
set_option maxRecDepth 100000
set_option maxHeartbeats 2000000
/-! thing == x: the built-in's __eq__ declines, the own one of x's class answers -/
namespace SN
open PySem PySem.Spec PyProof.Rows PySem.SeqAt
section
variable {prog : Program} {w : World} {A : Around} {E : Value → Shared → Prop} {s : Shared} {K : PySem.W.Frag} {x C f : Addr} {ox : Obj} {od : Option Obj}
theorem inst_no {M : Model} {n : String} (X : K.In s.heap) (I : PySem.W.InstAt s.heap x ox C od) (e : PySem.W.subIn K (.ref C) (.type n) = some false) : PySem.W.Looks M s.heap (isInstance (.ref x) (.type n)) false := I.type.andThen (PySem.W.looks_subIn X e)
theorem list_no {l : Addr} {Q : Fin → Shared → Prop} (X : K.In s.heap) (I : PySem.W.InstAt s.heap x ox C od) (e : PySem.W.subIn K (.ref C) (.type "list") = some false) (hq : Q (.done (.ret .notImplemented)) s) : wpAny (model prog w) A (Builtin.«list.__eq__» ⟨[.ref l, .ref x], []⟩) Q E s := by
  unfold Builtin.«list.__eq__»
  repeat (first | with_reducible refine wpAny_bind ((inst_no X I e).here ?_) | wp_step)
  exact hq
theorem tuple_no {l : Addr} {Q : Fin → Shared → Prop} (X : K.In s.heap) (I : PySem.W.InstAt s.heap x ox C od) (e : PySem.W.subIn K (.ref C) (.type "tuple") = some false) (hq : Q (.done (.ret .notImplemented)) s) : wpAny (model prog w) A (Builtin.«tuple.__eq__» ⟨[.ref l, .ref x], []⟩) Q E s := by
  unfold Builtin.«tuple.__eq__»
  repeat (first | with_reducible refine wpAny_bind ((inst_no X I e).here ?_) | wp_step)
  exact hq
theorem dict_no {l : Addr} {Q : Fin → Shared → Prop} (X : K.In s.heap) (I : PySem.W.InstAt s.heap x ox C od) (e : PySem.W.subIn K (.ref C) (.type "dict") = some false) (hq : Q (.done (.ret .notImplemented)) s) : wpAny (model prog w) A (Builtin.«dict.__eq__» ⟨[.ref l, .ref x], []⟩) Q E s := by
  unfold Builtin.«dict.__eq__»
  repeat (first | with_reducible refine wpAny_bind ((inst_no X I e).here ?_) | wp_step)
  exact hq
theorem int_no {u : Value} {i : Int} {t : Tok} {Q : Fin → Shared → Prop} (hu : u = .int i t ∨ ∃ c, u = .bool c) (ho : s.heap.get? x = some ox) (np : ∀ v, ox.data ≠ .prim v) (hq : Q (.done (.ret .notImplemented)) s) : wpAny (model prog w) A (Builtin.«int.__eq__» ⟨[u, .ref x], []⟩) Q E s := by
  obtain ⟨hp, g, d, tk, os⟩ := s
  rcases hu with rfl | ⟨c, rfl⟩
  · unfold Builtin.«int.__eq__»
    repeat (first | with_reducible refine wpAny_loadPart_at ho ?_ | wp_step)
    split
    · rename_i q
      exact absurd q (np _)
    · repeat wp_step
      exact hq
  · unfold Builtin.«int.__eq__»
    repeat (first | with_reducible refine wpAny_loadPart_at ho ?_ | wp_step)
    split
    · rename_i q
      exact absurd q (np _)
    · repeat wp_step
      exact hq
theorem str_no {i : Str} {t : Tok} {Q : Fin → Shared → Prop} (ho : s.heap.get? x = some ox) (np : ∀ v, ox.data ≠ .prim v) (hq : Q (.done (.ret .notImplemented)) s) : wpAny (model prog w) A (Builtin.«str.__eq__» ⟨[.str i t, .ref x], []⟩) Q E s := by
  obtain ⟨hp, g, d, tk, os⟩ := s
  unfold Builtin.«str.__eq__»
  repeat (first | with_reducible refine wpAny_loadPart_at ho ?_ | wp_step)
  split
  · rename_i q
    exact absurd q (np _)
  · repeat wp_step
    exact hq
theorem rc_late {u : Value} {T id : String} {Q : Value → Shared → Prop} (hu : A.units < cLine) (X : K.In s.heap) (I : PySem.W.InstAt s.heap x ox C od) (hT : s.TypeIs u T) (hsub : PySem.W.subIn K (.ref C) (.type T) = some false) (slot : Slot T "__eq__" id)
    (dec : ∀ Q' : Value → Shared → Prop, Q' .notImplemented s → wpAny (model prog w) A (call (.builtin id) [u, .ref x]) Q' E s) (hs : PySem.W.findIn K (.ref C) "__eq__" = some (some (.ref f))) (hf : PySem.W.isFn K (.ref f) = true)
    (h : wpAny (model prog w) A (call (.ref f) [.ref x, u]) (PySem.W.CmpBack Q) E s) : wpAny (model prog w) A (richCompare .Eq u (.ref x)) Q E s := by
  have two : wpAny (model prog w) A (tryCompare (.ref x) "__eq__" u) (fun r s' => ∃ v, r = some v ∧ Q v s') E s := by
    unfold tryCompare
    refine wpAny_bind (PySem.W.ifBound_K X I hs hf (wpAny_mono h (fun v s' hv => ?_) fun _ _ e => e))
    cases v <;> first | exact hv.elim | exact wpAny_pure ⟨_, rfl, hv⟩
  simp only [richCompare, cmpInfo_Eq, hT.oneThing_none]
  refine wpAny_holding (wpAny_bind (wpAny_cRoomFor hu ?_))
  refine wpAny_bind (wpAny_typeOf hT ?_)
  refine wpAny_bind (I.type.here ?_)
  split
  · refine wpAny_bind ((PySem.W.looks_subIn X hsub).here ?_)
    simp only [Bool.false_eq_true, if_false, Bool.not_false, if_true]
    refine wpAny_bind (m := tryCompare u _ (.ref x)) (wpAny_tryCompare_declines hT slot (dec _ ⟨rfl, ?_⟩))
    refine wpAny_bind (m := tryCompare (.ref x) _ u) (wpAny_mono two (fun r s1 z => ?_) fun _ _ e => e)
    obtain ⟨v, rfl, q⟩ := z
    exact wpAny_pure q
  · rename_i q
    exact absurd (by simp) q
end
end SN
namespace SM
open PySem PySem.Spec PyProof.Rows L2
section
variable {X : Cx} {CX : CXT} {j : Nat} {C fe : Addr} {fd : FuncData} {ps : List Str} {sp : Sp} {E : XK}
/-- a built-in's value, by kind -/
inductive LateV (K : PySem.W.Frag) (G : Hp) : V → String → Prop where
  | non : LateV K G .non "NoneType"
  | bl (b : Bool) : LateV K G (.bl b) "bool"
  | int (i : Int) : LateV K G (.int i) "int"
  | str (x : Str) : LateV K G (.str x) "str"
  | lst {a : Addr} {xs : List V} : SqL K G a xs → LateV K G (.ref a) "list"
  | tup {a : Addr} {xs : List V} : SqT K G a xs → LateV K G (.ref a) "tuple"
  | dic {a : Addr} {kvs : List (Key × V)} : G a = some (.dK kvs) → LateV K G (.ref a) "dict"
/-- a built-in's value on the left, an instance of C on the right -/
def rEqLate (K : PySem.W.Frag) (C : Addr) (sp : Sp) (E : XK) : R2 := fun x y G Q => ∃ (a dx : Addr) (fs : List (Str × V)) (T : String),
  y = .ref a ∧ G a = some (.ins C dx fs) ∧ LateV K G x T ∧ PySem.W.subIn K (.ref C) (.type T) = some false ∧ sp [y, x] G (fun v G' => (∃ b, v = .bl b) ∧ Q v G') E
theorem op_eqLate (Fo : FnOk X.prog X.w X.K X.mg X.base CX j fe fd ps sp) (at_ : PySem.W.findIn X.K (.ref C) "__eq__" = some (some (.ref fe)))
    (fn : PySem.W.isFn X.K (.ref fe) = true) (bd : Binds X.K fd ps []) (hx : Passes CX X E) (hr : Room j X.A) : OpR X (compareOp .Eq) (rEqLate X.K C sp E) := by
  intro pins sh τ G x y u v Q J rx ry q
  obtain ⟨a, dx, fs, T, rfl, ha, hk, hsub, want⟩ := q
  obtain rfl : v = Value.ref a := ry
  obtain ⟨mA, JA, _⟩ := ins_get J.hok ha
  obtain ⟨od, JA, _⟩ := JA.look
  have X0 := J.kIn
  have many := Fo.len _ _ _ _ want
  have rr : Vals [V.ref a, x] [Value.ref a, u] := .cons rfl (.cons rx .nil)
  have bound : BindsTo sh fd ⟨[.ref a, u], []⟩ (ps.zip [.ref a, u]) := by
    have b := bd sh [.ref a, u] J.kIn (by simpa using many)
    simpa using b
  have own : wpAny (model X.prog X.w) X.A (call (.ref fe) [.ref a, u]) (PySem.W.CmpBack (EP X pins τ Q)) X.xe sh := by
    refine wpAny_call (codeAny_mono (Fo.run X.A X.stack sh G ⟨[.ref a, u], []⟩ _ _ _ E hr J.env0 bound rr want) fun res sz z => ?_)
    match res, z with
    | .error er, z => exact hx pins τ G sh er sz J z
    | .ok (.ret w), z =>
      obtain ⟨z1, G1, J1, rz, ⟨b, rfl⟩, q1⟩ := J.after z
      obtain rfl : w = Value.bool b := rz
      exact ⟨.bl b, G1, J1, rfl, q1⟩
    | .ok .next, z => exact False.elim z
    | .ok .brk, z => exact False.elim z
    | .ok .cont, z => exact False.elim z
  show wpAny (model X.prog X.w) X.A (richCompare .Eq u (.ref a)) (EP X pins τ Q) X.xe sh
  have np : ∀ z, (PySem.W.instObj C dx).data ≠ .prim z := fun z h => by cases h
  cases hk with
  | non =>
    cases (show u = Value.none from rx)
    exact SN.rc_late hr.units0 X0 JA (T := "NoneType") rfl hsub PySem.F.slot_NoneType_eq (fun Q' hq => call_gives PySem.F.slot_NoneType_eq rfl PySem.F.entry_NoneType_eq (PySem.F.args_NoneType_eq_2 _ _) (PySem.SeqAt.NoneType___eq___none_ref_0 _) hq) at_ fn own
  | bl b =>
    cases (show u = Value.bool b from rx)
    exact SN.rc_late hr.units0 X0 JA (T := "bool") rfl hsub PySem.F.slot_bool_eq (fun Q' hq => wpAny_call_entry PySem.F.slot_bool_eq rfl PySem.F.entry_int_eq (SN.int_no (i := 0) (t := 0) (.inr ⟨b, rfl⟩) JA.at_ np ⟨_, rfl, hq⟩) (PySem.F.args_int_eq_2 _ _)) at_ fn own
  | int i =>
    obtain ⟨t, e⟩ := (show ∃ t, u = Value.int i t from rx)
    cases e
    exact SN.rc_late hr.units0 X0 JA (T := "int") rfl hsub PySem.F.slot_int_eq (fun Q' hq => wpAny_call_entry PySem.F.slot_int_eq rfl PySem.F.entry_int_eq (SN.int_no (.inl rfl) JA.at_ np ⟨_, rfl, hq⟩) (PySem.F.args_int_eq_2 _ _)) at_ fn own
  | str z =>
    obtain ⟨t, e⟩ := (show ∃ t, u = Value.str z t from rx)
    cases e
    exact SN.rc_late hr.units0 X0 JA (T := "str") rfl hsub PySem.F.slot_str_eq (fun Q' hq => wpAny_call_entry PySem.F.slot_str_eq rfl PySem.F.entry_str_eq (SN.str_no JA.at_ np ⟨_, rfl, hq⟩) (PySem.F.args_str_eq_2 _ _)) at_ fn own
  | lst hs =>
    cases (show u = Value.ref _ from rx)
    obtain ⟨its, r, pl, hz⟩ := J.list hs
    exact SN.rc_late hr.units0 X0 JA (T := "list") pl.isList.typeIs hsub PySem.F.slot_list_eq (fun Q' hq => wpAny_call_entry PySem.F.slot_list_eq pl.isList.typeIs PySem.F.entry_list_eq (SN.list_no X0 JA hsub ⟨_, rfl, hq⟩) (PySem.F.args_list_eq_2 _ _)) at_ fn own
  | tup hs =>
    cases (show u = Value.ref _ from rx)
    obtain ⟨its, r, ht, hz⟩ := J.tuple hs
    exact SN.rc_late hr.units0 X0 JA (T := "tuple") ht.typeIs hsub PySem.F.slot_tuple_eq (fun Q' hq => wpAny_call_entry PySem.F.slot_tuple_eq ht.typeIs PySem.F.entry_tuple_eq (SN.tuple_no X0 JA hsub ⟨_, rfl, hq⟩) (PySem.F.args_tuple_eq_2 _ _)) at_ fn own
  | @dic b kvs hs =>
    cases (show u = Value.ref b from rx)
    have hT : sh.TypeIs (.ref b) "dict" := by
      obtain ⟨_, _, vs, _, o, es, ep, h1, h2, _⟩ := (show ObjOk X.prog X.w G sh.heap b (.dK kvs) from J.hok b _ hs)
      exact ⟨o, h1, h2.1⟩
    exact SN.rc_late hr.units0 X0 JA (T := "dict") hT hsub PySem.F.slot_dict_eq (fun Q' hq => wpAny_call_entry PySem.F.slot_dict_eq hT PySem.F.entry_dict_eq (SN.dict_no X0 JA hsub ⟨_, rfl, hq⟩) (PySem.F.args_dict_eq_2 _ _)) at_ fn own
end
end SM
set_option Elab.async false
set_option linter.all false
set_option maxRecDepth 100000
set_option maxHeartbeats 2000000
/-! t * 1 is t itself -/
namespace SN
open PySem PySem.Spec PyProof.Rows L2
theorem tuple_mul1 (l : Addr) (items : Array Value) (n : Nat) (dd : Option Addr) (sl : Array (Option Value)) (u : Tok) :
    Meets (Builtin.«tuple.__mul__» ⟨[.ref l, .int 1 u], []⟩) (fun _ R s => s.heap.get? l = some { cls := .type "tuple", dict := dd, data := .seq items n, slots := sl } ∧
      R (.ok (.ret (Value.ref l))) s) :=
  .of_wp fun prog w A R s h => by
    obtain ⟨hp, g, d, tk, os⟩ := s
    obtain ⟨hl, h⟩ := h
    have f1 := AutoSeq1.idx_int
    have c1 : (items.isEmpty || (1 : Int) == 1) = true := by rw [show ((1 : Int) == 1) = true from rfl, Bool.or_true]
    wp_walk using wpAny_loadPart' hl
    repeat (first
      | (refine wpAny_ite_true (by rw [c1]) ?_; wp_walk using wpAny_loadPart' hl)
      | (refine wpAny_ite_false (by decide) ?_; wp_walk using wpAny_loadPart' hl))
    exact ⟨_, rfl, h⟩
end SN
namespace SM
open PySem PySem.Spec PyProof.Rows L2
section
variable {X : Cx}
def rRep1 (K : PySem.W.Frag) : R2 := fun x y H Q => ∃ l xs, x = .ref l ∧ y = .int 1 ∧ SqT K H l xs ∧ Q (.ref l) H
theorem op_rep1 : OpR X (binaryOp .Mult) (rRep1 X.K) := by
  intro pins s σ H x y v u Q I rx ry h
  obtain ⟨l, xs, rfl, rfl, hT, q⟩ := h
  cases rx
  obtain ⟨t, rfl⟩ := ry
  obtain ⟨its, r, ⟨⟨cls, dd, data, sl⟩, ho, hc, n, hd⟩, hs⟩ := I.tuple hT
  simp only at hc hd
  subst hc hd
  refine wpAny_binaryOp_repeat_ref (T := "tuple") (U := "int") (by decide) ⟨_, ho, rfl⟩ (fun s' => typeIs_int s' 1 t) noFill_tuple_mul PySem.F.fills_int_mul PySem.F.slot_int_rmul repeat_tuple PySem.F.slot_int_index.lookup
    (call_meets PySem.F.slot_int_rmul (typeIs_int s 1 t) PySem.F.entry_int_rmul (PySem.F.args_int_rmul_2 _ _) (int_rmul_tuple 1 t l its.toArray n dd sl)
      ⟨ho, rfl, ⟨_, ho, rfl⟩, call_meets PySem.F.slot_tuple_mul ⟨_, ho, rfl⟩ PySem.F.entry_tuple_mul (PySem.F.args_tuple_mul_2 _ _) (SN.tuple_mul1 l its.toArray n dd sl t) ⟨ho, ?_⟩⟩)
  exact ⟨.ref l, H, I, rfl, q⟩
def rRepA (K : PySem.W.Frag) : R2 := fun x y H Q => rRepT K x y H Q ∨ rRep1 K x y H Q
theorem op_repA : OpR X (binaryOp .Mult) (rRepA X.K) := op_repT.or op_rep1
end
end SM
set_option Elab.async false
set_option linter.all false
set_option maxRecDepth 100000
set_option maxHeartbeats 2000000
/-! comprehensions over a tuple, with the data that they give; a plan's data -/
namespace SM
open PySem PySem.Spec PyProof.Rows L2
variable {K : PySem.W.Frag} {σ : L2.St} {H0 : Hp}
/-- tuple([.. for .. in a tuple]), item by item -/
theorem LtH.tupLc {tx : TE} {g : TG} {te : TE} {vs : List Nat} {xs : List V} {rs : List PyData} (hl : xs.length ≤ 100) (len : rs.length = xs.length)
    (hx : ∀ H, Keep [] H0 H → ∀ Q : VK, (∀ t H', Keep [] H H' → SqT K H' t xs → Q (.ref t) H') → tx σ H Q)
    (he : ∀ (i : Nat) x r H2, xs[i]? = some x → rs[i]? = some r → Keep [] H0 H2 → ∀ Q' : VK, (∀ y H', Keep [] H2 H' → Dt K H' y r → Q' y H') → g x (wipe σ vs) H2 fun σ2 H3 => wipe σ2 vs = wipe σ vs ∧ te σ2 H3 Q') : LtH K (teTup K (tLc (iTup K tx) g tYes te vs)) σ H0 (.tuple rs) := by
  intro H k0 Q k
  refine hx H k0 _ fun t H1 k1 hq => ⟨t, rfl, ⟨xs, hq⟩, fun D hD => ?_⟩
  refine lc_tup (xs := xs) (Qd := fun H' => ∃ p ys, [V.ref D] = [.ref p] ∧ ((SqL K H' p ys ∧ ∀ l, H' l = none → Q (.ref l) (upd H' l (.tup ys))) ∨ (SqT K H' p ys ∧ Q (.ref p) H'))) (fun i H' => ∃ acc, Keep [] H1 H' ∧ H' D = some (.lst acc) ∧ acc.length = i ∧ DtAll K H' acc (rs.take i)) ⟨[], Keep.new hD, upd_same, rfl, by simpa using DtAll.nil⟩ ?_ ?_ ?_
  · rintro n H' _ ⟨acc, k2, _⟩
    exact seqT_keep k2 Soft.nil hq
  · rintro n x H' hx' ⟨acc, k2, e2, en, da⟩
    have hn : n < xs.length := (List.getElem?_eq_some_iff.mp hx').1
    obtain ⟨r, hr⟩ : ∃ r, rs[n]? = some r := ⟨_, List.getElem?_eq_getElem (show n < rs.length by omega)⟩
    refine he n x r H' hx' hr (k0.trans (k1.trans k2)) _ fun y H2 k3 dy => ?_
    refine ⟨acc, k3.to e2, ?_, acc ++ [y], Keep.own (k2.trans k3) hD, upd_same, by rw [List.length_append, en]; rfl, ?_⟩
    · rw [en]
      exact Nat.lt_of_lt_of_le (show n < 101 by omega) (by decide)
    · rw [List.take_succ, hr, Option.toList_some]
      exact ((da.k0 k3).append (.cons dy .nil)).keep (Keep.at_ (m := [D]) (by simp)) (Soft.lst (k3.to e2))
  · rintro H' ⟨acc, k2, e2, en, da⟩
    rw [← len, List.take_length] at da
    exact ⟨D, acc, rfl, .inl ⟨SqL.of e2, fun l hl => k _ _ (k1.trans (k2.trans (Keep.new hl))) (.tup (SqT.of upd_same) (da.k0 (Keep.new hl)))⟩⟩
theorem LtH.dget {i j : Nat} {d : Addr} {kvs : List (Key × V)} {x : Str} {n : Int} (hi : σ[i]? = some (some (.ref d))) (hj : σ[j]? = some (some (.str x))) (hd : H0 d = some (.dK kvs)) (hv : valV kvs (.inr x) = some (.int n)) : LtH K (tDGet (tVar i) (tVar j)) σ H0 (.int n) :=
  fun H k0 Q k => ⟨_, hi, _, hj, d, .int n, rfl, by rw [← hv]; exact DGet.k (k := .inr x) (k0.to hd), k _ H Keep.refl (.int n)⟩
/-! ### a line by positions -/
def stepX (f : Str → Nat) (s : Str × Str) : PyData := .tuple [.int (f s.1), .int (f s.2)]
def stepsX (f : Str → Nat) (l : List (Str × Str)) : PyData := .tuple (l.map (stepX f))
def testX (f : Str → Nat) (t : Str × Str × Bool) : PyData := .tuple [.int (f t.1), .int (f t.2.1), .bool t.2.2]
def testsX (f : Str → Nat) (l : List (Str × Str × Bool)) : PyData := .tuple (l.map (testX f))
def listsOf (l : Ln) : List (List (Str × Str)) := l.steps :: (match l.keep with | none => [] | some k => [k])
def choX (f : Str → Nat) (l : Ln) : PyData := .tuple [testsX f l.tests, .tuple ((listsOf l).map (stepsX f))]
theorem listsOf_D (l : Ln) : stepsD l.steps :: keepD l.keep = (listsOf l).map stepsD := by
  obtain ⟨t, s, k⟩ := l
  cases k <;> rfl
end SM
set_option Elab.async false
set_option linter.all false
set_option maxRecDepth 100000
set_option maxHeartbeats 2000000
/-! Files by positions: contents (none or a text), states, what deeds make of them. f tells the position of a word. -/
namespace SM
open PySem PySem.Spec PyProof.Rows L2
abbrev Cn := Option Str
def cD : Cn → PyData
  | none => .none
  | some s => .str s
def cV : Cn → V
  | none => .non
  | some s => .str s
def atC (h : List Cn) (i : Nat) : Cn := (h[i]?).getD none
/-- what stands in a file: here and the registers, last, mark, mine, amid -/
structure Fs where
  cs : List Cn
  last : Cn
  mark : Str
  mine : Cn
  amid : Bool
def fsD (s : Fs) : PyData := .tuple [.tuple (s.cs.map cD), cD s.last, .str s.mark, cD s.mine, .bool s.amid]
def firstS (n : Nat) : Fs := ⟨List.replicate (n + 1) none, none, "none", none, false⟩
def editedS (s : Fs) (c : Cn) : Fs :=
  if c = atC s.cs 0 then s else if c = s.last then { s with cs := s.cs.set 0 c, mark := "none", mine := none } else { s with cs := s.cs.set 0 c, mark := "own", mine := c }
def heldOf (f : Str → Nat) (s : Fs) (new : Cn) (ren : Bool) : List Cn :=
  if ren then ((s.cs ++ [new, none]).set (f "elder") (atC s.cs 0)).set 0 none else s.cs ++ [new, none]
def testOk (f : Str → Nat) (h : List Cn) (t : Str × Str × Bool) : Bool := decide (atC h (f t.1) = atC h (f t.2.1)) == t.2.2
def lineOk (f : Str → Nat) (h : List Cn) (l : Ln) : Bool := l.tests.all (testOk f h)
/-- the first line that fits, the last one anyway -/
def taken (f : Str → Nat) (h : List Cn) : List Ln → Nat
  | [] => 0
  | [_] => 0
  | l :: m :: ls => if lineOk f h l then 0 else taken f h (m :: ls) + 1
def doSteps (f : Str → Nat) (h : List Cn) (ss : List (Str × Str)) : List Cn := ss.foldl (fun h s => h.set (f s.1) (atC h (f s.2))) h
def listFor (l : Ln) (reply : Option Str) : List (Str × Str) := match l.keep with
  | some k => if reply = some "keep" then k else l.steps
  | none => l.steps
def needlessS (s : Fs) (new : Cn) : Bool :=
  if s.mark = "none" ∨ (s.mark = "own" ∧ atC s.cs 0 ≠ s.mine) then true else decide (atC s.cs 0 = new) || (decide (s.last = new) && !s.amid)
/-- what the answer makes of the mark -/
def questionS (s : Fs) (new : Cn) (asks : Bool) (reply : Option Str) : List Str × Str × Cn :=
  if asks = false then ([], s.mark, s.mine) else
  let w : List Str := if needlessS s new then ["needless"] else []
  if reply = some "take" ∧ s.mark = "own" then (w, "free", none) else
  if reply = some "keep" ∧ s.mark ≠ "own" then (w, "own", atC s.cs 0) else (w, s.mark, s.mine)
def harmS (spots : List Nat) (h : List Cn) (mine : Cn) : List Str :=
  if mine = none then (if atC h 0 = none then [] else ["revived"]) else if (spots.any fun i => decide (atC h i = mine)) = true then [] else ["lost"]
def remainsS (elder : Option Nat) (h : List Cn) (new : Cn) (own : List Cn) : List Str :=
  (if atC h 0 = new ∨ atC h 0 ∈ own then ([] : List Str) else ["stale"]) ++ (match elder with | none => [] | some e => if atC h e = none ∨ atC h e ∈ own then [] else ["left"])
/-- an upgrade's troubles, and the state behind it -/
def outcomeS (f : Str → Nat) (spots : List Nat) (elder : Option Nat) (s : Fs) (new : Cn) (ren : Bool) (l : Ln) (reply : Option Str) (stop : Option Nat) : List Str × Fs :=
  let (w, mark, mine) := questionS s new l.keep.isSome reply
  let ss := listFor l reply
  let h := doSteps f (heldOf f s new ren) (match stop with | none => ss | some n => ss.take n)
  let hm := if mark = "own" then harmS spots h mine else []
  let (mark, mine) := if hm = [] then (mark, mine) else (("none" : Str), none)
  match stop with
  | some _ => (w ++ hm, ⟨h.take (h.length - 2), s.last, mark, mine, true⟩)
  | none =>
    let (mark, mine) := if mark = "free" ∨ (mark = "own" ∧ mine = new) then (("none" : Str), none) else (mark, mine)
    (w ++ hm ++ remainsS elder h new (if mark = "own" then [mine] else []), ⟨h.take (h.length - 2), new, mark, mine, false⟩)
theorem cV_dt {K : PySem.W.Frag} {H : Hp} (c : Cn) : Dt K H (cV c) (cD c) := by
  cases c with
  | none => exact .non
  | some s => exact .str s
theorem cV_all {K : PySem.W.Frag} {H : Hp} : ∀ cs : List Cn, DtAll K H (cs.map cV) (cs.map cD)
  | [] => .nil
  | c :: cs => .cons (cV_dt c) (cV_all cs)
theorem cV_inj {a b : Cn} (h : cV a = cV b) : a = b := by
  cases a <;> cases b <;> cases h <;> rfl
theorem cD_eqv (a b : Cn) : PyData.eqv (cD a) (cD b) = decide (a = b) := by
  cases a with
  | none =>
    cases b with
    | none => rw [cD, PyData.eqv]; rfl
    | some y => rw [cD, cD, PyData.eqv]; rfl
  | some x =>
    cases b with
    | none => rw [cD, cD, PyData.eqv]; rfl
    | some y =>
      rw [cD, cD, PyData.eqv]
      by_cases e : x = y
      · subst e
        simp
      · simp [e]
theorem cV_of {K : PySem.W.Frag} {H : Hp} : ∀ {cs : List Cn} {us : List V}, DtAll K H us (cs.map cD) → us = cs.map cV
  | [], _, .nil => rfl
  | none :: cs, _, .cons h t => by
    rw [cV_of t]
    cases h
    rfl
  | some s :: cs, _, .cons h t => by
    rw [cV_of t]
    cases h
    rfl
theorem doSteps_len (f : Str → Nat) : ∀ (ss : List (Str × Str)) (h : List Cn), (doSteps f h ss).length = h.length
  | [], h => rfl
  | s :: ss, h => by
    rw [doSteps, List.foldl_cons]
    exact (doSteps_len f ss _).trans (List.length_set ..)
theorem doSteps_snoc (f : Str → Nat) (h : List Cn) (ss : List (Str × Str)) (s : Str × Str) : doSteps f h (ss ++ [s]) = (doSteps f h ss).set (f s.1) (atC (doSteps f h ss) (f s.2)) := by
  rw [doSteps, List.foldl_append]
  rfl
/-- what is never reached may be read as anything -/
theorem ps_never {X : Cx} {st : Stmt} : PS X st (fun _ _ _ => False) := ⟨fun _ _ _ _ _ _ h => h.elim⟩
theorem pe_never {X : Cx} {e : Expr} : PE X e (fun _ _ _ => False) := ⟨fun _ _ _ _ _ _ h => h.elim⟩
end SM
set_option Elab.async false
set_option linter.all false
set_option maxRecDepth 100000
set_option maxHeartbeats 2000000
/-! a, *b = a list -/
namespace SM
open PySem PySem.Spec PyProof.Rows L2
theorem Walks.tail {prog : Program} {w : World} {A : Around} {I : Addr} {fp wr : List Addr} {n : Nat} {P : Nat → Value → Prop} {St : Nat → Heap → Prop} (W : Walks prog w A I fp wr (n + 1) P St) :
    Walks prog w A I fp wr n (fun i v => P (i + 1) v) (fun i h => St (i + 1) h) where
  sub := W.sub
  frame := fun i h h' st hk => W.frame (i + 1) h h' st hk
  item := fun i s Q E hi st hQ => W.item (i + 1) s Q E (by omega) st hQ
  done := W.done
  self := fun i s Q E st hQ => W.self (i + 1) s Q E st hQ
section
variable {prog : Program} {w : World} {A : Around} {E : Value → Shared → Prop} {s : Shared}
/-- a list taken apart: the first one, and a new list of the others -/
theorem unpack_star1 {l : Addr} {x : Value} {rest : List Value} {Q : List Value → Shared → Prop} (hh : A.handled = none) (hl : s.heap.IsList l (x :: rest).toArray) (hz : rest.length ≤ sizeLine)
    (hQ : ∀ (h' : Heap) (tk : Nat), (∀ b o, s.heap.get? b = some o → h'.get? b = some o) → Q [x, .ref h'.objs.size] { s with heap := h'.push { cls := .type "list", data := .seq rest.toArray }, toks := tk }) : wpAny (model prog w) A (unpackItems (.ref l) 2 (some 1)) Q E s := by
  have hlt : l ≠ s.heap.objs.size := by obtain ⟨o, ho, _⟩ := hl; exact Nat.ne_of_lt (Heap.lt_size ho)
  unfold unpackItems
  refine wpAny_bind ?_
  unfold notIterableAtAll
  refine wpAny_bind (wpAny_specialOf hl.typeIs slot_list_iter.lookup ?_)
  refine wpAny_pure ?_
  simp only [Bool.false_eq_true, if_false]
  refine wpAny_bind (wpAny_holding (wpAny_pyIter_list hl ?_))
  refine wpAny_bind (wpAny_holding (PySem.W.kun_draw hlt 1 0 _ _ ⟨_, Heap.get?_push_size _ rfl, rfl, rfl⟩ (hl.push _) (by simp) fun h₁ hit₁ hs₁ => ?_))
  have hall : List.take 1 (List.drop 0 (x :: rest).toArray.toList) = [x] := rfl
  rw [hall]
  rw [if_neg (by simp)]
  have hl₁ : h₁.IsList l (x :: rest).toArray := (hl.push _).extBut hs₁.extBut hlt
  have W := (Walks.tail (Walks.list (prog := prog) (w := w) (A := A.in1) hh s.heap.objs.size l hlt (x :: rest).toArray)).toS
  refine wpAny_bind (wpAny_holding (wpAny_collect_iter (T := "list_iterator") (n := rest.length) (.inr (.inr (.inl rfl))) W (fun i s' st => st.1.typeIs) ⟨hit₁, hl₁⟩ ?_ (by simp) (fun s' acc mv io => ?_) hz))
  · intro b hb
    simp only [List.mem_cons, List.not_mem_nil, or_false] at hb
    rcases hb with rfl | rfl
    · obtain ⟨o, ho, _⟩ := hit₁
      exact Heap.lt_size ho
    · obtain ⟨o, ho, _⟩ := hl₁
      exact Heap.lt_size ho
  · have er : acc.toList = rest := by
      refine List.ext_getElem? fun j => ?_
      rcases Nat.lt_or_ge j acc.size with h | h
      · have e := io.2 j acc[j] (by simp [h])
        have e2 : rest[j]? = some acc[j] := by simpa using e
        rw [e2]
        simp [h]
      · have h2 : rest.length ≤ j := by rw [← io.1]; exact h
        rw [List.getElem?_eq_none (by simpa using h), List.getElem?_eq_none h2]
    rw [er]
    obtain ⟨hp, gp, dp, tp, op⟩ := s'
    obtain ⟨m1, m2, m3, m4, m5⟩ := mv
    simp only at m1 m2 m3 m4 m5
    subst m2 m3 m4
    rw [if_neg (by simp)]
    refine wpAny_bind (wpAny_newList ?_ ?_)
    · have := hQ hp tp fun b o e => m1 b o (fun z => by rw [List.mem_singleton.mp z] at e; exact absurd (Heap.lt_size e) (Nat.lt_irrefl _)) (hs₁.extBut b o (Nat.ne_of_lt (Heap.lt_size e)) (Heap.get?_push_of_some _ e))
      refine wpAny_pure ?_
      simpa using this
    · simpa using hz
end
/-- the first of a list, and a new list of the others -/
def gStar1 (K : PySem.W.Frag) (t : TGs) : TG := fun v σ H Q => ∃ a x xs, v = .ref a ∧ SqL K H a (x :: xs) ∧ ∀ p, H p = none → t [x, .ref p] σ (upd H p (.lst xs)) Q
section
variable {X : Cx} {pos : Pos}
theorem pgs_consS {e : Expr} {es : List Expr} {p : Pos} {t : TG} {u : TGs} (h1 : PG X e t) (h2 : PGs X es u)
    (hs : (assignEach (.Starred e p :: es) X.env).map (·.2) = assign e X.env :: (assignEach es X.env).map (·.2) := by rfl) : PGs X (.Starred e p :: es) (gCons t u) := by
  refine ⟨fun pins s σ H vs us Q I r h => ?_⟩
  obtain ⟨v, vr, e1, h⟩ := h
  subst e1
  cases r with
  | cons r rr =>
    rw [hs]
    refine assignInOrder_cons (thn (h1.run pins s σ H _ _ _ I r h) fun _ s1 ⟨σ1, H1, I1, q1⟩ => ?_)
    exact h2.run pins s1 σ1 H1 _ _ Q I1 rr q1
theorem pg_star1 {es : List Expr} {k : Nat} {t : TGs} (hc : X.calm = true) (h : PGs X es t)
    (hn : (assignEach es X.env).length = 2 := by rfl) (hst : (assignEach es X.env).findIdx? (·.1) = some 1 := by rfl) : PG X (.Tuple es k pos) (gStar1 X.K t) := by
  refine ⟨fun pins s σ H v u Q I r hw => ?_⟩
  obtain ⟨a, x, xs, e1, hq, hw⟩ := hw
  subst e1
  cases r
  obtain ⟨its, rv, pl, hz⟩ := I.list hq
  match its, rv with
  | y :: rest, .cons ry rr =>
    rw [PyProof.Rows.assign_Tuple]
    refine wpAny_bind (wpAny_standAt ?_)
    unfold unpack
    rw [hn, hst]
    refine wpAny_bind (wpAny_holding (unpack_star1 (I.ok.hd hc) pl.isList ?_ fun h' tk hx => ?_))
    · have := rr.length
      simp only [List.length_cons] at hz
      omega
    have I1 : Inv X pins σ H { s with heap := h', toks := tk } := I.kept hx
    have hp := I1.hok.fresh (Nat.le_refl _)
    have I2 := I1.laid (a := h'.objs.size) (o := .lst xs) (t' := tk) (h' := h'.push { cls := .type "list", data := .seq rest.toArray }) (fun b u q => Heap.get?_push_of_some _ q) (Nat.le_refl _) ⟨by simp only [List.length_cons] at hz; omega, rest, _, rr, Heap.get?_push_size _ rfl⟩
    exact h.run pins _ σ _ [x, .ref h'.objs.size] _ Q I2 (.cons ry (.cons rfl .nil)) (hw _ hp)
end
end SM
set_option Elab.async false
set_option linter.all false
set_option maxRecDepth 100000
set_option maxHeartbeats 2000000
/-! The text of a rule, and that it is read back: pure functions. -/
namespace SM
open PySem PySem.Spec PyProof.Rows L2 TL
def stepT (s : Str × Str) : Str := s.1 ++ (" from " : Str) ++ s.2
def stepsT (l : List (Str × Str)) : Str := if l = [] then "do nothing" else Txt.join ", " (l.map stepT)
def testT (t : Str × Str × Bool) : Str := t.1 ++ (if t.2.2 = true then (" is " : Str) else " is not ") ++ t.2.1
def testsT (l : List (Str × Str × Bool)) : Str := if l = [] then "otherwise" else Txt.join ", " (l.map testT)
def listsT (l : Ln) : List Str := stepsT l.steps :: (match l.keep with | some k => [stepsT k] | none => [])
def lineT (l : Ln) : Str := testsT l.tests ++ (": " : Str) ++ (if l.keep.isSome = true then ("ask " : Str) else "") ++ Txt.join " or " (listsT l)
def ruleT (ns : List Str) (ls : List Ln) : Str := Txt.join "\n" (Txt.join " " ("registers" :: ns) :: ls.map lineT)
/-- a word that stands in such a text -/
structure WordT (w : Str) : Prop where
  let_ : ∀ c ∈ tl w, 97 ≤ c ∧ c ≤ 122
  few : w.length ≤ 8
  no : w ≠ "or" ∧ w ≠ "ask"
theorem WordT.free {w : Str} (h : WordT w) {c : Nat} (hc : c < 97) : c ∉ tl w := fun z => by
  have := (h.let_ c z).1
  omega
def StepOk (s : Str × Str) : Prop := WordT s.1 ∧ WordT s.2
def TestOk (t : Str × Str × Bool) : Prop := WordT t.1 ∧ WordT t.2.1
structure LnOk (l : Ln) : Prop where
  tests : l.tests.length ≤ 4 ∧ ∀ t ∈ l.tests, TestOk t
  steps : l.steps.length ≤ 4 ∧ ∀ t ∈ l.steps, StepOk t
  keep : ∀ k, l.keep = some k → k.length ≤ 4 ∧ ∀ t ∈ k, StepOk t
theorem tl_from : tl (" from " : Str) = [32, 102, 114, 111, 109, 32] := by decide +kernel
theorem tl_is : tl (" is " : Str) = [32, 105, 115, 32] := by decide +kernel
theorem tl_isnot : tl (" is not " : Str) = [32, 105, 115, 32, 110, 111, 116, 32] := by decide +kernel
theorem tl_comma : tl (", " : Str) = [44, 32] := by decide +kernel
theorem tl_colon : tl (": " : Str) = [58, 32] := by decide +kernel
theorem tl_or : tl (" or " : Str) = [32, 111, 114, 32] := by decide +kernel
theorem tl_ask : tl ("ask " : Str) = [97, 115, 107, 32] := by decide +kernel
theorem tl_sp : tl (" " : Str) = [32] := by decide +kernel
theorem tl_nl : tl ("\n" : Str) = [10] := by decide +kernel
theorem tl_nothing : tl ("do nothing" : Str) = [100, 111, 32, 110, 111, 116, 104, 105, 110, 103] := by decide +kernel
theorem tl_otherwise : tl ("otherwise" : Str) = [111, 116, 104, 101, 114, 119, 105, 115, 101] := by decide +kernel
theorem tl_stepT (s : Str × Str) : tl (stepT s) = tl s.1 ++ ([32, 102, 114, 111, 109, 32] ++ tl s.2) := by
  rw [stepT, tl_append, tl_append, tl_from, List.append_assoc]
theorem tl_testT (t : Str × Str × Bool) : tl (testT t) = tl t.1 ++ ((if t.2.2 = true then [32, 105, 115, 32] else [32, 105, 115, 32, 110, 111, 116, 32]) ++ tl t.2.1) := by
  rw [testT, tl_append, tl_append, List.append_assoc]
  cases t.2.2
  · rw [if_neg Bool.false_ne_true, if_neg Bool.false_ne_true, tl_isnot]
  · rw [if_pos rfl, if_pos rfl, tl_is]
theorem step_free {s : Str × Str} (h : StepOk s) {c : Nat} (hc : c < 97) (h32 : c ≠ 32) : c ∉ tl (stepT s) := by
  rw [tl_stepT]
  simp only [List.mem_append, List.mem_cons, List.not_mem_nil, or_false, not_or]
  exact ⟨h.1.free hc, ⟨h32, by omega, by omega, by omega, by omega, h32⟩, h.2.free hc⟩
theorem test_free {s : Str × Str × Bool} (h : TestOk s) {c : Nat} (hc : c < 97) (h32 : c ≠ 32) : c ∉ tl (testT s) := by
  rw [tl_testT]
  simp only [List.mem_append, not_or]
  refine ⟨h.1.free hc, ?_, h.2.free hc⟩
  split
  · simp only [List.mem_cons, List.not_mem_nil, or_false, not_or]
    exact ⟨h32, by omega, by omega, h32⟩
  · simp only [List.mem_cons, List.not_mem_nil, or_false, not_or]
    exact ⟨h32, by omega, by omega, h32, by omega, by omega, by omega, h32⟩
theorem joinL_free {S : List Nat} {c : Nat} (hS : c ∉ S) : ∀ {ps : List (List Nat)}, (∀ p ∈ ps, c ∉ p) → c ∉ joinL S ps
  | [], _ => by simp [joinL]
  | [p], h => h p (List.mem_singleton.mpr rfl)
  | p :: q :: r, h => by
    rw [joinL]
    simp only [List.mem_append, not_or]
    exact ⟨h p List.mem_cons_self, hS, joinL_free hS fun z hz => h z (List.mem_cons_of_mem _ hz)⟩
theorem tl_txtjoin (y : Str) (ps : List Str) : tl (Txt.join y ps) = joinL (tl y) (ps.map tl) := by rw [join_eq, tl_join]
theorem join_free {y : Str} {ps : List Str} {c : Nat} (hy : c ∉ tl y) (h : ∀ p ∈ ps, c ∉ tl p) : c ∉ tl (Txt.join y ps) := by
  rw [tl_txtjoin]
  refine joinL_free hy fun p hp => ?_
  obtain ⟨z, hz, rfl⟩ := List.mem_map.mp hp
  exact h z hz
theorem steps_free {l : List (Str × Str)} (h : ∀ s ∈ l, StepOk s) {c : Nat} (hc : c < 97) (h32 : c ≠ 32) (h44 : c ≠ 44) : c ∉ tl (stepsT l) := by
  unfold stepsT
  split
  · rw [tl_nothing]
    simp only [List.mem_cons, List.not_mem_nil, or_false, not_or]
    omega
  · refine join_free (by rw [tl_comma]; simp; omega) fun p hp => ?_
    obtain ⟨s, hs, rfl⟩ := List.mem_map.mp hp
    exact step_free (h s hs) hc h32
theorem tests_free {l : List (Str × Str × Bool)} (h : ∀ s ∈ l, TestOk s) {c : Nat} (hc : c < 97) (h32 : c ≠ 32) (h44 : c ≠ 44) : c ∉ tl (testsT l) := by
  unfold testsT
  split
  · rw [tl_otherwise]
    simp only [List.mem_cons, List.not_mem_nil, or_false, not_or]
    omega
  · refine join_free (by rw [tl_comma]; simp; omega) fun p hp => ?_
    obtain ⟨s, hs, rfl⟩ := List.mem_map.mp hp
    exact test_free (h s hs) hc h32
/-! ### one step, one test -/
theorem split_step {s : Str × Str} (h : StepOk s) : Txt.split (stepT s) " " = [s.1, "from", s.2] := by
  have e : stepT s = Txt.join " " [s.1, "from", s.2] := by
    refine ext_tl ?_
    rw [tl_txtjoin, tl_stepT]
    show _ = tl s.1 ++ (tl " " ++ (tl "from" ++ (tl " " ++ tl s.2)))
    rw [tl_sp, show tl ("from" : Str) = [102, 114, 111, 109] by decide +kernel]
    simp
  rw [e]
  refine split_join (s := 32) (S := []) tl_sp (by decide +kernel) (by simp) fun p hp => ?_
  simp only [List.mem_cons, List.not_mem_nil, or_false] at hp
  rcases hp with rfl | rfl | rfl
  · exact h.1.free (by decide)
  · decide +kernel
  · exact h.2.free (by decide)
theorem split_test {t : Str × Str × Bool} (h : TestOk t) : Txt.split (testT t) " " = if t.2.2 = true then [t.1, "is", t.2.1] else [t.1, "is", "not", t.2.1] := by
  have e : testT t = Txt.join " " (if t.2.2 = true then [t.1, "is", t.2.1] else [t.1, "is", "not", t.2.1]) := by
    refine ext_tl ?_
    rw [tl_txtjoin, tl_testT]
    cases t.2.2
    · rw [if_neg Bool.false_ne_true, if_neg Bool.false_ne_true]
      show _ = tl t.1 ++ (tl " " ++ (tl "is" ++ (tl " " ++ (tl "not" ++ (tl " " ++ tl t.2.1)))))
      rw [tl_sp, show tl ("is" : Str) = [105, 115] by decide +kernel, show tl ("not" : Str) = [110, 111, 116] by decide +kernel]
      simp
    · rw [if_pos rfl, if_pos rfl]
      show _ = tl t.1 ++ (tl " " ++ (tl "is" ++ (tl " " ++ tl t.2.1)))
      rw [tl_sp, show tl ("is" : Str) = [105, 115] by decide +kernel]
      simp
  rw [e]
  refine split_join (s := 32) (S := []) tl_sp (by decide +kernel) (by split <;> simp) fun p hp => ?_
  split at hp
  · simp only [List.mem_cons, List.not_mem_nil, or_false] at hp
    rcases hp with rfl | rfl | rfl
    · exact h.1.free (by decide)
    · decide +kernel
    · exact h.2.free (by decide)
  · simp only [List.mem_cons, List.not_mem_nil, or_false] at hp
    rcases hp with rfl | rfl | rfl | rfl
    · exact h.1.free (by decide)
    · decide +kernel
    · decide +kernel
    · exact h.2.free (by decide)
/-! ### steps, tests -/
theorem split_steps {l : List (Str × Str)} (n : l ≠ []) (h : ∀ s ∈ l, StepOk s) : stepsT l ≠ "do nothing" ∧ Txt.split (stepsT l) ", " = l.map stepT := by
  unfold stepsT
  rw [if_neg n]
  constructor
  · intro e
    have e' := congrArg tl e
    rw [tl_txtjoin, tl_nothing] at e'
    have : (102 : Nat) ∈ joinL (tl (", " : Str)) ((l.map stepT).map tl) := by
      match l, n with
      | s :: r, _ =>
        have hm : (102 : Nat) ∈ tl (stepT s) := by
          rw [tl_stepT]
          simp
        cases r with
        | nil => exact hm
        | cons s2 r => exact List.mem_append_left _ hm
    rw [e'] at this
    revert this
    decide
  · refine split_join (s := 44) (S := [32]) tl_comma (by decide +kernel) (fun z => n (List.map_eq_nil_iff.mp z)) fun p hp => ?_
    obtain ⟨s, hs, rfl⟩ := List.mem_map.mp hp
    exact step_free (h s hs) (by decide) (by decide)
theorem split_tests {l : List (Str × Str × Bool)} (n : l ≠ []) (h : ∀ s ∈ l, TestOk s) : testsT l ≠ "otherwise" ∧ Txt.split (testsT l) ", " = l.map testT := by
  unfold testsT
  rw [if_neg n]
  constructor
  · intro e
    have e' := congrArg tl e
    rw [tl_txtjoin, tl_otherwise] at e'
    have : (32 : Nat) ∈ joinL (tl (", " : Str)) ((l.map testT).map tl) := by
      match l, n with
      | s :: r, _ =>
        have hm : (32 : Nat) ∈ tl (testT s) := by
          rw [tl_testT]
          simp only [List.mem_append]
          refine .inr (.inl ?_)
          split <;> simp
        cases r with
        | nil => exact hm
        | cons s2 r => exact List.mem_append_left _ hm
    rw [e'] at this
    revert this
    decide
  · refine split_join (s := 44) (S := [32]) tl_comma (by decide +kernel) (fun z => n (List.map_eq_nil_iff.mp z)) fun p hp => ?_
    obtain ⟨s, hs, rfl⟩ := List.mem_map.mp hp
    exact test_free (h s hs) (by decide) (by decide)
end SM
set_option Elab.async false
set_option linter.all false
set_option maxRecDepth 100000
set_option maxHeartbeats 2000000
/-! The text of a rule, read back: lists of steps, lines, the whole; how long. -/
namespace SM
open PySem PySem.Spec PyProof.Rows L2 TL PySem.StrLaws
theorem no_or_head {u tail : List Nat} (h : 32 ∉ u) (n : u ≠ [111, 114]) (ht : tail = [] ∨ ∃ r, tail = 32 :: r) : pre [32, 111, 114, 32] (32 :: (u ++ tail)) = false := by
  unfold pre
  rw [Bool.eq_false_iff]
  intro z
  have z := eq_of_beq z
  match u, h, n with
  | [], _, _ =>
    rcases ht with rfl | ⟨r, rfl⟩
    · simp at z
    · simp at z
  | [a], h, _ =>
    rcases ht with rfl | ⟨r, rfl⟩
    · simp at z
    · simp at z
  | [a, b], h, n =>
    rcases ht with rfl | ⟨r, rfl⟩
    · simp at z
    · simp at z
      exact n (by rw [z.1, z.2])
  | a :: b :: c :: r, h, _ =>
    simp at z
    exact h (by rw [z.2.2]; simp)
theorem orFree : ∀ (toks : List (List Nat)) (rest : List Nat), (∀ t ∈ toks, 32 ∉ t ∧ t ≠ [111, 114]) → (rest = [] ∨ ∃ r, rest = 32 :: r) → ∀ i, i < (joinL [32] toks).length → pre [32, 111, 114, 32] ((joinL [32] toks ++ rest).drop i) = false
  | [], _, _, _, i, hi => by simp [joinL] at hi
  | [t], rest, h, _, i, hi => free_of (h t (List.mem_singleton.mpr rfl)).1 i hi
  | t :: u :: r, rest, h, hr, i, hi => by
    have ht := h t List.mem_cons_self
    have hu := h u (List.mem_cons_of_mem _ List.mem_cons_self)
    have e : joinL [32] (t :: u :: r) ++ rest = t ++ (32 :: (joinL [32] (u :: r) ++ rest)) := by
      rw [joinL]
      simp
    have el : (joinL [32] (t :: u :: r)).length = t.length + 1 + (joinL [32] (u :: r)).length := by
      rw [joinL]
      simp
      omega
    rw [e]
    rcases Nat.lt_trichotomy i t.length with c | c | c
    · exact free_of ht.1 i c
    · subst c
      rw [List.drop_left]
      cases r with
      | nil => exact no_or_head hu.1 hu.2 hr
      | cons x r =>
        have e2 : joinL [32] (u :: x :: r) ++ rest = u ++ (32 :: (joinL [32] (x :: r) ++ rest)) := by
          rw [joinL]
          simp
        rw [e2]
        exact no_or_head hu.1 hu.2 (.inr ⟨_, rfl⟩)
    · have ih := orFree (u :: r) rest (fun z hz => h z (List.mem_cons_of_mem _ hz)) hr (i - (t.length + 1)) (by omega)
      have e3 : (t ++ (32 :: (joinL [32] (u :: r) ++ rest))).drop i = (joinL [32] (u :: r) ++ rest).drop (i - (t.length + 1)) := by
        rw [show i = t.length + (i - (t.length + 1) + 1) by omega, ← List.drop_drop, List.drop_left, List.drop_succ_cons]
        congr 1
        omega
      rw [e3]
      exact ih
def stoks : List (Str × Str) → List (List Nat)
  | [] => []
  | [s] => [tl s.1, [102, 114, 111, 109], tl s.2]
  | s :: t :: r => tl s.1 :: [102, 114, 111, 109] :: (tl s.2 ++ [44]) :: stoks (t :: r)
theorem stoks_ne (s : Str × Str) : ∀ r, ∃ x y, stoks (s :: r) = x :: y
  | [] => ⟨_, _, rfl⟩
  | _ :: _ => ⟨_, _, rfl⟩
theorem stoks_join : ∀ l : List (Str × Str), joinL [32] (stoks l) = joinL [44, 32] ((l.map stepT).map tl)
  | [] => rfl
  | [s] => by
    show tl s.1 ++ ([32] ++ ([102, 114, 111, 109] ++ ([32] ++ tl s.2))) = tl (stepT s)
    rw [tl_stepT]
    simp
  | s :: t :: r => by
    obtain ⟨x, y, e⟩ := stoks_ne t r
    have ih := stoks_join (t :: r)
    rw [stoks, e]
    show tl s.1 ++ ([32] ++ ([102, 114, 111, 109] ++ ([32] ++ ((tl s.2 ++ [44]) ++ ([32] ++ joinL [32] (x :: y)))))) = tl (stepT s) ++ ([44, 32] ++ joinL [44, 32] (((t :: r).map stepT).map tl))
    rw [← e, ih, tl_stepT]
    simp
theorem stoks_ok : ∀ l : List (Str × Str), (∀ s ∈ l, StepOk s) → ∀ t ∈ stoks l, 32 ∉ t ∧ t ≠ [111, 114]
  | [], _, t, z => by cases z
  | [s], h, t, z => by
    have hs := h s List.mem_cons_self
    simp only [stoks, List.mem_cons, List.not_mem_nil, or_false] at z
    rcases z with rfl | rfl | rfl
    · exact ⟨hs.1.free (by decide), fun e => hs.1.no.1 (ext_tl (e.trans (by decide +kernel)))⟩
    · decide
    · exact ⟨hs.2.free (by decide), fun e => hs.2.no.1 (ext_tl (e.trans (by decide +kernel)))⟩
  | s :: u :: r, h, t, z => by
    have hs := h s List.mem_cons_self
    rw [stoks] at z
    simp only [List.mem_cons] at z
    rcases z with rfl | rfl | rfl | z
    · exact ⟨hs.1.free (by decide), fun e => hs.1.no.1 (ext_tl (e.trans (by decide +kernel)))⟩
    · decide
    · refine ⟨?_, fun e => ?_⟩
      · simp only [List.mem_append, List.mem_cons, List.not_mem_nil, or_false, not_or]
        exact ⟨hs.2.free (by decide), by decide⟩
      · have : (44 : Nat) ∈ tl s.2 ++ [44] := by simp
        rw [e] at this
        revert this
        decide
    · exact stoks_ok (u :: r) (fun x hx => h x (List.mem_cons_of_mem _ hx)) t z
theorem steps_orFree {l : List (Str × Str)} (h : ∀ s ∈ l, StepOk s) {rest : List Nat} (hr : rest = [] ∨ ∃ r, rest = 32 :: r) : ∀ i, i < (tl (stepsT l)).length → pre [32, 111, 114, 32] ((tl (stepsT l) ++ rest).drop i) = false := by
  have e : ∃ ts, tl (stepsT l) = joinL [32] ts ∧ ∀ t ∈ ts, 32 ∉ t ∧ t ≠ [111, 114] := by
    unfold stepsT
    split
    · exact ⟨[[100, 111], [110, 111, 116, 104, 105, 110, 103]], by rw [tl_nothing]; rfl, by decide⟩
    · exact ⟨stoks l, by rw [tl_txtjoin, tl_comma, stoks_join], stoks_ok l h⟩
  obtain ⟨ts, e, ht⟩ := e
  rw [e]
  exact orFree ts rest ht hr
theorem split_lists {l : Ln} (h : LnOk l) : Txt.split (Txt.join " or " (listsT l)) " or " = listsT l := by
  refine map_tl_inj ?_
  rw [split_spl _ _ (by rw [tl_or]; simp) (kind_ok (by decide +kernel)), tl_txtjoin, tl_or]
  unfold listsT
  cases hk : l.keep with
  | none =>
    show spl [32, 111, 114, 32] 0 [] (tl (stepsT l.steps)) = [tl (stepsT l.steps)]
    rw [spl_last, List.nil_append]
    intro i hi
    have := steps_orFree h.steps.2 (rest := []) (.inl rfl) i hi
    rwa [List.append_nil] at this
  | some k =>
    show spl [32, 111, 114, 32] 0 [] (tl (stepsT l.steps) ++ ([32, 111, 114, 32] ++ tl (stepsT k))) = [tl (stepsT l.steps), tl (stepsT k)]
    rw [spl_part (by simp) (steps_orFree h.steps.2 (.inr ⟨_, rfl⟩)), List.nil_append, spl_last, List.nil_append]
    intro i hi
    have := steps_orFree (h.keep k hk).2 (rest := []) (.inl rfl) i hi
    rwa [List.append_nil] at this
/-! ### "ask " -/
theorem rp_eq (x y : Str) : Txt.removeprefix x y = if pre (tl y) (tl x) = true then ⟨((tl x).drop (tl y).length).toArray⟩ else x := by
  rw [removeprefix_eq]
  have e : (decide (0 + y.length ≤ x.length) && Builtin.Str.subAt x y 0) = pre (tl y) (tl x) := by
    rw [subAt_eq, List.drop_zero]
    unfold pre
    rw [len_tl y]
    by_cases c : 0 + (tl y).length ≤ x.length
    · rw [decide_eq_true c, Bool.true_and]
    · rw [decide_eq_false c, Bool.false_and]
      symm
      rw [Bool.eq_false_iff]
      intro z
      have z := congrArg List.length (eq_of_beq z)
      rw [List.length_take] at z
      rw [len_tl] at c
      omega
  rw [e]
  split
  · rw [len_tl y, len_tl x]
    congr 2
    refine List.take_of_length_le ?_
    rw [List.length_drop]
    exact Nat.le_refl _
  · rfl
theorem rp_yes (b : Str) : Txt.removeprefix (("ask " : Str) ++ b) "ask " = b := by
  rw [rp_eq, tl_append, if_pos (pre_self _ _), List.drop_left]
theorem no_ask_head {u r : List Nat} (h : 32 ∉ u) (n : u ≠ [97, 115, 107]) : pre [97, 115, 107, 32] (u ++ (32 :: r)) = false := by
  unfold pre
  rw [Bool.eq_false_iff]
  intro z
  have z := eq_of_beq z
  match u, h, n with
  | [], _, _ => simp at z
  | [a], _, _ => simp at z
  | [a, b], _, _ => simp at z
  | [a, b, c], _, n =>
    simp at z
    exact n (by rw [z.1, z.2.1, z.2.2])
  | a :: b :: c :: d :: r, h, _ =>
    simp at z
    exact h (by rw [z.2.2.2]; simp)
theorem rp_no {l : List (Str × Str)} (h : ∀ s ∈ l, StepOk s) : Txt.removeprefix (stepsT l) "ask " = stepsT l := by
  rw [rp_eq, if_neg]
  rw [Bool.not_eq_true, tl_ask]
  unfold stepsT
  split
  · rw [tl_nothing]
    decide
  · rename_i n
    match l, n, h with
    | s :: r, _, h =>
      have hs := h s List.mem_cons_self
      rw [tl_txtjoin, tl_comma]
      have e : ∃ q, joinL [44, 32] (((s :: r).map stepT).map tl) = tl s.1 ++ (32 :: q) := by
        cases r with
        | nil => exact ⟨[102, 114, 111, 109, 32] ++ tl s.2, by show tl (stepT s) = _; rw [tl_stepT]; simp⟩
        | cons t r => exact ⟨[102, 114, 111, 109, 32] ++ (tl s.2 ++ ([44, 32] ++ joinL [44, 32] (((t :: r).map stepT).map tl))), by show tl (stepT s) ++ ([44, 32] ++ _) = _; rw [tl_stepT]; simp⟩
      obtain ⟨q, e⟩ := e
      rw [e]
      exact no_ask_head (hs.1.free (by decide)) fun z => hs.1.no.2 (ext_tl (z.trans (by decide +kernel)))
/-! ### a line -/
def behindT (l : Ln) : Str := (if l.keep.isSome = true then ("ask " : Str) else "") ++ Txt.join " or " (listsT l)
theorem lineT_eq (l : Ln) : lineT l = testsT l.tests ++ (": " : Str) ++ behindT l := by
  refine ext_tl ?_
  unfold lineT behindT
  rw [tl_append, tl_append, tl_append, tl_append, tl_append, tl_append, List.append_assoc]
theorem part_line {l : Ln} (h : LnOk l) : Txt.partition (lineT l) ": " = (testsT l.tests, (": " : Str), behindT l) := by
  rw [lineT_eq]
  exact partition_app (s := 58) (S := [32]) tl_colon (tests_free h.tests.2 (by decide) (by decide) (by decide))
theorem rp_line {l : Ln} (h : LnOk l) : Txt.removeprefix (behindT l) "ask " = Txt.join " or " (listsT l) := by
  unfold behindT
  cases hk : l.keep with
  | some k => exact rp_yes _
  | none =>
    have e : (("" : Str) ++ Txt.join " or " (listsT l)) = stepsT l.steps := by
      refine ext_tl ?_
      rw [tl_append, tl_txtjoin]
      unfold listsT
      rw [hk]
      rfl
    have e2 : Txt.join " or " (listsT l) = stepsT l.steps := by
      refine ext_tl ?_
      rw [tl_txtjoin]
      unfold listsT
      rw [hk]
      rfl
    rw [show (if (none : Option (List (Str × Str))).isSome = true then ("ask " : Str) else "") = "" from rfl, e, e2]
    exact rp_no h.steps.2
theorem line_free {l : Ln} (h : LnOk l) : 10 ∉ tl (lineT l) := by
  rw [lineT, tl_append, tl_append, tl_append, tl_colon]
  simp only [List.mem_append, not_or]
  refine ⟨⟨⟨tests_free h.tests.2 (by decide) (by decide) (by decide), by decide⟩, ?_⟩, join_free (by rw [tl_or]; decide) fun p hp => ?_⟩
  · split
    · rw [tl_ask]; decide
    · decide +kernel
  · unfold listsT at hp
    rcases List.mem_cons.mp hp with rfl | hp
    · exact steps_free h.steps.2 (by decide) (by decide) (by decide)
    · cases hk : l.keep with
      | none => rw [hk] at hp; cases hp
      | some k =>
        rw [hk] at hp
        rw [List.mem_singleton.mp hp]
        exact steps_free (h.keep k hk).2 (by decide) (by decide) (by decide)
/-! ### the whole -/
theorem split_head {ns : List Str} (h : ∀ n ∈ ns, WordT n) : Txt.split (Txt.join " " (("registers" : Str) :: ns)) " " = ("registers" : Str) :: ns := by
  refine split_join (s := 32) (S := []) tl_sp (by decide +kernel) (by simp) fun p hp => ?_
  rcases List.mem_cons.mp hp with rfl | hp
  · decide +kernel
  · exact (h p hp).free (by decide)
theorem split_rule {ns : List Str} {ls : List Ln} (h : ∀ n ∈ ns, WordT n) (hl : ∀ l ∈ ls, LnOk l) : Txt.split (ruleT ns ls) "\n" = Txt.join " " ("registers" :: ns) :: ls.map lineT := by
  refine split_join (s := 10) (S := []) tl_nl (by decide +kernel) (by simp) fun p hp => ?_
  rcases List.mem_cons.mp hp with rfl | hp
  · refine join_free (by rw [tl_sp]; decide) fun q hq => ?_
    rcases List.mem_cons.mp hq with rfl | hq
    · decide +kernel
    · exact (h q hq).free (by decide)
  · obtain ⟨l, z, rfl⟩ := List.mem_map.mp hp
    exact line_free (hl l z)
/-! ### how long -/
theorem joinL_len {S : List Nat} {m : Nat} : ∀ {ps : List (List Nat)}, (∀ p ∈ ps, p.length ≤ m) → (joinL S ps).length ≤ ps.length * (m + S.length)
  | [], _ => by simp [joinL]
  | [p], h => by
    have := h p (List.mem_singleton.mpr rfl)
    show p.length ≤ 1 * (m + S.length)
    omega
  | p :: q :: r, h => by
    have h1 := h p List.mem_cons_self
    have ih := joinL_len (S := S) (ps := q :: r) fun z hz => h z (List.mem_cons_of_mem _ hz)
    rw [joinL, List.length_append, List.length_append, List.length_cons, Nat.succ_mul]
    omega
theorem join_len {y : Str} {ps : List Str} {m k : Nat} (h : ∀ p ∈ ps, p.length ≤ m) (hk : ps.length ≤ k) : (Txt.join y ps).length ≤ k * (m + y.length) := by
  rw [len_tl, tl_txtjoin, len_tl y]
  refine Nat.le_trans (joinL_len (m := m) fun p hp => ?_) (by rw [List.length_map]; exact Nat.mul_le_mul_right _ hk)
  obtain ⟨z, hz, rfl⟩ := List.mem_map.mp hp
  rw [← len_tl]
  exact h z hz
theorem step_len {s : Str × Str} (h : StepOk s) : (stepT s).length ≤ 30 := by
  have a := h.1.few
  have b := h.2.few
  rw [len_tl] at a b ⊢
  rw [tl_stepT]
  simp only [List.length_append, List.length_cons, List.length_nil]
  omega
theorem test_len {s : Str × Str × Bool} (h : TestOk s) : (testT s).length ≤ 30 := by
  have a := h.1.few
  have b := h.2.few
  rw [len_tl] at a b ⊢
  rw [tl_testT]
  split <;> simp only [List.length_append, List.length_cons, List.length_nil] <;> omega
theorem steps_len {l : List (Str × Str)} (n : l.length ≤ 4) (h : ∀ s ∈ l, StepOk s) : (stepsT l).length ≤ 200 := by
  unfold stepsT
  split
  · decide +kernel
  · have := join_len (y := ", ") (ps := l.map stepT) (m := 30) (k := 4) (fun p hp => by obtain ⟨s, hs, rfl⟩ := List.mem_map.mp hp; exact step_len (h s hs)) (by rw [List.length_map]; exact n)
    rw [show (", " : Str).length = 2 by decide +kernel] at this
    omega
theorem tests_len {l : List (Str × Str × Bool)} (n : l.length ≤ 4) (h : ∀ s ∈ l, TestOk s) : (testsT l).length ≤ 200 := by
  unfold testsT
  split
  · decide +kernel
  · have := join_len (y := ", ") (ps := l.map testT) (m := 30) (k := 4) (fun p hp => by obtain ⟨s, hs, rfl⟩ := List.mem_map.mp hp; exact test_len (h s hs)) (by rw [List.length_map]; exact n)
    rw [show (", " : Str).length = 2 by decide +kernel] at this
    omega
theorem lists_len {l : Ln} (h : LnOk l) : (listsT l).length ≤ 2 ∧ ∀ p ∈ listsT l, p.length ≤ 200 := by
  unfold listsT
  cases hk : l.keep with
  | none => exact ⟨Nat.le_of_ble_eq_true rfl, fun p hp => by rw [List.mem_singleton.mp hp]; exact steps_len h.steps.1 h.steps.2⟩
  | some k =>
    refine ⟨Nat.le_of_ble_eq_true rfl, fun p hp => ?_⟩
    simp only [List.mem_cons, List.not_mem_nil, or_false] at hp
    rcases hp with rfl | rfl
    · exact steps_len h.steps.1 h.steps.2
    · exact steps_len (h.keep k hk).1 (h.keep k hk).2
theorem lists_join_len {l : Ln} (h : LnOk l) : (Txt.join " or " (listsT l)).length ≤ 500 := by
  have := join_len (y := " or ") (lists_len h).2 (lists_len h).1
  rw [show (" or " : Str).length = 4 by decide +kernel] at this
  omega
theorem line_len {l : Ln} (h : LnOk l) : (lineT l).length ≤ 800 := by
  have a := tests_len h.tests.1 h.tests.2
  have b := lists_join_len h
  rw [len_tl] at a b ⊢
  rw [lineT, tl_append, tl_append, tl_append, tl_colon]
  simp only [List.length_append, List.length_cons, List.length_nil]
  have : (tl (if l.keep.isSome = true then ("ask " : Str) else "")).length ≤ 4 := by
    split
    · rw [tl_ask]; decide
    · decide +kernel
  omega
theorem head_len {ns : List Str} (n : ns.length ≤ 3) (h : ∀ w ∈ ns, WordT w) : (Txt.join " " ("registers" :: ns)).length ≤ 100 := by
  have := join_len (y := " ") (ps := "registers" :: ns) (m := 9) (k := 4) (fun p hp => ?_) (by rw [List.length_cons]; omega)
  · rw [show (" " : Str).length = 1 by decide +kernel] at this
    omega
  · rcases List.mem_cons.mp hp with rfl | hp
    · decide +kernel
    · exact Nat.le_trans (h p hp).few (by decide)
theorem rule_len {ns : List Str} {ls : List Ln} (n : ns.length ≤ 3) (h : ∀ w ∈ ns, WordT w) (m : ls.length ≤ 8) (hl : ∀ l ∈ ls, LnOk l) : (ruleT ns ls).length ≤ 9000 := by
  have := join_len (y := "\n") (ps := Txt.join " " ("registers" :: ns) :: ls.map lineT) (m := 800) (k := 9) (fun p hp => ?_) (by rw [List.length_cons, List.length_map]; omega)
  · rw [show ("\n" : Str).length = 1 by decide +kernel] at this
    exact Nat.le_trans this (by decide)
  · rcases List.mem_cons.mp hp with rfl | hp
    · exact Nat.le_trans (head_len n h) (by decide)
    · obtain ⟨l, z, rfl⟩ := List.mem_map.mp hp
      exact line_len (hl l z)
theorem sum_len {m : Nat} : ∀ {ps : List Str}, (∀ p ∈ ps, p.length ≤ m) → (ps.map (·.length)).sum ≤ ps.length * m
  | [], _ => by simp
  | p :: ps, h => by
    have := h p List.mem_cons_self
    have ih := sum_len (ps := ps) fun z hz => h z (List.mem_cons_of_mem _ hz)
    rw [List.map_cons, List.sum_cons, List.length_cons, Nat.succ_mul]
    omega
end SM
set_option Elab.async false
set_option linter.all false
set_option maxRecDepth 100000
set_option maxHeartbeats 2000000
/-! [.. for .. in a tuple, or in a list], item by item: the list and its data -/
namespace SM
open PySem PySem.Spec PyProof.Rows L2
variable {K : PySem.W.Frag} {σ : L2.St} {H0 : Hp}
theorem tupLs {tx : TE} {g : TG} {te : TE} {vs : List Nat} {xs : List V} {rs : List PyData} {H : Hp} {Q : VK} (k0 : Keep [] H0 H) (hl : xs.length ≤ 100) (len : rs.length = xs.length)
    (hx : ∀ H, Keep [] H0 H → ∀ Q : VK, (∀ t H', Keep [] H H' → SqT K H' t xs → Q (.ref t) H') → tx σ H Q)
    (he : ∀ (i : Nat) x r H2, xs[i]? = some x → rs[i]? = some r → Keep [] H0 H2 → ∀ Q' : VK, (∀ y H', Keep [] H2 H' → Dt K H' y r → Q' y H') → g x (wipe σ vs) H2 fun σ2 H3 => wipe σ2 vs = wipe σ vs ∧ te σ2 H3 Q')
    (k : ∀ D ys H', Keep [] H H' → H' D = some (.lst ys) → DtAll K H' ys rs → Q (.ref D) H') : tLc (iTup K tx) g tYes te vs σ H Q := by
  refine hx H k0 _ fun t H1 k1 hq => ⟨t, rfl, ⟨xs, hq⟩, fun D hD => ?_⟩
  refine lc_tup (xs := xs) (Qd := fun H' => Q (.ref D) H') (fun i H' => ∃ acc, Keep [] H1 H' ∧ H' D = some (.lst acc) ∧ acc.length = i ∧ DtAll K H' acc (rs.take i)) ⟨[], Keep.new hD, upd_same, rfl, by simpa using DtAll.nil⟩ ?_ ?_ ?_
  · rintro n H' _ ⟨acc, k2, _⟩
    exact seqT_keep k2 Soft.nil hq
  · rintro n x H' hx' ⟨acc, k2, e2, en, da⟩
    have hn : n < xs.length := (List.getElem?_eq_some_iff.mp hx').1
    obtain ⟨r, hr⟩ : ∃ r, rs[n]? = some r := ⟨_, List.getElem?_eq_getElem (show n < rs.length by omega)⟩
    refine he n x r H' hx' hr (k0.trans (k1.trans k2)) _ fun y H2 k3 dy => ?_
    refine ⟨acc, k3.to e2, ?_, acc ++ [y], Keep.own (k2.trans k3) hD, upd_same, by rw [List.length_append, en]; rfl, ?_⟩
    · rw [en]
      exact Nat.lt_of_lt_of_le (show n < 101 by omega) (by decide)
    · rw [List.take_succ, hr, Option.toList_some]
      exact ((da.k0 k3).append (.cons dy .nil)).keep (Keep.at_ (m := [D]) (by simp)) (Soft.lst (k3.to e2))
  · rintro H' ⟨acc, k2, e2, en, da⟩
    rw [← len, List.take_length] at da
    exact k D acc H' (k1.trans k2) e2 da
theorem lstLs {tx : TE} {g : TG} {te : TE} {vs : List Nat} {xs : List V} {rs : List PyData} {H : Hp} {Q : VK} (k0 : Keep [] H0 H) (hl : xs.length ≤ 100) (len : rs.length = xs.length)
    (hx : ∀ H, Keep [] H0 H → ∀ Q : VK, (∀ t H', Keep [] H H' → SqL K H' t xs → Q (.ref t) H') → tx σ H Q)
    (he : ∀ (i : Nat) x r H2, xs[i]? = some x → rs[i]? = some r → Keep [] H0 H2 → ∀ Q' : VK, (∀ y H', Keep [] H2 H' → Dt K H' y r → Q' y H') → g x (wipe σ vs) H2 fun σ2 H3 => wipe σ2 vs = wipe σ vs ∧ te σ2 H3 Q')
    (k : ∀ D ys H', Keep [] H H' → H' D = some (.lst ys) → DtAll K H' ys rs → Q (.ref D) H') : tLc (iList K tx) g tYes te vs σ H Q := by
  refine hx H k0 _ fun t H1 k1 hq => ⟨t, rfl, ⟨xs, hq⟩, fun D hD => ?_⟩
  refine lc_list (xs := xs) (Qd := fun H' => Q (.ref D) H') (fun i H' => ∃ acc, Keep [] H1 H' ∧ H' D = some (.lst acc) ∧ acc.length = i ∧ DtAll K H' acc (rs.take i)) ⟨[], Keep.new hD, upd_same, rfl, by simpa using DtAll.nil⟩ ?_ ?_ ?_
  · rintro n H' _ ⟨acc, k2, _⟩
    exact k2.same.seq hq
  · rintro n x H' hx' ⟨acc, k2, e2, en, da⟩
    have hn : n < xs.length := (List.getElem?_eq_some_iff.mp hx').1
    obtain ⟨r, hr⟩ : ∃ r, rs[n]? = some r := ⟨_, List.getElem?_eq_getElem (show n < rs.length by omega)⟩
    refine he n x r H' hx' hr (k0.trans (k1.trans k2)) _ fun y H2 k3 dy => ?_
    refine ⟨acc, k3.to e2, ?_, acc ++ [y], Keep.own (k2.trans k3) hD, upd_same, by rw [List.length_append, en]; rfl, ?_⟩
    · rw [en]
      exact Nat.lt_of_lt_of_le (show n < 101 by omega) (by decide)
    · rw [List.take_succ, hr, Option.toList_some]
      exact ((da.k0 k3).append (.cons dy .nil)).keep (Keep.at_ (m := [D]) (by simp)) (Soft.lst (k3.to e2))
  · rintro H' ⟨acc, k2, e2, en, da⟩
    rw [← len, List.take_length] at da
    exact k D acc H' (k1.trans k2) e2 da
end SM
set_option Elab.async false
set_option linter.all false
set_option maxRecDepth 100000
set_option maxHeartbeats 2000000
/-! t * 0 of a tuple of one -/
namespace SN
open PySem PySem.Spec PyProof.Rows L2
theorem tuple_mul0 (l : Addr) (y : Value) (n : Nat) (dd : Option Addr) (sl : Array (Option Value)) (u : Tok) :
    Meets (Builtin.«tuple.__mul__» ⟨[.ref l, .int 0 u], []⟩) (fun _ R s => s.heap.get? l = some { cls := .type "tuple", dict := dd, data := .seq #[y] n, slots := sl } ∧
      R (.ok (.ret (Value.ref s.heap.objs.size))) { s with heap := s.heap.push { cls := Value.type "tuple", data := Data.seq #[] } }) :=
  .of_wp fun prog w A R s h => by
    obtain ⟨hp, g, d, tk, os⟩ := s
    obtain ⟨hl, h⟩ := h
    have f1 := AutoSeq1.idx_int
    wp_walk using wpAny_loadPart' hl
    repeat (first
      | (refine wpAny_ite_false (by decide) ?_; wp_walk using wpAny_loadPart' hl)
      | (refine wpAny_ite_true (by decide) ?_; wp_walk using wpAny_loadPart' hl)
      | (refine wpAny_ite_false (by rfl) ?_; wp_walk using wpAny_loadPart' hl)
      | (refine wpAny_ite_true (by rfl) ?_; wp_walk using wpAny_loadPart' hl))
    exact ⟨_, rfl, h⟩
end SN
namespace SM
open PySem PySem.Spec PyProof.Rows L2
section
variable {X : Cx}
def rRep0 (K : PySem.W.Frag) : R2 := fun x y H Q => ∃ l v, x = .ref l ∧ y = .int 0 ∧ SqT K H l [v] ∧ ∀ p, H p = none → Q (.ref p) (upd H p (.tup []))
theorem op_rep0 : OpR X (binaryOp .Mult) (rRep0 X.K) := by
  intro pins s σ H x y v u Q I rx ry h
  obtain ⟨l, x0, rfl, rfl, hT, q⟩ := h
  cases rx
  obtain ⟨t, rfl⟩ := ry
  obtain ⟨its, r, ⟨⟨cls, dd, data, sl⟩, ho, hc, n, hd⟩, hs⟩ := I.tuple hT
  simp only at hc hd
  subst hc hd
  match its, r with
  | [y0], .cons r0 .nil =>
    refine wpAny_binaryOp_repeat_ref (T := "tuple") (U := "int") (by decide) ⟨_, ho, rfl⟩ (fun s' => typeIs_int s' 0 t) noFill_tuple_mul PySem.F.fills_int_mul PySem.F.slot_int_rmul repeat_tuple PySem.F.slot_int_index.lookup
      (call_meets PySem.F.slot_int_rmul (typeIs_int s 0 t) PySem.F.entry_int_rmul (PySem.F.args_int_rmul_2 _ _) (int_rmul_tuple 0 t l [y0].toArray n dd sl)
        ⟨ho, rfl, ⟨_, ho, rfl⟩, call_meets PySem.F.slot_tuple_mul ⟨_, ho, rfl⟩ PySem.F.entry_tuple_mul (PySem.F.args_tuple_mul_2 _ _) (SN.tuple_mul0 l y0 n dd sl t) ⟨ho, ?_⟩⟩)
    refine ⟨.ref s.heap.objs.size, _, I.laid (t' := s.toks) (o := .tup []) (fun b ob q => Heap.get?_push_of_some _ q) (Nat.le_refl _) ?_, rfl, q _ (I.hok.fresh (Nat.le_refl _))⟩
    exact ⟨Nat.zero_le _, [], .nil, IsTup.new _ _⟩
def rRep01 (K : PySem.W.Frag) : R2 := fun x y H Q => rRep0 K x y H Q ∨ rRep1 K x y H Q
theorem op_rep01 : OpR X (binaryOp .Mult) (rRep01 X.K) := op_rep0.or op_rep1
end
end SM
set_option Elab.async false
set_option linter.all false
set_option maxRecDepth 100000
set_option maxHeartbeats 2000000
/-! f(k = v): a def of the top called with keywords alone -/
namespace SM
open PySem PySem.Spec PyProof.Rows L2
section
variable {X : Cx} {CX : CXT} {k : Nat} {f : Addr} {fd : FuncData} {ps ks : List Str} {sp : Sp} {E : XK} {x : Str} {p pos : Pos} {kws : List Keyword} {tk : TA} {g : List Value → List Value → List Value} {gV : List V → List V → List V}
theorem pe_callN0 (F : FnOk X.prog X.w X.K X.mg X.base CX k f fd ps sp) (hr : Room k X.A) (hg : Gl X x) (hm : X.mg x = some (.ref f)) (hk : PySem.W.keepIn X.K (.ref f) = true) (hb : KBn X.K fd ps 0 ks g gV) (hx : Passes CX X E)
    (hkw : PK X kws tk) (hall : (backToKw pos (keywordEach kws X.env)).all (·.1.isSome) = true := by rfl) (hks : (backToKw pos (keywordEach kws X.env)).filterMap (·.1) = ks := by rfl)
    (hdb : (x == ("__debug__" : Str)) = false := by decide)
    (hpl : ((backTo pos (starEach [] X.env)).any (·.1) || (backToKw pos (keywordEach kws X.env)).any (·.1.isNone)) = false := by rfl) :
    PE X (.Call (.Name x p) [] kws pos) (tCallN 0 ks.length sp gV E tNil tk) := by
  refine ⟨fun pins s σ H Q I h => ?_⟩
  refine wpAny_Call_Name_kw (ld_glob I hg hm ?_ hdb)
  refine PySem.W.callWith_KW0 (h₀ := X.base) I.ok.mod.kin hk hall ?_ hpl
  refine thn (hkw.run pos pins s σ H _ I h) fun ws s2 ⟨zs, H2, I2, rz, l1, l2, q2⟩ => ⟨I2.kIn, ?_⟩
  rw [hks]
  exact run_fnN (us := []) (vs := []) F hr hb hx I2 .nil rz rfl l2 q2
end
/-- a def without defaults, its arguments written by name -/
theorem kbindsN {K : PySem.W.Frag} {x qual : Str} {params : Arguments} {body : List Stmt} {scope : Scope} {kws : List (Str × V)} {f : Addr} {fd : FuncData} {ps : List Str} (F : FunD K x qual params body scope [] kws f fd) (n : Nat) (ks : List Str) (g : {α : Type} → List α → List α → List α)
    (hrel : ∀ {vs zs : List V} {us ws : List Value}, Vals vs us → Vals zs ws → Vals (g vs zs) (g us ws))
    (h : ∀ (kV doc pm : Value) (an : Option Addr) (cdv ct : Value) (us ws : List Value), us.length = n → ws.length = ks.length → bindArgs (PySem.W.fnOf x qual params body scope .none kV doc pm an cdv ct) ⟨us, ks.zip ws⟩ = pure (ps.zip (g us ws))) :
    KBn K fd ps n ks (fun us ws => g us ws) (fun vs zs => g vs zs) := by
  obtain ⟨oc, od, dV, kV, doc, pm, an, cdv, ct, osl, rfl, lk, hcd, hD, hK⟩ := F.ex
  rcases hD with ⟨_, rfl⟩ | ⟨e, _⟩
  · exact ⟨fun s us ws X l1 l2 => .of_eq (h kV doc pm an cdv ct us ws l1 l2), fun r1 r2 => hrel r1 r2⟩
  · exact absurd rfl e
/-- a def of the top that is called positionally, and by its parameters' names -/
structure DefB (P : Program) (w : World) (K : PySem.W.Frag) (mg : Str → Option Value) (base : Heap) (CX : CXT) (k : Nat) (x : Str) (ps : List Str) (sp : Sp) : Prop where
  ex : ∃ fd, FnOk P w K mg base CX k (He.ga K x) fd ps sp ∧ Binds K fd ps [] ∧ KBn K fd ps 0 ps (fun us ws => us ++ ws) (fun vs zs => vs ++ zs)
  kp : PySem.W.keepIn K (.ref (He.ga K x)) = true
  at_ : mg x = some (.ref (He.ga K x))
theorem DefB.ok {P : Program} {w : World} {K : PySem.W.Frag} {mg : Str → Option Value} {base : Heap} {CX : CXT} {k : Nat} {x : Str} {ps : List Str} {sp : Sp} (h : DefB P w K mg base CX k x ps sp) : DefOk P w K mg base CX k x ps sp :=
  let ⟨⟨fd, a, b, _⟩, c, d⟩ := h
  ⟨⟨fd, a, b⟩, c, d⟩
theorem DefB.of {P : Program} {w : World} {K : PySem.W.Frag} {mg : Str → Option Value} {base : Heap} {CX : CXT} {k : Nat} {x : Str} {ps : List Str} {sp : Sp} {fas : List He.Fa} {fns : List He.DefD} (W : Cw fas fns K mg) (i j : Nat) {st : Stmt} {N : List Str} (hd : fns[i]? = some ⟨(x, none), x, x, defArgs st, defBody st, defScope st, [], []⟩) (hg : fas[j]? = some (.glo x))
    (S : FnScope N ps (defScope st)) (bnd : ∀ (kV doc pm : Value) (an : Option Addr) (cdv ct : Value) (us : List Value), us.length = ps.length → bindArgs (PySem.W.fnOf x x (defArgs st) (defBody st) (defScope st) .none kV doc pm an cdv ct) ⟨us, []⟩ = pure (ps.zip us))
    (bndK : ∀ (kV doc pm : Value) (an : Option Addr) (cdv ct : Value) (ws : List Value), ws.length = ps.length → bindArgs (PySem.W.fnOf x x (defArgs st) (defBody st) (defScope st) .none kV doc pm an cdv ct) ⟨[], ps.zip ws⟩ = pure (ps.zip ws))
    (len : ∀ vs H Q E, sp vs H Q E → vs.length = ps.length)
    (body : ∀ (cdv : Value) (A : Around) (outer : List Env) (s : Shared) (H : Hp) (vs : List V) (Q : VK) (E : XK), Room k (A.deeper (envOfC x (defScope st) s.heap.objs.size (He.ga K x) cdv)) → sp vs H Q E →
      ∃ t, PSs (cxOf CX P w K mg base N x (defScope st) (He.ga K x) cdv A outer s H E) (defBody st) t ∧ t { nx := fun _ H' => Q .non H', rt := Q } (start N vs) H) :
    DefB P w K mg base CX (k + 1) x ps sp := by
  obtain ⟨fd, F⟩ := W.says.def_ i hd
  refine ⟨⟨fd, FunD.ok F S len body, FunD.bindsN F bnd, kbindsN F 0 ps (fun us ws => us ++ ws) (fun r1 r2 => r1.append r2) fun kV doc pm an cdv ct us ws l1 l2 => ?_⟩, F.kp, W.glo j hg⟩
  obtain rfl := List.eq_nil_of_length_eq_zero l1
  exact bndK kV doc pm an cdv ct ws l2
end SM
set_option Elab.async false
set_option linter.all false
set_option maxRecDepth 100000
set_option maxHeartbeats 4000000
namespace La
open PySem PySem.Spec PyProof.Rows L2 SM
/-! ### what of the run is asked besides -/
def errs01 : List (Str × Str) := [("BadRegisters", "value"), ("BadLines", "value"), ("BadLine", "position")]
def words01 : List Str := ["here", "new", "nothing", "is", "not", "from", "or", "ask", "do", "otherwise"]
def exA0 (K : PySem.W.Frag) : Bool := (SM.kTup? K (He.ga K "WORDS_OF_TEXTS") words01 && SM.kTup? K (He.ga K "PLACES") ["beside", "elder"]) && errs01.all fun e => SM.err? K (He.ga K e.1) (He.ma K (He.ga K e.1) "__init__") && He.eqO (PySem.W.findIn K (.ref (He.ga K e.1)) e.2) (some none) && L2.xfB K (He.ga K e.1)
def tys02 : List String := ["NoneType", "int", "str", "tuple", "list", "dict", "bool"]
def clsM (K : PySem.W.Frag) (c : Str) : Bool :=
  (He.eqO (PySem.W.findIn K (.ref (He.ga K c)) "__class__") (some (some (.builtin "object.__class__"))) && (He.eqO (PySem.W.specialIn K (.builtin "object.__class__") "__get__") (some (some (.builtin "getset_descriptor.__get__"))) && (PySem.W.takesIn K (.builtin "object.__class__") == some true && PySem.W.mroIn K (He.ga K c) (.type "object") == some true))) &&
  ((He.eqO (PySem.W.findIn K (.ref (He.ga K c)) "__eq__") (some (some (.ref (He.ma K (He.ga K c) "__eq__")))) && PySem.W.isFn K (.ref (He.ma K (He.ga K c) "__eq__"))) && tys02.all fun n => PySem.W.kitOne K (.type n) (.ref (He.ga K c)) == some false && PySem.W.subIn K (.type n) (.ref (He.ga K c)) == some false)
def ruleM (K : PySem.W.Frag) : Bool := He.eqO (PySem.W.findIn K (.ref (He.ga K "Rule")) "__ne__") (some (some (.builtin "object.__ne__"))) && tys02.all fun n => PySem.W.subIn K (.ref (He.ga K "Rule")) (.type n) == some false
def exM (K : PySem.W.Frag) : Bool := clsM K "Rule" && ruleM K
def top (i : Nat) : Stmt := PySem.Challenge.pw_stillmine_k80_texts_of_rules.main.body.getD i (.Pass ⟨0, 0, 0, 0⟩)
def d_BadRegisters___init__ : He.DefD := ⟨("BadRegisters", some "__init__"), "__init__", "BadRegisters.__init__", defArgs (inClass (top 3) 0), defBody (inClass (top 3) 0), defScope (inClass (top 3) 0), [], []⟩
def d_BadLines___init__ : He.DefD := ⟨("BadLines", some "__init__"), "__init__", "BadLines.__init__", defArgs (inClass (top 4) 0), defBody (inClass (top 4) 0), defScope (inClass (top 4) 0), [], []⟩
def d_BadLine___init__ : He.DefD := ⟨("BadLine", some "__init__"), "__init__", "BadLine.__init__", defArgs (inClass (top 5) 0), defBody (inClass (top 5) 0), defScope (inClass (top 5) 0), [], []⟩
def d_Plan___init__ : He.DefD := ⟨("Plan", some "__init__"), "__init__", "Plan.__init__", defArgs (inClass (top 8) 0), defBody (inClass (top 8) 0), defScope (inClass (top 8) 0), [], []⟩
def d_choice_of : He.DefD := ⟨("choice_of", none), "choice_of", "choice_of", defArgs (top 9), defBody (top 9), defScope (top 9), [], []⟩
def d_Rule___init__ : He.DefD := ⟨("Rule", some "__init__"), "__init__", "Rule.__init__", defArgs (inClass (top 13) 0), defBody (inClass (top 13) 0), defScope (inClass (top 13) 0), [], []⟩
def d_Rule___eq__ : He.DefD := ⟨("Rule", some "__eq__"), "__eq__", "Rule.__eq__", defArgs (inClass (top 13) 6), defBody (inClass (top 13) 6), defScope (inClass (top 13) 6), [], []⟩
def d_is_word : He.DefD := ⟨("is_word", none), "is_word", "is_word", defArgs (top 14), defBody (top 14), defScope (top 14), [], []⟩
def d_are_registers : He.DefD := ⟨("are_registers", none), "are_registers", "are_registers", defArgs (top 15), defBody (top 15), defScope (top 15), [], []⟩
def d_refuse_bad_lines : He.DefD := ⟨("refuse_bad_lines", none), "refuse_bad_lines", "refuse_bad_lines", defArgs (top 16), defBody (top 16), defScope (top 16), [], []⟩
def d_is_line : He.DefD := ⟨("is_line", none), "is_line", "is_line", defArgs (top 17), defBody (top 17), defScope (top 17), [], []⟩
def d_are_at_most_four : He.DefD := ⟨("are_at_most_four", none), "are_at_most_four", "are_at_most_four", defArgs (top 18), defBody (top 18), defScope (top 18), [], []⟩
def d_is_test : He.DefD := ⟨("is_test", none), "is_test", "is_test", defArgs (top 19), defBody (top 19), defScope (top 19), [], []⟩
def d_are_steps : He.DefD := ⟨("are_steps", none), "are_steps", "are_steps", defArgs (top 20), defBody (top 20), defScope (top 20), [], []⟩
def d_is_step : He.DefD := ⟨("is_step", none), "is_step", "is_step", defArgs (top 21), defBody (top 21), defScope (top 21), [], []⟩
def d_rule_text : He.DefD := ⟨("rule_text", none), "rule_text", "rule_text", defArgs (top 23), defBody (top 23), defScope (top 23), [], []⟩
def d_read_rule : He.DefD := ⟨("read_rule", none), "read_rule", "read_rule", defArgs (top 24), defBody (top 24), defScope (top 24), [], []⟩
def d_line_text : He.DefD := ⟨("line_text", none), "line_text", "line_text", defArgs (top 25), defBody (top 25), defScope (top 25), [], []⟩
def d_tests_text : He.DefD := ⟨("tests_text", none), "tests_text", "tests_text", defArgs (top 26), defBody (top 26), defScope (top 26), [], []⟩
def d_steps_text : He.DefD := ⟨("steps_text", none), "steps_text", "steps_text", defArgs (top 27), defBody (top 27), defScope (top 27), [], []⟩
def d_read_line : He.DefD := ⟨("read_line", none), "read_line", "read_line", defArgs (top 28), defBody (top 28), defScope (top 28), [], []⟩
def d_read_test : He.DefD := ⟨("read_test", none), "read_test", "read_test", defArgs (top 29), defBody (top 29), defScope (top 29), [], []⟩
def d_read_steps : He.DefD := ⟨("read_steps", none), "read_steps", "read_steps", defArgs (top 30), defBody (top 30), defScope (top 30), [], []⟩
def d_read_step : He.DefD := ⟨("read_step", none), "read_step", "read_step", defArgs (top 31), defBody (top 31), defScope (top 31), [], []⟩
def d__law_source : He.DefD := ⟨("_law_source", none), "_law_source", "_law_source", defArgs (top 33), defBody (top 33), defScope (top 33), [], []⟩
def d__law_draw : He.DefD := ⟨("_law_draw", none), "_law_draw", "_law_draw", defArgs (top 34), defBody (top 34), defScope (top 34), [], []⟩
def d__law_pick : He.DefD := ⟨("_law_pick", none), "_law_pick", "_law_pick", defArgs (top 35), defBody (top 35), defScope (top 35), [], []⟩
def d__law_mixed : He.DefD := ⟨("_law_mixed", none), "_law_mixed", "_law_mixed", defArgs (top 36), defBody (top 36), defScope (top 36), [], []⟩
def d__law_steps : He.DefD := ⟨("_law_steps", none), "_law_steps", "_law_steps", defArgs (top 37), defBody (top 37), defScope (top 37), [], []⟩
def d__law_tests : He.DefD := ⟨("_law_tests", none), "_law_tests", "_law_tests", defArgs (top 38), defBody (top 38), defScope (top 38), [], []⟩
def d__law_good : He.DefD := ⟨("_law_good", none), "_law_good", "_law_good", defArgs (top 39), defBody (top 39), defScope (top 39), [], []⟩
def d__law_noted_as : He.DefD := ⟨("_law_noted_as", none), "_law_noted_as", "_law_noted_as", defArgs (top 40), defBody (top 40), defScope (top 40), [], []⟩
def d__law_plan : He.DefD := ⟨("_law_plan", none), "_law_plan", "_law_plan", defArgs (top 41), defBody (top 41), defScope (top 41), [], []⟩
def d__law_rule : He.DefD := ⟨("_law_rule", none), "_law_rule", "_law_rule", defArgs (top 42), defBody (top 42), defScope (top 42), [], []⟩
def d__law_written : He.DefD := ⟨("_law_written", none), "_law_written", "_law_written", defArgs (top 43), defBody (top 43), defScope (top 43), [], []⟩
def d__law_lines : He.DefD := ⟨("_law_lines", none), "_law_lines", "_law_lines", defArgs (top 44), defBody (top 44), defScope (top 44), [], []⟩
def d__law_great : He.DefD := ⟨("_law_great", none), "_law_great", "_law_great", defArgs (top 45), defBody (top 45), defScope (top 45), [], []⟩
def d_law : He.DefD := ⟨("law", none), "law", "law", defArgs (top 46), defBody (top 46), defScope (top 46), [], []⟩
def fns : List He.DefD := [d_BadRegisters___init__, d_BadLines___init__, d_BadLine___init__, d_Plan___init__, d_choice_of, d_Rule___init__, d_Rule___eq__, d_is_word, d_are_registers, d_refuse_bad_lines, d_is_line, d_are_at_most_four, d_is_test, d_are_steps, d_is_step, d_rule_text, d_read_rule, d_line_text, d_tests_text, d_steps_text, d_read_line, d_read_test, d_read_steps, d_read_step, d__law_source, d__law_draw, d__law_pick, d__law_mixed, d__law_steps, d__law_tests, d__law_good, d__law_noted_as, d__law_plan, d__law_rule, d__law_written, d__law_lines, d__law_great, d_law]
def fas : List He.Fa := [.glo "_wall", .glo "UpgradeError", .glo "BadRegisters", .glo "BadLines", .glo "BadLine", .glo "BadText", .glo "Plan", .glo "choice_of", .glo "Rule", .glo "is_word", .glo "are_registers", .glo "refuse_bad_lines", .glo "is_line", .glo "are_at_most_four", .glo "is_test", .glo "are_steps", .glo "is_step", .glo "rule_text", .glo "read_rule", .glo "line_text", .glo "tests_text", .glo "steps_text", .glo "read_line", .glo "read_test", .glo "read_steps", .glo "read_step", .glo "_law_source", .glo "_law_draw", .glo "_law_pick", .glo "_law_mixed", .glo "_law_steps", .glo "_law_tests", .glo "_law_good", .glo "_law_noted_as", .glo "_law_plan", .glo "_law_rule", .glo "_law_written", .glo "_law_lines", .glo "_law_great", .glo "law", .free "ValueError", .free "all", .free "bool", .free "enumerate", .free "int", .free "isinstance", .free "len", .free "list", .free "max", .free "min", .free "property", .free "range", .free "set", .free "str", .free "tuple", .glo "PLACES", .glo "WORDS_OF_TEXTS", .cls "Rule", .noat "Rule" "_registers", .noat "Rule" "_lines", .noat "Rule" "plan", .mkr "Rule", .meth "Rule" "__eq__", .cls "Plan", .noat "Plan" "spots", .noat "Plan" "elder", .noat "Plan" "choices", .mkr "Plan"]
abbrev R : PySem.W.OpenRow := PySem.W.OpenLaw.row PySem.Challenge.rw_stillmine_k80_texts_of_rules
def exB : PySem.W.Frag → Bool := fun K => exA0 K && exM K
def q_Rule_registers : SM.PropD := ⟨"Rule", "registers", "Rule.registers", defArgs (inClass (top 13) 1), defBody (inClass (top 13) 1), defScope (inClass (top 13) 1)⟩
def q_Rule_lines : SM.PropD := ⟨"Rule", "lines", "Rule.lines", defArgs (inClass (top 13) 2), defBody (inClass (top 13) 2), defScope (inClass (top 13) 2)⟩
def q_Rule_places : SM.PropD := ⟨"Rule", "places", "Rule.places", defArgs (inClass (top 13) 3), defBody (inClass (top 13) 3), defScope (inClass (top 13) 3)⟩
def prs : List SM.PropD := [q_Rule_registers, q_Rule_lines, q_Rule_places]
def adrs0 : List PySem.Addr := [3, 6, 31, 51, 70, 89, 108, 125, 134, 197, 206, 211, 218, 223, 230, 237, 242, 249, 254, 261, 266, 271, 276, 281, 288, 293, 300, 307, 314, 321, 328, 335, 342, 349, 354, 361, 368, 373, 378, 383]
def adrs1 : List PySem.Addr := [388, 0, 30, 50, 69, 88, 107, 124, 196, 48, 67, 86, 122, 132, 150, 194, 204, 209, 216, 221, 228, 235, 240, 247, 252, 259, 264, 269, 274, 279, 286, 291, 298, 305, 312, 319, 326, 333, 340, 347]
def adrs2 : List PySem.Addr := [352, 359, 366, 371, 376, 381, 386, 157, 165, 171, 46, 65, 84, 120, 148, 192, 155, 163, 169, 4, 135, 136, 133, 205, 210, 217, 222, 229, 236, 241, 248, 253, 260, 265, 270, 275, 280, 287, 292, 299]
def adrs3 : List PySem.Addr := [306, 313, 320, 327, 334, 341, 348, 353, 360, 367, 372, 377, 382, 387, 29, 32, 49, 68, 87, 106, 123, 126, 127, 130, 131, 158, 166, 172, 180, 195, 198, 199, 202, 203, 207, 208, 212, 213, 214, 215]
def adrs4 : List PySem.Addr := [219, 220, 224, 225, 226, 227, 231, 232, 233, 234, 238, 239, 243, 244, 245, 246, 250, 251, 255, 256, 257, 258, 262, 263, 267, 268, 272, 273, 277, 278, 282, 283, 284, 285, 289, 290, 294, 295, 296, 297]
def adrs5 : List PySem.Addr := [301, 302, 303, 304, 308, 309, 310, 311, 315, 316, 317, 318, 322, 323, 324, 325, 329, 330, 331, 332, 336, 337, 338, 339, 343, 344, 345, 346, 350, 351, 355, 356, 357, 358, 362, 363, 364, 365, 369, 370]
def adrs6 : List PySem.Addr := [374, 375, 379, 380, 384, 385, 47, 66, 85, 121, 149, 193, 42, 43, 44, 45, 61, 62, 63, 64, 80, 81, 82, 83, 118, 119, 144, 145, 146, 147, 156, 164, 170, 188, 189, 190, 191, 151, 152, 153]
def adrs7 : List PySem.Addr := [154, 159, 160, 161, 162, 167, 168]
def adrs : List PySem.Addr := adrs0 ++ adrs1 ++ adrs2 ++ adrs3 ++ adrs4 ++ adrs5 ++ adrs6 ++ adrs7
abbrev hk : PySem.W.Hook := SM.hookA adrs fas fns prs exB
def ob (s : PySem.W.SharedT) : SM.AlP := SM.obsA adrs fas fns prs exB (HandSHeadRun.getT s)
theorem ob_eq (s : PySem.W.SharedT) : ob s = hk.obs s.abs := SM.obsA_eq (HandSHeadRun.getT_eq s)
def loose0 : List PySem.Str := ["_wall", "UpgradeError", "BadRegisters", "BadLines", "BadLine", "BadText", "Plan", "choice_of", "PLACES", "WORDS_OF_TEXTS", "Rule", "is_word", "are_registers", "refuse_bad_lines", "is_line", "are_at_most_four", "is_test", "are_steps", "is_step", "rule_text", "read_rule", "line_text", "tests_text", "steps_text", "read_line", "read_test", "read_steps", "read_step", "_law_source", "_law_draw"]
def loose1 : List PySem.Str := ["_law_pick", "_law_mixed", "_law_steps", "_law_tests", "_law_good", "_law_noted_as", "_law_plan", "_law_rule", "_law_written", "_law_lines", "_law_great"]
def loose : List PySem.Str := loose0 ++ loose1
abbrev qv : Program := PySem.W.view R.prog [46]
theorem run (w : World) : HandSHeadRun.RunEq R qv hk ob 20000 loose w := by
  intro os
  kernel_rfl
section
variable {P : Program} {w : World} {K : PySem.W.Frag} {mg : Str → Option Value} {base : Heap}
abbrev s__law_draw : Stmt := (top 34)
abbrev N__law_draw : List Str := ["source", "span", "found"]
abbrev P__law_draw : List Str := ["source", "span"]
theorem sc__law_draw : FnScope N__law_draw P__law_draw (defScope s__law_draw) := ⟨rfl, rfl, rfl, by decide +kernel, rfl, by decide +kernel, by decide +kernel⟩
theorem D_law_draw (W : Cw fas fns K mg) : DefOk P w K mg base CX0 1 "_law_draw" P__law_draw spDraw := by
  refine DefOk.of W 25 27 (st := s__law_draw) rfl rfl sc__law_draw (fun _ _ _ _ _ _ us hl => match us, hl with | [_, _], _ => rfl) (fun vs H Q E h => ?_) (fun cdv A outer s H vs Q E hr h => ?_)
  · obtain ⟨a, span, rfl, _⟩ := h
    rfl
  · obtain ⟨a, span, rfl, ⟨x, y, ea, hx, hy, hy2⟩, hs, hs2, k⟩ := h
    refine ⟨_, PSs.nox (pss_cons (ps_if (pt_cmpR op_ge (pe_ix ix_seq (pv 0) pe_int (fun _ _ => rfl)) (pv 1) (nomark _)) (pss_cons (ps_set (i := 2) sc__law_draw.nd rfl (by first | exact Or.inl rfl | exact Or.inr rfl) (pe_op op_modN (pe_callTy call_int1 (by rfl) (W.fre 44) (by decide +kernel) (pa_cons (pe_ix ix_seq (pv 0) pe_int (fun _ _ => rfl)) pa_nil)) (pv 1))) (pss_cons (ps_asg (pe_op op_fdivN (pe_ix ix_seq (pv 0) pe_int (fun _ _ => rfl)) (pv 1)) (pg_sub (pv 0) pe_int set_list)) (pss_one (ps_ret (pv 2))))) pss_nil) (pss_cons (ps_asg (pe_op op_modN (pe_callTy call_int1 (by rfl) (W.fre 44) (by decide +kernel) (pa_cons (pe_op op_add (pe_op op_mul (pe_ix ix_seq (pv 0) pe_int (fun _ _ => rfl)) pe_int) pe_int) pa_nil)) pe_int) (pg_sub (pv 0) pe_int set_list)) (pss_one (ps_ret (pe_op op_modN (pe_callTy call_int1 (by rfl) (W.fre 44) (by decide +kernel) (pa_cons (pe_op op_fdivN (pe_op op_modN (pe_callTy call_int1 (by rfl) (W.fre 44) (by decide +kernel) (pa_cons (pe_op op_pow (pe_callTy call_int1 (by rfl) (W.fre 44) (by decide +kernel) (pa_cons (pe_ix ix_seq (pv 0) pe_int (fun _ _ => rfl)) pa_nil)) pe_int) pa_nil)) pe_int) pe_int) pa_nil)) (pv 1)))))), ?_⟩
    have ix0 : ∀ {H : Hp} {x y : Int}, H a = some (.lst [.int x, .int y]) → ∀ {Q : VK}, Q (.int x) H → rIx K (.ref a) (.int 0) H Q := by
      intro H x y e Q q
      exact .inl ⟨a, _, 0, _, rfl, rfl, SqL.of e, rfl, q⟩
    have ix1 : ∀ {H : Hp} {x y : Int}, H a = some (.lst [.int x, .int y]) → ∀ {Q : VK}, Q (.int y) H → rIx K (.ref a) (.int 1) H Q := by
      intro H x y e Q q
      exact .inl ⟨a, _, 1, _, rfl, rfl, SqL.of e, rfl, q⟩
    refine ⟨_, rfl, ix0 ea ⟨_, rfl, _, _, rfl, rfl, _, rfl, ?_⟩⟩
    refine ite2 (fun c => ?_) (fun c => ?_)
    · refine ⟨_, rfl, ix0 ea (.inl ⟨_, rfl, _, rfl, _, _, rfl, rfl, by omega, ?_⟩)⟩
      refine ⟨_, rfl, ix0 ea ⟨_, rfl, _, _, rfl, rfl, ⟨by omega, by omega⟩, ?_⟩⟩
      refine ⟨_, rfl, a, _, 0, 0, rfl, rfl, ea, rfl, ?_⟩
      refine ⟨_, rfl, ?_⟩
      have m := fmod_pos (i := x) hs
      exact k _ _ m.1 m.2 (Keep.at_ (by simp)) ⟨_, _, upd_same, fdiv_nn hx hs, hy, hy2⟩
    · refine ⟨_, rfl, ix1 ea ⟨_, _, rfl, rfl, .inl ⟨by omega, by omega⟩, _, _, rfl, rfl, .inl ⟨_, rfl, _, _, rfl, rfl, (fun z => by cases z), ?_⟩⟩⟩
      refine ⟨_, rfl, a, _, 1, 1, rfl, rfl, ea, rfl, ?_⟩
      have m := fmod_pos (i := y * 69621 + 3571) (j := 2147483647) (by decide)
      refine ⟨_, rfl, .inl ⟨a, _, 1, _, rfl, rfl, SqL.of upd_same, rfl, ?_⟩⟩
      refine .inl ⟨_, rfl, _, _, rfl, rfl, ⟨by decide, by decide, by omega⟩, .inl ⟨_, rfl, _, _, rfl, rfl, (fun z => by cases z), _, _, rfl, rfl, ⟨(fun z => by cases z), (by show (13 : Int).natAbs < 1073741824; decide)⟩, .inl ⟨_, rfl, _, rfl, _, _, rfl, rfl, by omega, ?_⟩⟩⟩
      have m2 := fmod_pos (i := (((y * 69621 + 3571).fmod 2147483647) ^ (5 : Int).toNat).fmod 1000000007 |>.fdiv 13) hs
      exact k _ _ m2.1 m2.2 (Keep.at_ (by simp)) ⟨_, _, upd_same, hx, m.1, by omega⟩
end
section
variable {P : Program} {w : World} {K : PySem.W.Frag} {mg : Str → Option Value} {base : Heap}
abbrev s__law_source : Stmt := (top 33)
abbrev N__law_source : List Str := ["script", "start", "mixed", "cell", "rest"]
abbrev P__law_source : List Str := ["script", "start"]
theorem sc__law_source : FnScope N__law_source P__law_source (defScope s__law_source) := ⟨rfl, rfl, rfl, by decide +kernel, rfl, by decide +kernel, by decide +kernel⟩
theorem D_law_source (W : Cw fas fns K mg) : DefOk P w K mg base CX0 1 "_law_source" P__law_source (spSource K) := by
  refine DefOk.of W 24 26 (st := s__law_source) rfl rfl sc__law_source (fun _ _ _ _ _ _ us hl => match us, hl with | [_, _], _ => rfl) (fun vs H Q E h => ?_) (fun cdv A outer s H vs Q E hr h => ?_)
  · obtain ⟨a, ns, start, rfl, _⟩ := h
    rfl
  · obtain ⟨a, ns, start, rfl, hS, hl, hb, h0, h1, k⟩ := h
    refine ⟨_, PSs.nox (pss_cons (ps_set (i := 2) sc__law_source.nd rfl (by first | exact Or.inl rfl | exact Or.inr rfl) (pe_op op_add pe_int (pv 1))) (pss_cons (ps_for PassesOwn.never rfl (pi_list (pv 0)) (pg_name (i := 3) sc__law_source.nd rfl (by first | exact Or.inl rfl | exact Or.inr rfl)) (pss_one (ps_set (i := 2) sc__law_source.nd rfl (by first | exact Or.inl rfl | exact Or.inr rfl) (pe_op op_add (pe_op op_modN (pe_callTy call_int1 (by rfl) (W.fre 44) (by decide +kernel) (pa_cons (pe_op SM.op_powW (pe_callTy call_int1 (by rfl) (W.fre 44) (by decide +kernel) (pa_cons (pe_op op_add (pe_op op_mul (pv 2) pe_int) (pe_callTy call_int1 (by rfl) (W.fre 44) (by decide +kernel) (pa_cons (pv 3) pa_nil))) pa_nil)) pe_int) pa_nil)) pe_int) pe_int)))) (pss_cons (ps_set (i := 4) sc__law_source.nd rfl (by first | exact Or.inl rfl | exact Or.inr rfl) pe_int) (pss_cons (ps_if (PW.pt (pw_and (pt_cmpR op_lt (pv 1) (pe_callB call_len_seq (by rfl) (W.fre 46) (by decide +kernel) (pa_cons (pv 0) pa_nil)) (nomark _)) (pw_and1 (pt_cmpR op_ge (pe_ix ix_seq (pv 0) (pv 1) (fun _ _ => rfl)) (pe_op op_pow pe_int pe_int) (nomark _))))) (pss_one (ps_set (i := 4) sc__law_source.nd rfl (by first | exact Or.inl rfl | exact Or.inr rfl) (pe_op op_sub (pe_ix ix_seq (pv 0) (pv 1) (fun _ _ => rfl)) (pe_op op_pow pe_int pe_int)))) pss_nil) (pss_one (ps_ret (pe_lst (pa_cons (pv 4) (pa_cons (pv 2) pa_nil))))))))), ?_⟩
    refine ⟨_, rfl, _, _, rfl, rfl, ?_⟩
    refine ⟨_, rfl, a, rfl, ⟨_, hS⟩, for_list (K := K) (a := a) (xs := ns.map V.int) (fun i σ H' => ∃ (z : Int) (v : Option V), σ = [some (.ref a), some (.int start), some (.int z), v, none] ∧ 0 ≤ z ∧ z < 1099511627776 ∧ H' = H)
      ⟨_, none, rfl, by omega, by omega, rfl⟩ (fun i σ H' _ z => by obtain ⟨_, _, _, _, _, e⟩ := z; rw [e]; exact hS) ?_ ?_⟩
    · rintro i y σ H' hi ⟨z, v, rfl, z0, z1, rfl⟩
      obtain ⟨c, hc, rfl⟩ : ∃ c, ns[i]? = some c ∧ y = V.int c := by
        rw [List.getElem?_map] at hi
        cases e : ns[i]? with
        | none =>
          rw [e] at hi
          cases hi
        | some u =>
          rw [e] at hi
          exact ⟨u, rfl, (Option.some.inj hi).symm⟩
      have bc := hb c (List.mem_of_getElem? hc)
      have bs := bits_sum (N := 1048576) (by decide) (m := z * 50021) (c := c) (by omega) bc
      have m := fmod_pos (i := (z * 50021 + c) ^ (3 : Int).toNat) (j := 2147483563) (by decide)
      refine ⟨_, rfl, _, _, rfl, rfl, .inl ⟨by omega, by omega⟩, _, rfl, .inl ⟨_, rfl, _, _, rfl, rfl, .inl ⟨_, rfl, _, _, rfl, rfl, ⟨by decide, by decide, by omega⟩, .inl ⟨_, rfl, _, _, rfl, rfl, (fun z => by cases z), _, _, rfl, rfl, ?_⟩⟩⟩⟩
      exact ⟨_, _, rfl, by omega, by omega, rfl⟩
    · rintro σ H' ⟨z, v, rfl, z0, z1, rfl⟩
      have fin : ∀ (rest : Int), 0 ≤ rest → ∀ p, H' p = none → Q (.ref p) (upd H' p (.lst [.int rest, .int z])) := fun rest hr p hp =>
        k p _ hp (Keep.new hp) ⟨rest, z, upd_same, hr, z0, z1⟩
      refine ⟨_, rfl, _, rfl, a, _, rfl, .inl hS, _, _, rfl, rfl, _, rfl, ?_⟩
      refine ite2 (fun c => ?_) (fun c => ?_)
      · have c2 : start < ((ns.map V.int).length : Int) := of_decide_eq_true c
        rw [List.length_map] at c2
        obtain ⟨n, hn⟩ : ∃ n, ns[start.toNat]? = some n := ⟨ns[start.toNat]'(by omega), List.getElem?_eq_getElem _⟩
        have at_ : atI (ns.map V.int) start = some (V.int n) := at_of (j := start.toNat) (by omega) (by rw [List.getElem?_map, hn]; rfl)
        refine ⟨_, rfl, _, rfl, .inl ⟨a, _, start, _, rfl, rfl, hS, at_, _, _, rfl, rfl, ⟨by decide, by decide, by decide⟩, _, _, rfl, rfl, _, rfl, ?_⟩⟩
        refine ite2 (fun d => ?_) (fun d => ?_)
        · have d2 : (10 : Int) ^ (18 : Int).toNat ≤ n := of_decide_eq_true d
          refine ⟨_, rfl, _, rfl, .inl ⟨a, _, start, _, rfl, rfl, hS, at_, _, _, rfl, rfl, ⟨by decide, by decide, by decide⟩, _, _, rfl, rfl, ?_⟩⟩
          exact ⟨_, rfl, _, rfl, (by show 2 ≤ sizeLine; decide), fin _ (by omega)⟩
        · exact ⟨_, rfl, _, rfl, (by show 2 ≤ sizeLine; decide), fin 0 (by omega)⟩
      · exact ⟨_, rfl, _, rfl, (by show 2 ≤ sizeLine; decide), fin 0 (by omega)⟩
end
section
variable {P : Program} {w : World} {K : PySem.W.Frag} {mg : Str → Option Value} {base : Heap}
abbrev s__law_pick : Stmt := (top 35)
abbrev N__law_pick : List Str := ["source", "things"]
abbrev P__law_pick : List Str := ["source", "things"]
theorem sc__law_pick : FnScope N__law_pick P__law_pick (defScope s__law_pick) := ⟨rfl, rfl, rfl, by decide +kernel, rfl, by decide +kernel, by decide +kernel⟩
theorem D_law_pick (W : Cw fas fns K mg) (D_law_draw : DefOk P w K mg base CX0 1 "_law_draw" P__law_draw spDraw) : DefOk P w K mg base CX0 2 "_law_pick" P__law_pick (spPick K) := by
  refine DefOk.of W 26 28 (st := s__law_pick) rfl rfl sc__law_pick (fun _ _ _ _ _ _ us hl => match us, hl with | [_, _], _ => rfl) (fun vs H Q E h => ?_) (fun cdv A outer s H vs Q E hr h => ?_)
  · obtain ⟨a, l, xs, rfl, _⟩ := h
    rfl
  · obtain ⟨a, l, xs, rfl, hs, hx, ne, l0, l1, k⟩ := h
    refine ⟨_, PSs.nox (pss_one (ps_ret (pe_ix ix_seq (pv 1) (SM.pe_callD D_law_draw (hr.mono (by decide)) pass0 (pa_cons (pv 0) (pa_cons (pe_callB call_len_seq (by rfl) (W.fre 46) (by decide +kernel) (pa_cons (pv 1) pa_nil)) pa_nil))) (fun _ _ => rfl)))), ?_⟩
    refine ⟨_, rfl, _, rfl, _, rfl, l, xs, rfl, hx, a, _, rfl, hs, by omega, by omega, fun r H' r0 r1 kp hs' => ?_⟩
    obtain ⟨v, hv⟩ : ∃ v, xs[r.toNat]? = some v := ⟨xs[r.toNat]'(by omega), List.getElem?_eq_getElem _⟩
    have at_ : atI xs r = some v := at_of (j := r.toNat) (by omega) hv
    have nl : l ∉ [a] := by simpa using ne
    rcases hx with hx | hx
    · exact .inl ⟨l, xs, r, v, rfl, rfl, kp.seqL nl hx, at_, k _ v H' hv kp hs'⟩
    · exact .inr (.inl ⟨l, xs, r, v, rfl, rfl, kp.seqT nl hx, at_, k _ v H' hv kp hs'⟩)
end
theorem exA {K : PySem.W.Frag} (h : exB K = true) : exA0 K = true := (He.ba (show (exA0 K && exM K) = true from h)).1
/-! ### the error classes, the words at the top -/
theorem err01 {K : PySem.W.Frag} (h : exB K = true) (e : Str × Str) (he : e ∈ errs01) : ErrC K (He.ga K e.1) (He.ma K (He.ga K e.1) "__init__") ∧ PySem.W.findIn K (.ref (He.ga K e.1)) e.2 = some none := by
  obtain ⟨_, h⟩ := He.ba (show (_ && errs01.all _) = true from exA h)
  obtain ⟨ab, _⟩ := He.ba (List.all_eq_true.mp h e he)
  obtain ⟨a, b⟩ := He.ba ab
  exact ⟨err_ok a, He.eqO_ok b⟩
theorem xf01 {K : PySem.W.Frag} (h : exB K = true) (e : Str × Str) (he : e ∈ errs01) : XfC K (He.ga K e.1) := by
  obtain ⟨_, h⟩ := He.ba (show (_ && errs01.all _) = true from exA h)
  obtain ⟨_, c⟩ := He.ba (List.all_eq_true.mp h e he)
  exact xfB_ok c
theorem words_at {K : PySem.W.Frag} (h : exB K = true) (H : Hp) : SqT K H (He.ga K "WORDS_OF_TEXTS") (words01.map V.str) := by
  obtain ⟨h, _⟩ := He.ba (show (_ && errs01.all _) = true from exA h)
  obtain ⟨h, _⟩ := He.ba h
  exact kTup_ok h rfl H
theorem places_at {K : PySem.W.Frag} (h : exB K = true) (H : Hp) : SqT K H (He.ga K "PLACES") ((["beside", "elder"] : List Str).map V.str) := by
  obtain ⟨h, _⟩ := He.ba (show (_ && errs01.all _) = true from exA h)
  obtain ⟨_, h⟩ := He.ba h
  exact kTup_ok h rfl H
section
variable {P : Program} {w : World} {K : PySem.W.Frag} {mg : Str → Option Value} {base : Heap}
abbrev s_BadRegisters___init__ : Stmt := (inClass (top 3) 0)
abbrev N_BadRegisters___init__ : List Str := ["self", "value"]
abbrev P_BadRegisters___init__ : List Str := ["self", "value"]
theorem sc_BadRegisters___init__ : FnScope N_BadRegisters___init__ P_BadRegisters___init__ (defScope s_BadRegisters___init__) := ⟨rfl, rfl, rfl, by decide +kernel, rfl, by decide +kernel, by decide +kernel⟩
theorem R_BadRegisters (W : Cw fas fns K mg) (hx : exB K = true) : RaiseOk P w K mg base "BadRegisters" "value" := by
  obtain ⟨fd, F⟩ := W.says.def_ 0 (d := d_BadRegisters___init__) rfl
  obtain ⟨h1, h2⟩ := err01 hx ("BadRegisters", "value") (by decide +kernel)
  refine ⟨h1, h2, ⟨fd, FunD.ok F sc_BadRegisters___init__ (fun vs H Q E h => ?_) (fun cdv A outer s H vs Q E hr h => ?_), FunD.bindsN F (fun _ _ _ _ _ _ us hl => match us, hl with | [_, _], _ => rfl)⟩, W.glo 2⟩
  · obtain ⟨a, C, v, rfl, _⟩ := h
    rfl
  · obtain ⟨a, C, v, rfl, T, hn, ha, k⟩ := h
    refine ⟨_, PSs.nox (pss_one (ps_ost (pv 0) (pv 1))), ?_⟩
    exact ⟨_, rfl, _, rfl, a, C, rfl, T, hn, .inl ⟨ha, fun dx n ne => k dx n ne⟩⟩
abbrev s_BadLines___init__ : Stmt := (inClass (top 4) 0)
abbrev N_BadLines___init__ : List Str := ["self", "value"]
abbrev P_BadLines___init__ : List Str := ["self", "value"]
theorem sc_BadLines___init__ : FnScope N_BadLines___init__ P_BadLines___init__ (defScope s_BadLines___init__) := ⟨rfl, rfl, rfl, by decide +kernel, rfl, by decide +kernel, by decide +kernel⟩
theorem R_BadLines (W : Cw fas fns K mg) (hx : exB K = true) : RaiseOk P w K mg base "BadLines" "value" := by
  obtain ⟨fd, F⟩ := W.says.def_ 1 (d := d_BadLines___init__) rfl
  obtain ⟨h1, h2⟩ := err01 hx ("BadLines", "value") (by decide +kernel)
  refine ⟨h1, h2, ⟨fd, FunD.ok F sc_BadLines___init__ (fun vs H Q E h => ?_) (fun cdv A outer s H vs Q E hr h => ?_), FunD.bindsN F (fun _ _ _ _ _ _ us hl => match us, hl with | [_, _], _ => rfl)⟩, W.glo 3⟩
  · obtain ⟨a, C, v, rfl, _⟩ := h
    rfl
  · obtain ⟨a, C, v, rfl, T, hn, ha, k⟩ := h
    refine ⟨_, PSs.nox (pss_one (ps_ost (pv 0) (pv 1))), ?_⟩
    exact ⟨_, rfl, _, rfl, a, C, rfl, T, hn, .inl ⟨ha, fun dx n ne => k dx n ne⟩⟩
abbrev s_BadLine___init__ : Stmt := (inClass (top 5) 0)
abbrev N_BadLine___init__ : List Str := ["self", "position"]
abbrev P_BadLine___init__ : List Str := ["self", "position"]
theorem sc_BadLine___init__ : FnScope N_BadLine___init__ P_BadLine___init__ (defScope s_BadLine___init__) := ⟨rfl, rfl, rfl, by decide +kernel, rfl, by decide +kernel, by decide +kernel⟩
theorem R_BadLine (W : Cw fas fns K mg) (hx : exB K = true) : RaiseOk P w K mg base "BadLine" "position" := by
  obtain ⟨fd, F⟩ := W.says.def_ 2 (d := d_BadLine___init__) rfl
  obtain ⟨h1, h2⟩ := err01 hx ("BadLine", "position") (by decide +kernel)
  refine ⟨h1, h2, ⟨fd, FunD.ok F sc_BadLine___init__ (fun vs H Q E h => ?_) (fun cdv A outer s H vs Q E hr h => ?_), FunD.bindsN F (fun _ _ _ _ _ _ us hl => match us, hl with | [_, _], _ => rfl)⟩, W.glo 4⟩
  · obtain ⟨a, C, v, rfl, _⟩ := h
    rfl
  · obtain ⟨a, C, v, rfl, T, hn, ha, k⟩ := h
    refine ⟨_, PSs.nox (pss_one (ps_ost (pv 0) (pv 1))), ?_⟩
    exact ⟨_, rfl, _, rfl, a, C, rfl, T, hn, .inl ⟨ha, fun dx n ne => k dx n ne⟩⟩
end
end La
set_option Elab.async false
set_option linter.all false
set_option maxRecDepth 100000
set_option maxHeartbeats 4000000
namespace La
open PySem PySem.Spec PyProof.Rows L2 SM
theorem cat_le {xs : List V} {ns : List Str} (h : xs.length ≤ 100) (hn : ns.length ≤ 3) : xs.length + (ns.map V.str).length ≤ sizeLine := by
  rw [List.length_map]
  exact Nat.le_trans (Nat.add_le_add h hn) (by decide)
theorem cat_pos {xs : List V} {ns : List Str} (h : 0 < xs.length) : 0 < (xs ++ ns.map V.str).length := by
  rw [List.length_append]
  omega
theorem cat_lt {xs : List V} {ns : List Str} (h : xs.length ≤ 100) (hn : ns.length ≤ 3) : (xs ++ ns.map V.str).length < 100000 := by
  rw [List.length_append, List.length_map]
  omega
theorem strs_get {us ns : List Str} {j : Nat} {v : V} (h : (us.map V.str ++ ns.map V.str)[j]? = some v) : ∃ s, v = .str s ∧ (s ∈ us ∨ s ∈ ns) := by
  rw [← List.map_append, List.getElem?_map] at h
  cases e : (us ++ ns)[j]? with
  | none =>
    rw [e] at h
    cases h
  | some s =>
    rw [e] at h
    exact ⟨s, (Option.some.inj h).symm, List.mem_append.mp (List.mem_of_getElem? e)⟩
/-- steps over the names in lot, at most so many -/
def spSteps (K : PySem.W.Frag) : Sp := fun vs H Q _ => ∃ (a l : Addr) (ns : List Str) (most : Int), vs = [.ref a, .ref l, .int most] ∧ Src H a ∧ SqT K H l (ns.map V.str) ∧ ns.length ≤ 3 ∧ 0 ≤ most ∧ most ≤ 4 ∧
  ∀ v H' ss, Keep [a] H H' → Src H' a → Dt K H' v (stepsD ss) → (ss.length : Int) ≤ most → (∀ s ∈ ss, GoodS ns s) → Q v H'
section
variable {P : Program} {w : World} {K : PySem.W.Frag} {mg : Str → Option Value} {base : Heap}
abbrev s__law_steps : Stmt := (top 37)
abbrev N__law_steps : List Str := ["source", "lot", "most", "found", "turn", "target"]
abbrev P__law_steps : List Str := ["source", "lot", "most"]
theorem sc__law_steps : FnScope N__law_steps P__law_steps (defScope s__law_steps) := ⟨rfl, rfl, rfl, by decide +kernel, rfl, by decide +kernel, by decide +kernel⟩
theorem D_law_steps (W : Cw fas fns K mg) (D_law_draw : DefOk P w K mg base CX0 1 "_law_draw" P__law_draw spDraw) (D_law_pick : DefOk P w K mg base CX0 2 "_law_pick" P__law_pick (spPick K)) : DefOk P w K mg base CX0 3 "_law_steps" P__law_steps (spSteps K) := by
  refine DefOk.of W 28 30 (st := s__law_steps) rfl rfl sc__law_steps (fun _ _ _ _ _ _ us hl => match us, hl with | [_, _, _], _ => rfl) (fun vs H Q E h => ?_) (fun cdv A outer s H vs Q E hr h => ?_)
  · obtain ⟨a, l, ns, most, rfl, _⟩ := h
    rfl
  · obtain ⟨a, l, ns, most, rfl, hs, hl, hn, m0, m4, k⟩ := h
    refine ⟨_, PSs.nox (Evl.pss_cut (ps_set (i := 3) sc__law_steps.nd rfl (by first | exact Or.inl rfl | exact Or.inr rfl) (pe_lst pa_nil)) (Evl.pss_cut (ps_for PassesOwn.never rfl (pi_range1 (by rfl) (W.fre 51) (pa_cons (SM.pe_callD D_law_draw (hr.mono (by decide)) pass0 (pa_cons (pv 0) (pa_cons (pe_op op_add (pv 2) pe_int) pa_nil))) pa_nil)) (pg_name (i := 4) sc__law_steps.nd rfl (by first | exact Or.inl rfl | exact Or.inr rfl)) (Evl.pss_cut (ps_set (i := 5) sc__law_steps.nd rfl (by first | exact Or.inl rfl | exact Or.inr rfl) (SM.pe_callD D_law_pick (hr.mono (by decide)) pass0 (pa_cons (pv 0) (pa_cons (pe_op op_cat (pe_lst (pa_cons pe_str pa_nil)) (pe_callTy call_list_of (by rfl) (W.fre 47) (by decide +kernel) (pa_cons (pv 1) pa_nil))) pa_nil)))) (pss_one (ps_expr (pe_bm PySem.F.plainAttrs_list PySem.F.slot_list_append PySem.F.type_list_append mt_append (pv 3) (pa_cons (pe_tup (pa_cons (pv 5) (pa_cons (SM.pe_callD D_law_pick (hr.mono (by decide)) pass0 (pa_cons (pv 0) (pa_cons (pe_op op_cat (pe_lst (pa_cons pe_str (pa_cons pe_str (pa_cons pe_str (pa_cons pe_str pa_nil))))) (pe_callTy call_list_of (by rfl) (W.fre 47) (by decide +kernel) (pa_cons (pv 1) pa_nil))) pa_nil))) pa_nil))) pa_nil)))))) (pss_one (ps_ret (pe_callTy call_tuple_of (by rfl) (W.fre 54) (by decide +kernel) (pa_cons (pv 3) pa_nil)))))), ?_⟩
    refine ⟨fun σ' H' => ∃ p, σ' = [some (.ref a), some (.ref l), some (.int most), some (.ref p), none, none] ∧ H p = none ∧ Keep [] H H' ∧ H' p = some (.lst []), ?_, ?_⟩
    · exact ⟨Nat.zero_le _, fun p hp => ⟨p, rfl, hp, Keep.new hp, upd_same⟩⟩
    rintro σ' H1 ⟨p, rfl, np, k1, lp1⟩
    obtain ⟨x0, y0, ea0, _⟩ := id hs
    have pa : p ≠ a := (ne_of_none ea0 np).symm
    have hs1 := hs.keep k1 (by simp)
    refine ⟨fun σ' H' => ∃ (xs : List V) (ss : List (Str × Str)) (t g : Option V), σ' = [some (.ref a), some (.ref l), some (.int most), some (.ref p), t, g] ∧ Keep [a] H H' ∧ Src H' a ∧ H' p = some (.lst xs) ∧ DtAll K H' xs (ss.map stepD) ∧ (ss.length : Int) ≤ most ∧ ∀ s ∈ ss, GoodS ns s, ?_, ?_⟩
    · refine ⟨_, rfl, _, rfl, _, _, rfl, rfl, a, _, rfl, hs1, by omega, by omega, fun r H2 r0 r1 k2 s2 => ⟨r, rfl, by omega, by omega, for_range (lo := 0) (fun i σ' H' => ∃ (xs : List V) (ss : List (Str × Str)) (t g : Option V), σ' = [some (.ref a), some (.ref l), some (.int most), some (.ref p), t, g] ∧ Keep [a] H H' ∧ Src H' a ∧ H' p = some (.lst xs) ∧ DtAll K H' xs (ss.map stepD) ∧ ss.length = i ∧ ∀ s ∈ ss, GoodS ns s)
        ⟨[], [], none, none, rfl, (Keep.of_nil k1).trans k2, s2, k2 _ _ (by simpa using pa) lp1, .nil, rfl, fun s z => by cases z⟩ ?_ ?_⟩⟩
      · rintro i σ' H3 hi ⟨xs, ss, t, g, rfl, k3, s3, lp, dx, hss, hg⟩
        have hl3 := seqT_keep k3 hs.soft hl
        obtain ⟨x1, y1, ea, _⟩ := id s3
        refine ⟨fun σ' H' => ∃ tg, σ' = [some (.ref a), some (.ref l), some (.int most), some (.ref p), some (.int (0 + (i : Int))), some (.str tg)] ∧ (tg = "here" ∨ tg ∈ ns) ∧ Keep [a] H3 H' ∧ Src H' a, ?_, ?_⟩
        · refine ⟨_, rfl, (by show 1 ≤ sizeLine; decide), fun q1 n1 => ⟨_, rfl, l, _, rfl, .inr (seqT_keep (Keep.new (m := []) n1) Soft.nil hl3), fun q2 n2 => ⟨q1, q2, _, _, rfl, rfl, (Keep.new (m := []) n2).to upd_same, upd_same, cat_le (by decide) hn, fun q3 n3 => ⟨a, q3, _, rfl, s3.keep (((Keep.new (m := []) n1).trans (Keep.new n2)).trans (Keep.new n3)) (by simp), .inl (SqL.of upd_same), (ne_of_none (((Keep.new (m := []) n1).trans (Keep.new n2)).to ea) n3).symm, cat_pos (by decide), cat_lt (by decide) hn, fun j v H4 hv kp sp => ?_⟩⟩⟩⟩
          obtain ⟨tg, rfl, ht⟩ := strs_get (us := ["here"]) hv
          exact ⟨tg, rfl, by simpa using ht, (((Keep.new n1).trans (Keep.new n2)).trans (Keep.new n3)).trans kp, sp⟩
        rintro σ' H4 ⟨tg, rfl, htg, k4, s4⟩
        have hl4 := seqT_keep k4 s3.soft hl3
        obtain ⟨x2, y2, ea2, _⟩ := id s4
        have lp4 := k4 _ _ (by simpa using pa) lp
        have dx4 := dx.keep k4 s3.soft
        refine ⟨_, rfl, .inl ⟨rfl, _, SqL.of lp4⟩, _, rfl, ?_⟩
        refine ⟨_, rfl, (by show 4 ≤ sizeLine; decide), fun q1 n1 => ⟨_, rfl, l, _, rfl, .inr (seqT_keep (Keep.new (m := []) n1) Soft.nil hl4), fun q2 n2 => ⟨q1, q2, _, _, rfl, rfl, (Keep.new (m := []) n2).to upd_same, upd_same, cat_le (by decide) hn, fun q3 n3 => ⟨a, q3, _, rfl, s4.keep (((Keep.new (m := []) n1).trans (Keep.new n2)).trans (Keep.new n3)) (by simp), .inl (SqL.of upd_same), (ne_of_none (((Keep.new (m := []) n1).trans (Keep.new n2)).to ea2) n3).symm, cat_pos (by decide), cat_lt (by decide) hn, fun j v H5 hv kp sp => ?_⟩⟩⟩⟩
        obtain ⟨sr, rfl, hsr⟩ := strs_get (us := ["new", "new", "here", "nothing"]) hv
        have k5 : Keep [a] H4 H5 := (((Keep.new n1).trans (Keep.new n2)).trans (Keep.new n3)).trans kp
        have lp5 := k5 _ _ (by simpa using pa) lp4
        refine ⟨(by show 2 ≤ sizeLine; decide), fun q4 n4 => ?_⟩
        have k6 : Keep [] H5 (upd H5 q4 (.tup [.str tg, .str sr])) := Keep.new n4
        have dx6 := (dx4.keep k5 s4.soft).k0 k6
        have lp6 := k6.to lp5
        refine ⟨p, xs, _, rfl, rfl, lp6, ?_, ?_⟩
        · rw [dx.length, List.length_map, hss]
          exact Nat.lt_of_lt_of_le (show i < 100 by omega) (by decide)
        · have k7 : Keep [p] (upd H5 q4 (.tup [.str tg, .str sr])) (upd (upd H5 q4 (.tup [.str tg, .str sr])) p (.lst (xs ++ [.ref q4]))) := Keep.at_ (by simp)
          refine ⟨xs ++ [.ref q4], ss ++ [(tg, sr)], _, _, rfl, ?_, ?_, upd_same, ?_, by rw [List.length_append, hss]; rfl, ?_⟩
          · exact Keep.own (k3.trans (k4.trans (k5.trans (Keep.of_nil k6)))) np
          · exact (sp.keep k6 (by simp)).keep k7 (by simpa using pa.symm)
          · rw [List.map_append]
            refine (DtAll.append dx6 (.cons (.tup (SqT.of upd_same) (.cons (.str _) (.cons (.str _) .nil))) .nil)).keep k7 (Soft.lst lp6)
          · intro z hz
            rcases List.mem_append.mp hz with hz | hz
            · exact hg z hz
            · rw [List.mem_singleton.mp hz]
              refine ⟨htg, ?_⟩
              rcases hsr with hsr | hsr
              · simp only [List.mem_cons, List.not_mem_nil, or_false] at hsr
                rcases hsr with e | e | e | e
                · exact .inl e
                · exact .inl e
                · exact .inr (.inl e)
                · exact .inr (.inr (.inl e))
              · exact .inr (.inr (.inr hsr))
      · rintro σ' H3 ⟨xs, ss, t, g, rfl, k3, s3, lp, dx, hss, hg⟩
        exact ⟨xs, ss, t, g, rfl, k3, s3, lp, dx, by omega, hg⟩
    rintro σ' H3 ⟨xs, ss, t, g, rfl, k3, s3, lp, dx, hss, hg⟩
    refine ⟨_, rfl, p, xs, rfl, .inl ⟨SqL.of lp, fun q hq => ?_⟩⟩
    exact k _ _ ss (k3.trans (Keep.new hq)) (s3.keep (Keep.new (m := []) hq) (by simp)) (.tup (SqT.of upd_same) (dx.k0 (Keep.new hq))) hss hg
end
end La
set_option Elab.async false
set_option linter.all false
set_option maxRecDepth 100000
set_option maxHeartbeats 4000000
namespace La
open PySem PySem.Spec PyProof.Rows L2 SM
theorem rep_dt {K : PySem.W.Frag} {H : Hp} {v : V} {d : PyData} (h : Dt K H v d) : ∀ n, DtAll K H (List.replicate n [v]).flatten (List.replicate n d)
  | 0 => .nil
  | n + 1 => by
    rw [List.replicate_succ, List.flatten_cons, List.replicate_succ]
    exact .cons h (rep_dt h n)
theorem rep_len {v : V} : ∀ n, ((List.replicate n [v]).flatten).length = n
  | 0 => rfl
  | n + 1 => by
    rw [List.replicate_succ, List.flatten_cons, List.length_append, rep_len n]
    show 1 + n = n + 1
    omega
/-- tests over the names in lot -/
def spTests (K : PySem.W.Frag) : Sp := fun vs H Q _ => ∃ (a l : Addr) (ns : List Str) (most : Int), vs = [.ref a, .ref l, .int most] ∧ Src H a ∧ SqT K H l (ns.map V.str) ∧ ns.length ≤ 3 ∧ 0 < most ∧ most ≤ 2 ∧
  ∀ v H' ts, Keep [a] H H' → Src H' a → Dt K H' v (testsD ts) → ts.length ≤ 4 → (∀ t ∈ ts, GoodT ns t) → Q v H'
section
variable {P : Program} {w : World} {K : PySem.W.Frag} {mg : Str → Option Value} {base : Heap}
abbrev s__law_tests : Stmt := (top 38)
abbrev N__law_tests : List Str := ["source", "lot", "most", "kind", "found", "turn", "one", "other"]
abbrev P__law_tests : List Str := ["source", "lot", "most"]
theorem sc__law_tests : FnScope N__law_tests P__law_tests (defScope s__law_tests) := ⟨rfl, rfl, rfl, by decide +kernel, rfl, by decide +kernel, by decide +kernel⟩
theorem D_law_tests (W : Cw fas fns K mg) (D_law_draw : DefOk P w K mg base CX0 1 "_law_draw" P__law_draw spDraw) (D_law_pick : DefOk P w K mg base CX0 2 "_law_pick" P__law_pick (spPick K)) : DefOk P w K mg base CX0 3 "_law_tests" P__law_tests (spTests K) := by
  refine DefOk.of W 29 31 (st := s__law_tests) rfl rfl sc__law_tests (fun _ _ _ _ _ _ us hl => match us, hl with | [_, _, _], _ => rfl) (fun vs H Q E h => ?_) (fun cdv A outer s H vs Q E hr h => ?_)
  · obtain ⟨a, l, ns, most, rfl, _⟩ := h
    rfl
  · obtain ⟨a, l, ns, most, rfl, hs, hl, hn, m0, m2, k⟩ := h
    refine ⟨_, PSs.nox (Evl.pss_cut (ps_par (i := 3) (j := 4) (by rfl) sc__law_tests.nd rfl rfl (by decide) rfl rfl (pa_cons (SM.pe_callD D_law_draw (hr.mono (by decide)) pass0 (pa_cons (pv 0) (pa_cons pe_int pa_nil))) (pa_cons (pe_lst pa_nil) pa_nil)) (by rfl)) (Evl.pss_cut (ps_for PassesOwn.never rfl (pi_range1 (by rfl) (W.fre 51) (pa_cons (pe_ifExp (pt_cmpR op_gt (pv 3) pe_int (nomark _)) (pe_op op_add pe_int (SM.pe_callD D_law_draw (hr.mono (by decide)) pass0 (pa_cons (pv 0) (pa_cons (pv 2) pa_nil)))) pe_int) pa_nil)) (pg_name (i := 5) sc__law_tests.nd rfl (by first | exact Or.inl rfl | exact Or.inr rfl)) (Evl.pss_cut (ps_set (i := 6) sc__law_tests.nd rfl (by first | exact Or.inl rfl | exact Or.inr rfl) (SM.pe_callD D_law_pick (hr.mono (by decide)) pass0 (pa_cons (pv 0) (pa_cons (pe_op op_cat (pe_lst (pa_cons pe_str (pa_cons pe_str (pa_cons pe_str pa_nil)))) (pe_callTy call_list_of (by rfl) (W.fre 47) (by decide +kernel) (pa_cons (pv 1) pa_nil))) pa_nil)))) (Evl.pss_cut (ps_set (i := 7) sc__law_tests.nd rfl (by first | exact Or.inl rfl | exact Or.inr rfl) (SM.pe_callD D_law_pick (hr.mono (by decide)) pass0 (pa_cons (pv 0) (pa_cons (pe_op op_cat (pe_lst (pa_cons pe_str (pa_cons pe_str (pa_cons pe_str pa_nil)))) (pe_callTy call_list_of (by rfl) (W.fre 47) (by decide +kernel) (pa_cons (pv 1) pa_nil))) pa_nil)))) (pss_one (ps_expr (pe_bm PySem.F.plainAttrs_list PySem.F.slot_list_append PySem.F.type_list_append mt_append (pv 4) (pa_cons (pe_tup (pa_cons (pv 6) (pa_cons (pv 7) (pa_cons (pe_cmpR op_gt (SM.pe_callD D_law_draw (hr.mono (by decide)) pass0 (pa_cons (pv 0) (pa_cons pe_int pa_nil))) pe_int (nomark _)) pa_nil)))) pa_nil))))))) (pss_one (ps_ret (pe_ifExp (pt_cmpR op_eq (pv 3) pe_int (nomark _)) (pe_callTy call_tuple_of (by rfl) (W.fre 54) (by decide +kernel) (pa_cons (pe_op op_cat (pe_op op_rep (pe_lst (pa_cons (pe_tup (pa_cons pe_str (pa_cons pe_str (pa_cons pe_bl pa_nil)))) pa_nil)) (pe_op op_sub pe_int (pe_callB call_len_seq (by rfl) (W.fre 46) (by decide +kernel) (pa_cons (pv 4) pa_nil)))) (pv 4)) pa_nil)) (pe_callTy call_tuple_of (by rfl) (W.fre 54) (by decide +kernel) (pa_cons (pv 4) pa_nil))))))), ?_⟩
    obtain ⟨x0, y0, ea0, _⟩ := id hs
    refine ⟨fun σ' H' => ∃ kd p, σ' = [some (.ref a), some (.ref l), some (.int most), some (.int kd), some (.ref p), none, none, none] ∧ H p = none ∧ p ≠ a ∧ Keep [a] H H' ∧ Src H' a ∧ H' p = some (.lst []), ?_, ?_⟩
    · refine ⟨_, rfl, a, 9, rfl, hs, by decide, by decide, fun r H1 r0 r1 k1 s1 => ⟨Nat.zero_le _, fun p hp => ?_⟩⟩
      obtain ⟨x1, y1, ea1, _⟩ := id s1
      have pa : p ≠ a := (ne_of_none ea1 hp).symm
      exact ⟨.int r, .ref p, rfl, r, p, rfl, k1.free (by simpa using pa) hp, pa, k1.trans (Keep.new hp), s1.keep (Keep.new (m := []) hp) (by simp), upd_same⟩
    rintro σ' H1 ⟨kd, p, rfl, np, pa, k1, hs1, lp1⟩
    let Pv : Nat → L2.St → Hp → Prop := fun i σ' H' => ∃ (xs : List V) (ts : List (Str × Str × Bool)) (t g1 g2 : Option V), σ' = [some (.ref a), some (.ref l), some (.int most), some (.int kd), some (.ref p), t, g1, g2] ∧ Keep [a] H H' ∧ Src H' a ∧ H' p = some (.lst xs) ∧ DtAll K H' xs (ts.map testD) ∧ ts.length = i ∧ ∀ s ∈ ts, GoodT ns s
    refine ⟨fun σ' H' => ∃ i, i ≤ 2 ∧ Pv i σ' H', ?_, ?_⟩
    · have turn : ∀ (n : Int) (H2 : Hp), 0 ≤ n → n ≤ 2 → Keep [a] H H2 → Src H2 a → H2 p = some (.lst []) → ∀ (tb : TS) (D : Ends), (∀ i σ' H', (i : Nat) < n.toNat → Pv i σ' H' → gName 5 (.int (0 + (i : Int))) σ' H' fun σ2 H3 => tb { D with nx := Pv (i + 1), ct := Pv (i + 1), bk := D.nx } σ2 H3) → (∀ i σ' H', i ≤ 2 → Pv i σ' H' → D.nx σ' H') →
          ∃ j : Int, [V.int n] = [.int j] ∧ -(2 ^ 62) ≤ j ∧ j < 2 ^ 62 ∧ ∃ W : Nat → Nat → L2.St → Hp → Prop, (∃ m, W 0 m [some (.ref a), some (.ref l), some (.int most), some (.int kd), some (.ref p), none, none, none] H2) ∧ ∀ i m σ H, W i m σ H → ((Itr 0 j.toNat).stop i H ∧ D.nx σ H) ∨ ((Itr 0 j.toNat).go i H ∧ ∃ N : L2.St → Hp → Prop, (∀ σ' H', N σ' H' → ∃ m', m' < m ∧ W (i + 1) m' σ' H') ∧ ∀ x H', (Itr 0 j.toNat).yld i H x H' → gName 5 x σ H' fun σ2 H2 => tb { D with nx := N, ct := N, bk := D.nx } σ2 H2) := by
        intro n H2 n0 n2 k2 s2 lp2 tb D hturn hend
        exact ⟨n, rfl, by omega, by omega, for_range (lo := 0) Pv ⟨[], [], none, none, none, rfl, k2, s2, lp2, .nil, rfl, fun s z => by cases z⟩ hturn (fun σ' H' z => hend n.toNat σ' H' (by omega) z)⟩
      have body : ∀ (n : Int), n ≤ 2 → True := fun _ _ => trivial
      refine ⟨_, rfl, _, _, rfl, rfl, _, rfl, ?_⟩
      refine ite2 (fun _ => ?_) (fun _ => ?_)
      · refine ⟨_, rfl, _, rfl, a, most, rfl, hs1, m0, by omega, fun r H2 r0 r1 k2 s2 => ⟨_, _, rfl, rfl, ?_⟩⟩
        refine turn (1 + r) H2 (by omega) (by omega) (k1.trans k2) s2 (k2 _ _ (by simpa using pa) lp1) _ _ ?_ (fun i σ' H' hi z => ⟨i, hi, z⟩)
        rintro i σ' H3 hi ⟨xs, ts, t, g1, g2, rfl, k3, s3, lp, dx, hts, hg⟩
        have hl3 := seqT_keep k3 hs.soft hl
        obtain ⟨x1, y1, ea, _⟩ := id s3
        refine ⟨fun σ' H' => ∃ tg, σ' = [some (.ref a), some (.ref l), some (.int most), some (.int kd), some (.ref p), some (.int (0 + (i : Int))), some (.str tg), g2] ∧ (tg = "here" ∨ tg = "new" ∨ tg ∈ ns) ∧ Keep [a] H3 H' ∧ Src H' a, ?_, ?_⟩
        · refine ⟨_, rfl, (by show 3 ≤ sizeLine; decide), fun q1 n1 => ⟨_, rfl, l, _, rfl, .inr (seqT_keep (Keep.new (m := []) n1) Soft.nil hl3), fun q2 n2 => ⟨q1, q2, _, _, rfl, rfl, (Keep.new (m := []) n2).to upd_same, upd_same, cat_le (by decide) hn, fun q3 n3 => ⟨a, q3, _, rfl, s3.keep (((Keep.new (m := []) n1).trans (Keep.new n2)).trans (Keep.new n3)) (by simp), .inl (SqL.of upd_same), (ne_of_none (((Keep.new (m := []) n1).trans (Keep.new n2)).to ea) n3).symm, cat_pos (by decide), cat_lt (by decide) hn, fun j v H4 hv kp sp => ?_⟩⟩⟩⟩
          obtain ⟨tg, rfl, ht⟩ := strs_get (us := ["here", "here", "new"]) hv
          exact ⟨tg, rfl, by simpa [or_assoc] using ht, (((Keep.new n1).trans (Keep.new n2)).trans (Keep.new n3)).trans kp, sp⟩
        rintro σ' H4 ⟨tg, rfl, htg, k4, s4⟩
        have hl4 := seqT_keep k4 s3.soft hl3
        obtain ⟨x2, y2, ea2, _⟩ := id s4
        have lp4 := k4 _ _ (by simpa using pa) lp
        have dx4 := dx.keep k4 s3.soft
        refine ⟨fun σ' H' => ∃ tr, σ' = [some (.ref a), some (.ref l), some (.int most), some (.int kd), some (.ref p), some (.int (0 + (i : Int))), some (.str tg), some (.str tr)] ∧ (tr = "here" ∨ tr = "new" ∨ tr = "nothing" ∨ tr ∈ ns) ∧ Keep [a] H4 H' ∧ Src H' a, ?_, ?_⟩
        · refine ⟨_, rfl, (by show 3 ≤ sizeLine; decide), fun q1 n1 => ⟨_, rfl, l, _, rfl, .inr (seqT_keep (Keep.new (m := []) n1) Soft.nil hl4), fun q2 n2 => ⟨q1, q2, _, _, rfl, rfl, (Keep.new (m := []) n2).to upd_same, upd_same, cat_le (by decide) hn, fun q3 n3 => ⟨a, q3, _, rfl, s4.keep (((Keep.new (m := []) n1).trans (Keep.new n2)).trans (Keep.new n3)) (by simp), .inl (SqL.of upd_same), (ne_of_none (((Keep.new (m := []) n1).trans (Keep.new n2)).to ea2) n3).symm, cat_pos (by decide), cat_lt (by decide) hn, fun j v H5 hv kp sp => ?_⟩⟩⟩⟩
          obtain ⟨tr, rfl, hsr⟩ := strs_get (us := ["new", "here", "nothing"]) hv
          refine ⟨tr, rfl, ?_, (((Keep.new n1).trans (Keep.new n2)).trans (Keep.new n3)).trans kp, sp⟩
          rcases hsr with hsr | hsr
          · simp only [List.mem_cons, List.not_mem_nil, or_false] at hsr
            rcases hsr with e | e | e
            · exact .inr (.inl e)
            · exact .inl e
            · exact .inr (.inr (.inl e))
          · exact .inr (.inr (.inr hsr))
        rintro σ' H5 ⟨tr, rfl, htr, k5, s5⟩
        obtain ⟨x3, y3, ea3, _⟩ := id s5
        have lp5 := k5 _ _ (by simpa using pa) lp4
        have dx5 := dx4.keep k5 s4.soft
        refine ⟨_, rfl, .inl ⟨rfl, _, SqL.of lp5⟩, _, rfl, _, rfl, _, rfl, a, 3, rfl, s5, by decide, by decide, fun r6 H6 r0 r1 k6 s6 => ⟨r6, 0, rfl, rfl, (by show 3 ≤ sizeLine; decide), fun q4 n4 => ?_⟩⟩
        have lp6 := k6 _ _ (by simpa using pa) lp5
        have dx6 := dx5.keep k6 s5.soft
        have k7 : Keep [] H6 (upd H6 q4 (.tup [.str tg, .str tr, .bl (decide ((0 : Int) < r6))])) := Keep.new n4
        have dx7 := dx6.k0 k7
        have lp7 := k7.to lp6
        refine ⟨p, xs, _, rfl, rfl, lp7, ?_, ?_⟩
        · rw [dx.length, List.length_map, hts]
          exact Nat.lt_of_lt_of_le (show i < 100 by omega) (by decide)
        · have k8 : Keep [p] (upd H6 q4 (.tup [.str tg, .str tr, .bl (decide ((0 : Int) < r6))])) (upd (upd H6 q4 (.tup [.str tg, .str tr, .bl (decide ((0 : Int) < r6))])) p (.lst (xs ++ [.ref q4]))) := Keep.at_ (by simp)
          refine ⟨xs ++ [.ref q4], ts ++ [(tg, tr, decide ((0 : Int) < r6))], _, _, _, rfl, ?_, ?_, upd_same, ?_, by rw [List.length_append, hts]; rfl, ?_⟩
          · exact Keep.own (k3.trans (k4.trans (k5.trans (k6.trans (Keep.of_nil k7))))) np
          · exact (s6.keep k7 (by simp)).keep k8 (by simpa using pa.symm)
          · rw [List.map_append]
            refine (DtAll.append dx7 (.cons (.tup (SqT.of upd_same) (.cons (.str _) (.cons (.str _) (.cons (.bl _) .nil)))) .nil)).keep k8 (Soft.lst lp7)
          · intro z hz
            rcases List.mem_append.mp hz with hz | hz
            · exact hg z hz
            · rw [List.mem_singleton.mp hz]
              exact ⟨htg, by rcases htr with e | e | e | e <;> simp [e]⟩
      · refine turn 0 H1 (by omega) (by omega) k1 hs1 lp1 _ _ (fun i _ _ hi _ => absurd hi (by simp)) (fun i σ' H' hi z => ⟨i, hi, z⟩)
    rintro σ' H3 ⟨i, hi, xs, ts, t, g1, g2, rfl, k3, s3, lp, dx, hts, hg⟩
    have lx : xs.length = i := by rw [dx.length, List.length_map, hts]
    refine ⟨_, rfl, rfl, _, rfl, ?_⟩
    refine ite2 (fun _ => ?_) (fun _ => ?_)
    · refine ⟨(by show 3 ≤ sizeLine; decide), fun q1 n1 => ⟨(by show 1 ≤ sizeLine; decide), fun q2 n2 => ⟨_, rfl, p, xs, rfl, .inl (SqL.of (((Keep.new (m := []) n1).trans (Keep.new n2)).to lp)), _, _, rfl, rfl, q2, _, _, rfl, rfl, upd_same, ?_, ?_, ?_, fun q3 n3 => ⟨_, rfl, q3, p, _, _, rfl, rfl, upd_same, (((Keep.new (m := []) n1).trans (Keep.new n2)).trans (Keep.new n3)).to lp, ?_, fun q4 n4 => ?_⟩⟩⟩⟩
      · rw [lx]; omega
      · rw [lx]; omega
      · rw [lx]
        show 1 * (4 - (i : Int)).toNat ≤ sizeLine
        exact Nat.le_trans (show 1 * (4 - (i : Int)).toNat ≤ 4 by omega) (by decide)
      · rw [lx, rep_len]
        exact Nat.le_trans (show (4 - (i : Int)).toNat + i ≤ 100 by omega) (by decide)
      refine ⟨q4, _, rfl, .inl ⟨SqL.of upd_same, fun q5 n5 => ?_⟩⟩
      have fin : ∀ Hd, Keep [] (upd H3 q1 (.tup [.str "here", .str "here", .bl true])) Hd → Hd q5 = some (.tup ((List.replicate (4 - (xs.length : Int)).toNat [V.ref q1]).flatten ++ xs)) → Q (.ref q5) Hd := by
        intro Hd kd' hd
        refine k _ _ (List.replicate (4 - (xs.length : Int)).toNat (("here", "here", true) : Str × Str × Bool) ++ ts) (k3.trans (Keep.of_nil ((Keep.new n1).trans kd'))) (s3.keep ((Keep.new n1).trans kd') (by simp)) (.tup (SqT.of hd) ?_) ?_ ?_
        · have d1 : Dt K (upd H3 q1 (.tup [.str "here", .str "here", .bl true])) (.ref q1) (testD (("here", "here", true) : Str × Str × Bool)) := .tup (SqT.of upd_same) (.cons (.str _) (.cons (.str _) (.cons (.bl _) .nil)))
          rw [List.map_append, List.map_replicate]
          exact ((rep_dt d1 _).append (dx.k0 (Keep.new n1))).k0 kd'
        · rw [List.length_append, List.length_replicate, hts, lx]
          omega
        · intro z hz
          rcases List.mem_append.mp hz with hz | hz
          · rw [(List.mem_replicate.mp hz).2]
            exact ⟨.inl rfl, .inr (.inl rfl)⟩
          · exact hg z hz
      exact fin _ ((Keep.new n2).trans ((Keep.new n3).trans ((Keep.new n4).trans (Keep.new n5)))) upd_same
    · refine ⟨_, rfl, p, xs, rfl, .inl ⟨SqL.of lp, fun q hq => ?_⟩⟩
      exact k _ _ ts (k3.trans (Keep.new hq)) (s3.keep (Keep.new (m := []) hq) (by simp)) (.tup (SqT.of upd_same) (dx.k0 (Keep.new hq))) (by omega) hg
end
end La
set_option Elab.async false
set_option linter.all false
set_option maxRecDepth 100000
set_option maxHeartbeats 4000000
namespace La
open PySem PySem.Spec PyProof.Rows L2 SM
/-- the things in another sequence -/
def spMixed (K : PySem.W.Frag) : Sp := fun vs H Q _ => ∃ (a l : Addr) (xs : List V) (ns : List Str) (ls : List Ln), vs = [.ref a, .ref l] ∧ Src H a ∧ SqL K H l xs ∧ DtAll K H xs (ls.map lnD) ∧ OkN ns ∧ (∀ z ∈ ls, GoodL ns z) ∧ ls.length ≤ 8 ∧
  ∀ (p : Addr) (ys : List V) (ms : List Ln) (H' : Hp), Keep [a] H H' → H p = none → Src H' a → H' p = some (.lst ys) → DtAll K H' ys (ms.map lnD) → ms.length = ls.length → (∀ z ∈ ms, z ∈ ls) → Q (.ref p) H'
section
variable {P : Program} {w : World} {K : PySem.W.Frag} {mg : Str → Option Value} {base : Heap}
abbrev s__law_mixed : Stmt := (top 36)
abbrev N__law_mixed : List Str := ["source", "things", "lot", "found"]
abbrev P__law_mixed : List Str := ["source", "things"]
theorem sc__law_mixed : FnScope N__law_mixed P__law_mixed (defScope s__law_mixed) := ⟨rfl, rfl, rfl, by decide +kernel, rfl, by decide +kernel, by decide +kernel⟩
theorem D_law_mixed (W : Cw fas fns K mg) (D_law_draw : DefOk P w K mg base CX0 1 "_law_draw" P__law_draw spDraw) : DefOk P w K mg base CX0 2 "_law_mixed" P__law_mixed (spMixed K) := by
  refine DefOk.of W 27 29 (st := s__law_mixed) rfl rfl sc__law_mixed (fun _ _ _ _ _ _ us hl => match us, hl with | [_, _], _ => rfl) (fun vs H Q E h => ?_) (fun cdv A outer s H vs Q E hr h => ?_)
  · obtain ⟨a, l, xs, ns, ls, rfl, _⟩ := h
    rfl
  · obtain ⟨a, l, xs, ns, ls, rfl, hs, hl, hd, hok, hg, h8, k⟩ := h
    refine ⟨_, PSs.nox (Evl.pss_cut (ps_par (i := 2) (j := 3) (by rfl) sc__law_mixed.nd rfl rfl (by decide) rfl rfl (pa_cons (pe_callTy call_list_of (by rfl) (W.fre 47) (by decide +kernel) (pa_cons (pv 1) pa_nil)) (pa_cons (pe_lst pa_nil) pa_nil)) (by rfl)) (Evl.pss_cut (ps_while PassesOwn.never (pt_cmpR (op_neD hr.units) (pv 2) (pe_lst pa_nil) (nomark _)) (pss_one (ps_expr (pe_bm PySem.F.plainAttrs_list PySem.F.slot_list_append PySem.F.type_list_append mt_append (pv 3) (pa_cons (pe_bm PySem.F.plainAttrs_list PySem.F.slot_list_pop PySem.F.type_list_pop mt_popAt (pv 2) (pa_cons (SM.pe_callD D_law_draw (hr.mono (by decide)) pass0 (pa_cons (pv 0) (pa_cons (pe_callB call_len_seq (by rfl) (W.fre 46) (by decide +kernel) (pa_cons (pv 2) pa_nil)) pa_nil))) pa_nil)) pa_nil))))) (pss_one (ps_ret (pv 3))))), ?_⟩
    refine ⟨fun σ' H' => ∃ p q, σ' = [some (.ref a), some (.ref l), some (.ref p), some (.ref q)] ∧ H p = none ∧ H q = none ∧ p ≠ q ∧ Keep [] H H' ∧ H' p = some (.lst xs) ∧ H' q = some (.lst []), ?_, ?_⟩
    · refine ⟨_, rfl, l, xs, rfl, .inl hl, fun p hp => ⟨Nat.zero_le _, fun q hq => ?_⟩⟩
      have k1 : Keep [] H (upd H p (.lst xs)) := Keep.new hp
      have k2 : Keep [] (upd H p (.lst xs)) (upd (upd H p (.lst xs)) q (.lst [])) := Keep.new hq
      exact ⟨.ref p, .ref q, rfl, p, q, rfl, hp, k1.free (by simp) hq, ne_of_none upd_same hq, k1.trans k2, k2.to upd_same, upd_same⟩
    rintro σ' H1 ⟨p, q, rfl, np, nq, pq, k1, lp, lq⟩
    refine ⟨fun σ' H' => ∃ (ys : List V) (ms : List Ln), σ' = [some (.ref a), some (.ref l), some (.ref p), some (.ref q)] ∧ Keep [a] H H' ∧ Src H' a ∧ H' q = some (.lst ys) ∧ DtAll K H' ys (ms.map lnD) ∧ ms.length = ls.length ∧ ∀ z ∈ ms, z ∈ ls, ?_, ?_⟩
    · refine ⟨fun m σ' H' => ∃ (ys : List V) (ms : List Ln) (us : List V) (ns : List Ln), σ' = [some (.ref a), some (.ref l), some (.ref p), some (.ref q)] ∧ Keep [a] H H' ∧ Src H' a ∧ H' p = some (.lst us) ∧ H' q = some (.lst ys) ∧ DtAll K H' us (List.map lnD ns) ∧ DtAll K H' ys (List.map lnD ms) ∧ ns.length = m ∧ ms.length + ns.length = ls.length ∧ (∀ z ∈ ms, z ∈ ls) ∧ (∀ z ∈ ns, z ∈ ls), ⟨ls.length, [], [], xs, ls, rfl, Keep.of_nil k1, hs.keep k1 (by simp), lp, lq, hd.k0 k1, .nil, rfl, by simp, (fun z h => by cases h), fun z h => h⟩, ?_⟩
      rintro m σ' H2 ⟨ys, ms, us, os, rfl, k2, s2, lp2, lq2, du, dy, hm, hln, hms, hos⟩
      refine ⟨_, rfl, Nat.zero_le _, fun r hr1 => ?_⟩
      have kR : Keep [] H2 (upd H2 r (.lst [])) := Keep.new hr1
      have du1 := du.k0 kR
      have dy1 := dy.k0 kR
      have pr : p ≠ r := ne_of_none lp2 hr1
      have qr : q ≠ r := ne_of_none lq2 hr1
      refine ⟨.list (os.map lnD), .list [], .lst (SqL.of (kR.to lp2)) (DtAll.dp du1), .lst (SqL.of upd_same) .nil, (lines_lay (n := 0) hok fun z h => hg z (hos z h)).shaped (by decide), (Lay.list (n := 0) (ds := []) (fun z h => by cases h)).shaped (by decide), _, rfl, ?_⟩
      rw [eqv_nil]
      cases os with
      | nil =>
        exact ⟨ys, ms, rfl, k2.trans (Keep.of_nil kR), s2.keep kR (by simp), kR.to lq2, dy1, by simpa using hln, hms⟩
      | cons o os =>
        have lu : us.length = os.length + 1 := by rw [du.length]; simp
        have lo : os.length + 1 ≤ 8 := by
          simp only [List.length_cons] at hln
          omega
        obtain ⟨x0, y0, ea, _⟩ := id (s2.keep kR (by simp))
        refine ⟨_, fun _ _ z => z, ?_⟩
        refine ⟨_, rfl, .inl ⟨rfl, _, SqL.of (kR.to lq2)⟩, _, rfl, .inl ⟨rfl, _, SqL.of (kR.to lp2)⟩, _, rfl, _, rfl, p, us, rfl, .inl (SqL.of (kR.to lp2)), a, _, rfl, s2.keep kR (by simp), by rw [lu]; omega, by rw [lu]; omega, fun n H3 n0 n1 k3 s3 => ?_⟩
        obtain ⟨j, rfl⟩ := Int.eq_ofNat_of_zero_le n0
        have hj : j < us.length := by omega
        have pa : p ≠ a := (ne_of_none (show H a = _ from hs.choose_spec.choose_spec.1) np).symm
        have qa : q ≠ a := (ne_of_none (show H a = _ from hs.choose_spec.choose_spec.1) nq).symm
        have lp3 := k3 _ _ (by simpa using pa) (kR.to lp2)
        have lq3 := k3 _ _ (by simpa using qa) (kR.to lq2)
        have du3 := du1.keep k3 (s2.keep kR (by simp)).soft
        have dy3 := dy1.keep k3 (s2.keep kR (by simp)).soft
        obtain ⟨d, hd', dv⟩ := du3.get (i := j) (v := us[j]) (by simp [hj])
        rw [List.getElem?_map] at hd'
        obtain ⟨z, hz, rfl⟩ : ∃ z, (o :: os)[j]? = some z ∧ lnD z = d := by
          cases e : (o :: os)[j]? with
          | none =>
            rw [e] at hd'
            cases hd'
          | some z =>
            rw [e] at hd'
            exact ⟨z, rfl, Option.some.inj hd'⟩
        have zin : z ∈ o :: os := List.mem_of_getElem? hz
        refine ⟨p, us, j, j, us[j], rfl, rfl, lp3, by omega, by omega, seqIndex_nat hj, by simp [hj], ?_⟩
        have kp : Keep [p] H3 (upd H3 p (.lst (us.eraseIdx j))) := Keep.at_ (by simp)
        have lq4 : upd H3 p (.lst (us.eraseIdx j)) q = some (.lst ys) := kp _ _ (by simpa using pq.symm) lq3
        refine ⟨q, ys, _, rfl, rfl, lq4, ?_, ?_⟩
        · rw [dy.length, List.length_map]
          refine Nat.lt_of_lt_of_le (?_ : ms.length < 100) (by decide)
          simp only [List.length_cons] at hln
          omega
        · have kq : Keep [q] (upd H3 p (.lst (us.eraseIdx j))) (upd (upd H3 p (.lst (us.eraseIdx j))) q (.lst (ys ++ [us[j]]))) := Keep.at_ (by simp)
          have dall : ∀ {vs ds}, DtAll K H3 vs ds → DtAll K (upd (upd H3 p (.lst (us.eraseIdx j))) q (.lst (ys ++ [us[j]]))) vs ds := fun h => (h.keep kp (Soft.lst lp3)).keep kq (Soft.lst lq4)
          refine ⟨m - 1, by simp only [List.length_cons] at hm; omega, ys ++ [us[j]], ms ++ [z], us.eraseIdx j, (o :: os).eraseIdx j, rfl, ?_, ?_, ?_, upd_same, ?_, ?_, ?_, ?_, ?_, ?_⟩
          · exact Keep.own (Keep.own (k2.trans ((Keep.of_nil kR).trans k3)) np) nq
          · exact (s3.keep kp (by simpa using pa.symm)).keep kq (by simpa using qa.symm)
          · exact kq _ _ (by simpa using pq) upd_same
          · rw [← map_erase]
            exact dall (du3.eraseIdx j)
          · rw [List.map_append]
            exact (dall dy3).append (.cons (by
              have := dall (.cons dv .nil)
              cases this with
              | cons h _ => exact h) .nil)
          · rw [List.length_eraseIdx]
            simp only [List.length_cons] at hm ⊢
            have : j < os.length + 1 := by omega
            simp only [this, if_true]
            omega
          · rw [List.length_eraseIdx, List.length_append]
            simp only [List.length_cons] at hln hm ⊢
            have : j < os.length + 1 := by omega
            simp only [this, if_true, List.length_nil]
            omega
          · intro y hy
            rcases List.mem_append.mp hy with hy | hy
            · exact hms y hy
            · rw [List.mem_singleton.mp hy]
              exact hos z zin
          · exact fun y hy => hos y (mem_erase hy)
    rintro σ' H2 ⟨ys, ms, rfl, k2, s2, lq2, dy, hm, hms⟩
    exact ⟨_, rfl, k q ys ms H2 k2 nq s2 lq2 dy hm hms⟩
end
end La
set_option Elab.async false
set_option linter.all false
set_option maxRecDepth 100000
set_option maxHeartbeats 4000000
namespace La
open PySem PySem.Spec PyProof.Rows L2 SM
/-- the lines of a rule that keeps changes by a note -/
def spGood (K : PySem.W.Frag) : Sp := fun vs H Q _ => ∃ (a : Addr) (ns : List Str) (nt : Str), vs = [.ref a, .str nt] ∧ Src H a ∧ OkN ns ∧ nt ∈ ns ∧
  ∀ (p : Addr) (ys : List V) (ms : List Ln) (H' : Hp), Keep [a] H H' → H p = none → Src H' a → H' p = some (.lst ys) → DtAll K H' ys (ms.map lnD) → 2 ≤ ms.length → ms.length ≤ 3 → (∀ z ∈ ms, GoodL ns z) → Q (.ref p) H'
theorem at0 (x : V) (xs : List V) : atI (x :: xs) 0 = some x := by
  simp [atI, ixN]
theorem at1 (x y : V) (xs : List V) : atI (x :: y :: xs) 1 = some y := by
  have h : (1 : Int) < (xs.length : Int) + 1 + 1 := by omega
  simp [atI, ixN, h]
def gl1 (nt : Str) : Ln := ⟨[("here", nt, true)], [("here", "new"), (nt, "new")], none⟩
def gl2 (nt : Str) : Ln := ⟨[("here", "new", true)], [(nt, "new")], none⟩
def gl3 (nt : Str) : Ln := ⟨[("new", nt, true)], [], none⟩
theorem gl_good {nt : Str} {ns : List Str} (h : nt ∈ ns) : ∀ z ∈ [gl1 nt, gl2 nt, gl3 nt], GoodL ns z := by
  intro z hz
  simp only [List.mem_cons, List.not_mem_nil, or_false] at hz
  rcases hz with rfl | rfl | rfl
  · refine ⟨⟨Nat.le_of_ble_eq_true rfl, fun t z => ?_⟩, ⟨Nat.le_of_ble_eq_true rfl, fun t z => ?_⟩, fun k z => by cases z⟩
    · rw [List.mem_singleton.mp z]
      exact ⟨.inl rfl, .inr (.inr (.inr h))⟩
    · rcases List.mem_cons.mp z with e | z
      · rw [e]
        exact ⟨.inl rfl, .inl rfl⟩
      · rw [List.mem_singleton.mp z]
        exact ⟨.inr h, .inl rfl⟩
  · refine ⟨⟨Nat.le_of_ble_eq_true rfl, fun t z => ?_⟩, ⟨Nat.le_of_ble_eq_true rfl, fun t z => ?_⟩, fun k z => by cases z⟩
    · rw [List.mem_singleton.mp z]
      exact ⟨.inl rfl, .inl rfl⟩
    · rw [List.mem_singleton.mp z]
      exact ⟨.inr h, .inl rfl⟩
  · refine ⟨⟨Nat.le_of_ble_eq_true rfl, fun t z => ?_⟩, ⟨Nat.le_of_ble_eq_true rfl, fun t z => by cases z⟩, fun k z => by cases z⟩
    rw [List.mem_singleton.mp z]
    exact ⟨.inr (.inl rfl), .inr (.inr (.inr h))⟩
section
variable {P : Program} {w : World} {K : PySem.W.Frag} {mg : Str → Option Value} {base : Heap}
abbrev s__law_good : Stmt := (top 39)
abbrev N__law_good : List Str := ["source", "note", "lines", "kind"]
abbrev P__law_good : List Str := ["source", "note"]
theorem sc__law_good : FnScope N__law_good P__law_good (defScope s__law_good) := ⟨rfl, rfl, rfl, by decide +kernel, rfl, by decide +kernel, by decide +kernel⟩
theorem D_law_good (W : Cw fas fns K mg) (D_law_draw : DefOk P w K mg base CX0 1 "_law_draw" P__law_draw spDraw) (D_law_mixed : DefOk P w K mg base CX0 2 "_law_mixed" P__law_mixed (spMixed K)) : DefOk P w K mg base CX0 3 "_law_good" P__law_good (spGood K) := by
  refine DefOk.of W 30 32 (st := s__law_good) rfl rfl sc__law_good (fun _ _ _ _ _ _ us hl => match us, hl with | [_, _], _ => rfl) (fun vs H Q E h => ?_) (fun cdv A outer s H vs Q E hr h => ?_)
  · obtain ⟨a, ns, nt, rfl, _⟩ := h
    rfl
  · obtain ⟨a, ns, nt, rfl, hs, hok, hn, k⟩ := h
    refine ⟨_, PSs.nox (Evl.pss_cut (ps_set (i := 2) sc__law_good.nd rfl (by first | exact Or.inl rfl | exact Or.inr rfl) (pe_lst (pa_cons (pe_tup (pa_cons (pe_tup (pa_cons (pe_tup (pa_cons pe_str (pa_cons (pv 1) (pa_cons pe_bl pa_nil)))) pa_nil)) (pa_cons (pe_tup (pa_cons (pe_tup (pa_cons pe_str (pa_cons pe_str pa_nil))) (pa_cons (pe_tup (pa_cons (pv 1) (pa_cons pe_str pa_nil))) pa_nil))) pa_nil))) (pa_cons (pe_tup (pa_cons (pe_tup (pa_cons (pe_tup (pa_cons pe_str (pa_cons pe_str (pa_cons pe_bl pa_nil)))) pa_nil)) (pa_cons (pe_tup (pa_cons (pe_tup (pa_cons (pv 1) (pa_cons pe_str pa_nil))) pa_nil)) pa_nil))) pa_nil)))) (Evl.pss_cut (ps_expr (pe_bm PySem.F.plainAttrs_list PySem.F.slot_list_append PySem.F.type_list_append mt_append (pv 2) (pa_cons (pe_tup (pa_cons (pe_tup (pa_cons (pe_tup (pa_cons pe_str (pa_cons (pv 1) (pa_cons pe_bl pa_nil)))) pa_nil)) (pa_cons (pe_tup pa_nil) pa_nil))) pa_nil))) (Evl.pss_cut (ps_set (i := 3) sc__law_good.nd rfl (by first | exact Or.inl rfl | exact Or.inr rfl) (SM.pe_callD D_law_draw (hr.mono (by decide)) pass0 (pa_cons (pv 0) (pa_cons pe_int pa_nil)))) (Evl.pss_cut (ps_if (pt_cmpR op_eq (pv 3) pe_int (nomark _)) (pss_one (ps_expr (pe_bm PySem.F.plainAttrs_list PySem.F.slot_list_pop PySem.F.type_list_pop mt_popAt (pv 2) (pa_cons (SM.pe_callD D_law_draw (hr.mono (by decide)) pass0 (pa_cons (pv 0) (pa_cons pe_int pa_nil))) pa_nil)))) pss_nil) (Evl.pss_cut (ps_if (pt_cmpR op_eq (pv 3) pe_int (nomark _)) (pss_one (ps_set (i := 2) sc__law_good.nd rfl (by first | exact Or.inl rfl | exact Or.inr rfl) (SM.pe_callD D_law_mixed (hr.mono (by decide)) pass0 (pa_cons (pv 0) (pa_cons (pv 2) pa_nil))))) pss_nil) (Evl.pss_cut (ps_if (pt_cmpR op_eq (pv 3) pe_int (nomark _)) (pss_one (ps_asg (pe_tup (pa_cons (pe_ix ix_seq (pe_ix ix_seq (pv 2) pe_int (fun _ _ => rfl)) pe_int (fun _ _ => rfl)) (pa_cons (SM.pe_revT (pe_ix ix_seq (pe_ix ix_seq (pv 2) pe_int (fun _ _ => rfl)) pe_int (fun _ _ => rfl))) pa_nil))) (pg_sub (pv 2) pe_int set_list))) pss_nil) (pss_one (ps_ret (pv 2))))))))), ?_⟩
    have bnd3 : ∀ n : Nat, n ≤ 3 → n ≤ sizeLine := fun n h => Nat.le_trans h (by decide)
    refine ⟨fun σ' H' => ∃ p xs, σ' = [some (.ref a), some (.str nt), some (.ref p), none] ∧ H p = none ∧ Keep [] H H' ∧ H' p = some (.lst xs) ∧ DtAll K H' xs ([gl1 nt, gl2 nt].map lnD), ?_, ?_⟩
    · refine LtA.lst (K := K) (ds := [gl1 nt, gl2 nt].map lnD) (.cons (.tup (.cons (.tup (.cons (.tup (.cons .str (.cons (.var rfl) (.cons .bl .nil)))) .nil)) (.cons (.tup (.cons (.tup (.cons .str (.cons .str .nil))) (.cons (.tup (.cons (.var rfl) (.cons .str .nil))) .nil))) .nil)))
        (.cons (.tup (.cons (.tup (.cons (.tup (.cons .str (.cons .str (.cons .bl .nil)))) .nil)) (.cons (.tup (.cons (.tup (.cons (.var rfl) (.cons .str .nil))) .nil)) .nil))) .nil)) rfl ?_
      exact fun p xs H' hp k1 e d => ⟨p, xs, rfl, hp, k1, e, d⟩
    rintro σ' H1 ⟨p, xs, rfl, np, k1, lp1, d1⟩
    have pa : p ≠ a := (ne_of_none hs.choose_spec.choose_spec.1 np).symm
    have gl : ∀ z ∈ [gl1 nt, gl2 nt, gl3 nt], GoodL ns z := gl_good hn
    refine ⟨fun σ' H' => ∃ xs, σ' = [some (.ref a), some (.str nt), some (.ref p), none] ∧ Keep [] H H' ∧ H' p = some (.lst xs) ∧ DtAll K H' xs ([gl1 nt, gl2 nt, gl3 nt].map lnD), ?_, ?_⟩
    · refine ⟨_, rfl, .inl ⟨rfl, _, SqL.of lp1⟩, ?_⟩
      refine LtA.cons (K := K) (d := lnD (gl3 nt)) (.tup (.cons (.tup (.cons (.tup (.cons .str (.cons (.var rfl) (.cons .bl .nil)))) .nil)) (.cons (.tup .nil) .nil))) .nil H1 _ ?_
      intro ys H2 k2 d2
      cases d2 with
      | cons dv dn =>
        cases dn
        refine ⟨p, xs, _, rfl, rfl, k2.to lp1, ?_, ?_⟩
        · rw [d1.length]
          exact Nat.lt_of_lt_of_le (show 2 < 100 by decide) (by decide)
        · exact ⟨_, rfl, Keep.own (k1.trans k2) np, upd_same, ((d1.k0 k2).append (.cons dv .nil)).keep (Keep.at_ (m := [p]) (by simp)) (Soft.lst (k2.to lp1))⟩
    rintro σ' H2 ⟨ys, rfl, k2, lp2, d2⟩
    have s2 := hs.keep k2 (by simp)
    have hl2 : ys.length = 3 := by rw [d2.length]; rfl
    refine ⟨fun σ' H' => ∃ kd, σ' = [some (.ref a), some (.str nt), some (.ref p), some (.int kd)] ∧ Keep [a] H H' ∧ Src H' a ∧ H' p = some (.lst ys) ∧ DtAll K H' ys ([gl1 nt, gl2 nt, gl3 nt].map lnD), ?_, ?_⟩
    · exact ⟨_, rfl, a, 5, rfl, s2, by decide, by decide, fun r H3 r0 r1 k3 s3 => ⟨r, rfl, (Keep.of_nil k2).trans k3, s3, k3 _ _ (by simpa using pa) lp2, d2.keep k3 s2.soft⟩⟩
    rintro σ' H3 ⟨kd, rfl, k3, s3, lp3, d3⟩
    let M : L2.St → Hp → Prop := fun σ' H' => ∃ (p' : Addr) (ys : List V) (ms : List Ln), σ' = [some (.ref a), some (.str nt), some (.ref p'), some (.int kd)] ∧ H p' = none ∧ Keep [a] H H' ∧ Src H' a ∧ H' p' = some (.lst ys) ∧ DtAll K H' ys (ms.map lnD) ∧ 2 ≤ ms.length ∧ ms.length ≤ 3 ∧ ∀ z ∈ ms, GoodL ns z
    refine ⟨M, ?_, ?_⟩
    · refine ⟨_, rfl, rfl, _, rfl, ?_⟩
      refine ite2 (fun _ => ?_) (fun _ => ?_)
      · refine ⟨_, rfl, .inl ⟨rfl, _, SqL.of lp3⟩, _, rfl, a, 3, rfl, s3, by decide, by decide, fun r H4 r0 r1 k4 s4 => ?_⟩
        obtain ⟨j, rfl⟩ := Int.eq_ofNat_of_zero_le r0
        have hj : j < ys.length := by omega
        have lp4 := k4 _ _ (by simpa using pa) lp3
        have d4 := d3.keep k4 s3.soft
        refine ⟨p, ys, j, j, ys[j], rfl, rfl, lp4, by omega, by omega, seqIndex_nat hj, by simp [hj], ?_⟩
        have kp : Keep [p] H4 (upd H4 p (.lst (ys.eraseIdx j))) := Keep.at_ (by simp)
        have hj3 : j < 3 := by omega
        refine ⟨p, ys.eraseIdx j, [gl1 nt, gl2 nt, gl3 nt].eraseIdx j, rfl, np, Keep.own (k3.trans k4) np, s4.keep kp (by simpa using pa.symm), upd_same, ?_, ?_, ?_, fun z hz => gl z (mem_erase hz)⟩
        · rw [← map_erase]
          exact (d4.eraseIdx j).keep kp (Soft.lst lp4)
        · rw [List.length_eraseIdx]
          simp [hj3]
        · rw [List.length_eraseIdx]
          simp [hj3]
      · exact ⟨p, ys, _, rfl, np, k3, s3, lp3, d3, Nat.le_of_ble_eq_true rfl, Nat.le_of_ble_eq_true rfl, gl⟩
    rintro σ' H4 ⟨p4, y4, m4, rfl, n4, k4, s4, lp4, d4, l2, l3, g4⟩
    refine ⟨M, ?_, ?_⟩
    · refine ⟨_, rfl, rfl, _, rfl, ?_⟩
      refine ite2 (fun _ => ?_) (fun _ => ?_)
      · refine ⟨_, rfl, _, rfl, a, p4, y4, ns, m4, rfl, s4, SqL.of lp4, d4, hok, g4, by omega, fun q zs os H5 k5 nq s5 lq dq hl hm => ?_⟩
        exact ⟨q, zs, os, rfl, k4.free (by simpa using (ne_of_none s4.choose_spec.choose_spec.1 nq).symm) nq, k4.trans k5, s5, lq, dq, by omega, by omega, fun z hz => g4 z (hm z hz)⟩
      · exact ⟨p4, y4, m4, rfl, n4, k4, s4, lp4, d4, l2, l3, g4⟩
    rintro σ' H5 ⟨p5, y5, m5, rfl, n5, k5, s5, lp5, d5, l25, l35, g5⟩
    have pa5 : p5 ≠ a := (ne_of_none hs.choose_spec.choose_spec.1 n5).symm
    refine ⟨M, ?_, ?_⟩
    · refine ⟨_, rfl, rfl, _, rfl, ?_⟩
      refine ite2 (fun _ => ?_) (fun _ => ?_)
      · cases m5 with
        | nil => simp at l25
        | cons m0 ms =>
          generalize hy : y5 = yy at d5
          cases d5 with
          | cons dv dr =>
            rename_i v vs
            obtain ⟨la, lxs, rfl, hla, dl⟩ := dv.items
            generalize hx : lxs = xx at dl
            cases dl with
            | cons dt dl =>
              cases dl with
              | cons ds dk =>
                rename_i vt vr' vsx vk
                obtain ⟨sa, sxs, rfl, hsa, dss⟩ := ds.items
                subst hy hx
                refine ⟨_, rfl, .inl ⟨p5, _, 0, _, rfl, rfl, SqL.of lp5, at0 .., .inr (.inl ⟨la, _, 0, _, rfl, rfl, hla, at0 .., ?_⟩)⟩⟩
                refine ⟨_, rfl, .inl ⟨p5, _, 0, _, rfl, rfl, SqL.of lp5, at0 .., .inr (.inl ⟨la, _, 1, _, rfl, rfl, hla, at1 .., ?_⟩)⟩⟩
                refine ⟨sa, sxs, rfl, hsa, fun q1 n1 => ⟨(by show 2 ≤ sizeLine; decide), fun q2 n2 => ⟨_, rfl, p5, _, 0, 0, rfl, rfl, ((Keep.new (m := []) n1).trans (Keep.new n2)).to lp5, by simp [ixN], ?_⟩⟩⟩
                have fin : ∀ Hd, Keep [] H5 Hd → Hd q2 = some (.tup [vr', .ref q1]) → Hd q1 = some (.tup sxs.reverse) → M [some (.ref a), some (.str nt), some (.ref p5), some (.int kd)] (upd Hd p5 (.lst (.ref q2 :: vs))) := by
                  intro Hd kd' h2 h1
                  have kp : Keep [p5] Hd (upd Hd p5 (.lst (.ref q2 :: vs))) := Keep.at_ (by simp)
                  have g0 := g5 m0 List.mem_cons_self
                  refine ⟨p5, _, ⟨m0.tests, m0.steps.reverse, none⟩ :: ms, rfl, n5, Keep.own (k5.trans (Keep.of_nil kd')) n5, (s5.keep kd' (by simp)).keep kp (by simpa using pa5.symm), upd_same, ?_, l25, l35, ?_⟩
                  · have dn : Dt K Hd (.ref q2) (lnD ⟨m0.tests, m0.steps.reverse, none⟩) := by
                      refine .tup (SqT.of h2) (.cons (dt.k0 kd') (.cons (.tup (SqT.of h1) ?_) .nil))
                      rw [List.map_reverse]
                      exact (dss.k0 kd').rev
                    exact (DtAll.cons dn (dr.k0 kd')).keep kp (Soft.lst (kd'.to lp5))
                  · intro z hz
                    rcases List.mem_cons.mp hz with e | hz
                    · rw [e]
                      exact ⟨g0.tests, ⟨by rw [List.length_reverse]; exact g0.steps.1, fun s hs => g0.steps.2 s (List.mem_reverse.mp hs)⟩, fun k z => by cases z⟩
                    · exact g5 z (List.mem_cons_of_mem _ hz)
                exact fin _ ((Keep.new n1).trans (Keep.new n2)) upd_same ((Keep.new (m := []) n2).to upd_same)
      · exact ⟨p5, y5, m5, rfl, n5, k5, s5, lp5, d5, l25, l35, g5⟩
    rintro σ' H6 ⟨p6, y6, m6, rfl, n6, k6, s6, lp6, d6, l26, l36, g6⟩
    exact ⟨_, rfl, k p6 y6 m6 H6 k6 n6 s6 lp6 d6 l26 l36 g6⟩
end
end La
set_option Elab.async false
set_option linter.all false
set_option maxRecDepth 100000
set_option maxHeartbeats 4000000
namespace La
open PySem PySem.Spec PyProof.Rows L2 SM
/-- a plan with another word for "was" -/
def spNoted (K : PySem.W.Frag) : Sp := fun vs H Q _ => ∃ (wd : Str) (n l : Addr) (us xs : List V) (ns : List Str) (ls : List Ln), vs = [.str wd, .ref n, .ref l] ∧ SqT K H n us ∧ DtAll K H us (ns.map PyData.str) ∧ ns.length ≤ 3 ∧ SqL K H l xs ∧ DtAll K H xs (ls.map lnD) ∧ ls.length ≤ 8 ∧ (∀ z ∈ ls, GoodL ns z) ∧
  ∀ v H', Keep [] H H' → Dt K H' v (planD (ns.map (ren wd)) (ls.map (renL wd))) → Q v H'
section
variable {P : Program} {w : World} {K : PySem.W.Frag} {mg : Str → Option Value} {base : Heap}
abbrev s__law_noted_as : Stmt := (top 40)
abbrev N__law_noted_as : List Str := ["word", "names", "lines", "found", "line", "lists", "one", "entry", "part", "name"]
abbrev P__law_noted_as : List Str := ["word", "names", "lines"]
theorem sc__law_noted_as : FnScope N__law_noted_as P__law_noted_as (defScope s__law_noted_as) := ⟨rfl, rfl, rfl, by decide +kernel, rfl, by decide +kernel, by decide +kernel⟩
theorem parts_shape {ns : List Str} {z : Ln} (g : GoodL ns z) : ∀ d ∈ partsD z, ∃ es, d = .tuple es ∧ es.length ≤ 100 ∧ ∀ e ∈ es, ∃ fs, e = .tuple fs ∧ fs.length ≤ 100 ∧ ∀ f ∈ fs, ∀ ds, f ≠ .tuple ds := by
  have hs : ∀ l : List (Str × Str), l.length ≤ 4 → ∃ es, stepsD l = .tuple es ∧ es.length ≤ 100 ∧ ∀ e ∈ es, ∃ fs, e = .tuple fs ∧ fs.length ≤ 100 ∧ ∀ f ∈ fs, ∀ ds, f ≠ .tuple ds := by
    intro l h
    refine ⟨_, rfl, by rw [List.length_map]; omega, fun e he => ?_⟩
    obtain ⟨s, _, rfl⟩ := List.mem_map.mp he
    refine ⟨_, rfl, Nat.le_of_ble_eq_true rfl, fun f hf ds => ?_⟩
    simp only [List.mem_cons, List.not_mem_nil, or_false] at hf
    rcases hf with rfl | rfl <;> (intro z; cases z)
  intro d hd
  rcases List.mem_cons.mp hd with rfl | hd
  · refine ⟨_, rfl, by rw [List.length_map]; have := g.tests.1; omega, fun e he => ?_⟩
    obtain ⟨s, _, rfl⟩ := List.mem_map.mp he
    refine ⟨_, rfl, Nat.le_of_ble_eq_true rfl, fun f hf ds => ?_⟩
    simp only [List.mem_cons, List.not_mem_nil, or_false] at hf
    rcases hf with rfl | rfl | rfl <;> (intro z; cases z)
  · rcases List.mem_cons.mp hd with rfl | hd
    · exact hs _ g.steps.1
    · cases hk : z.keep with
      | none =>
        rw [hk] at hd
        cases hd
      | some k =>
        rw [hk] at hd
        rw [List.mem_singleton.mp hd]
        exact hs _ (g.keep k hk).1
theorem parts_len (z : Ln) : (partsD z).length ≤ 100 := by
  obtain ⟨t, s, k⟩ := z
  cases k <;> exact Nat.le_of_ble_eq_true rfl
theorem ren_item {wd : Str} {j : Nat} {σ : L2.St} {H2 : Hp} {v : V} {d : PyData} (h0 : σ[0]? = some (some (.str wd))) (hj : σ[j]? = some (some v)) (hf : ∀ ds, d ≠ .tuple ds) (dv : Dt K H2 v d) :
    LtH K (tIf (tTest (tOp rEq (tVar j) (tC (.str "was")))) (tVar 0) (tVar j)) σ H2 (renD wd d) := by
  intro H1 k1 Q k
  cases dv with
  | non => exact ⟨_, hj, rfl, _, rfl, ite2 (fun e => absurd (of_decide_eq_true e) (by intro z; cases z)) (fun _ => ⟨_, hj, k _ _ Keep.refl .non⟩)⟩
  | bl b => exact ⟨_, hj, rfl, _, rfl, ite2 (fun e => absurd (of_decide_eq_true e) (by intro z; cases z)) (fun _ => ⟨_, hj, k _ _ Keep.refl (.bl b)⟩)⟩
  | int i => exact ⟨_, hj, rfl, _, rfl, ite2 (fun e => absurd (of_decide_eq_true e) (by intro z; cases z)) (fun _ => ⟨_, hj, k _ _ Keep.refl (.int i)⟩)⟩
  | str x =>
    refine ⟨_, hj, rfl, _, rfl, ?_⟩
    refine ite2 (fun e => ?_) (fun e => ?_)
    · have e' : x = "was" := V.str.inj (of_decide_eq_true e)
      refine ⟨_, h0, k _ _ Keep.refl ?_⟩
      show Dt K H1 _ (.str (ren wd x))
      rw [ren, if_pos e']
      exact .str wd
    · have e' : x ≠ "was" := fun z => e (decide_eq_true (congrArg V.str z))
      refine ⟨_, hj, k _ _ Keep.refl ?_⟩
      show Dt K H1 _ (.str (ren wd x))
      rw [ren, if_neg e']
      exact .str x
  | tup s t => exact absurd rfl (hf _)
theorem D_law_noted_as (W : Cw fas fns K mg) : DefOk P w K mg base CX0 1 "_law_noted_as" P__law_noted_as (spNoted K) := by
  refine DefOk.of W 31 33 (st := s__law_noted_as) rfl rfl sc__law_noted_as (fun _ _ _ _ _ _ us hl => match us, hl with | [_, _, _], _ => rfl) (fun vs H Q E h => ?_) (fun cdv A outer s H vs Q E hr h => ?_)
  · obtain ⟨wd, n, l, us, xs, ns, ls, rfl, _⟩ := h
    rfl
  · obtain ⟨wd, n, l, us, xs, ns, ls, rfl, hn, dn, n3, hl, dl, l8, hg, k⟩ := h
    refine ⟨_, PSs.nox (Evl.pss_cut (ps_set (i := 3) sc__law_noted_as.nd rfl (by first | exact Or.inl rfl | exact Or.inr rfl) (pe_lst pa_nil)) (Evl.pss_cut (ps_for PassesOwn.never rfl (pi_list (pv 2)) (pg_name (i := 4) sc__law_noted_as.nd rfl (by first | exact Or.inl rfl | exact Or.inr rfl)) (Evl.pss_cut (ps_setLc (i := 5) (own := [("part", 8)]) (g := gName 8) (tt := tYes) (te := SM.teTup K (tLc (iTup K _) _ tYes (SM.teTup K (tLc (iTup K _) _ tYes _ _)) _)) (by rfl) sc__law_noted_as.nd rfl rfl (sw_true rfl rfl rfl (by decide +kernel)) (pi_tup (pv 4)) (blkOk_by (own := [("part", 8)]) (N := N__law_noted_as) (sc := defScope s__law_noted_as) (by decide +kernel)) (fun _ _ _ _ _ => pg_name (i := 8) sc__law_noted_as.nd rfl (Or.inl rfl)) (fun _ _ _ _ _ => pts_nil) (fun _ _ _ _ _ => (pe_callTy call_tuple_of (by rfl) (W.fre 54) (by decide +kernel) (pa_cons (pe_lc (own := [("entry", 7)]) (g := gName 7) (tt := tYes) (te := SM.teTup K (tLc (iTup K _) _ tYes _ _)) (by rfl) sc__law_noted_as.nd (pi_tup (pv 8)) (SM.blkOk_nest (own := [("entry", 7)]) (N := N__law_noted_as) (by decide +kernel)) (fun _ _ _ _ _ => pg_name (i := 7) sc__law_noted_as.nd rfl (Or.inl rfl)) (fun _ _ _ _ _ => pts_nil) (fun _ _ _ _ _ => (pe_callTy call_tuple_of (by rfl) (W.fre 54) (by decide +kernel) (pa_cons (pe_lc (own := [("one", 6)]) (g := gName 6) (tt := tYes) (by rfl) sc__law_noted_as.nd (pi_tup (pv 7)) (SM.blkOk_nest (own := [("one", 6)]) (N := N__law_noted_as) (by decide +kernel)) (fun _ _ _ _ _ => pg_name (i := 6) sc__law_noted_as.nd rfl (Or.inl rfl)) (fun _ _ _ _ _ => pts_nil) (fun _ _ _ _ _ => (pe_ifExp (pt_cmpR op_eq (pv 6) pe_str (nomark _)) (pv 0) (pv 6)))) pa_nil)))) pa_nil)))) (pss_one (ps_expr (pe_bm PySem.F.plainAttrs_list PySem.F.slot_list_append PySem.F.type_list_append mt_append (pv 3) (pa_cons (pe_callTy call_tuple_of (by rfl) (W.fre 54) (by decide +kernel) (pa_cons (pv 5) pa_nil)) pa_nil)))))) (pss_one (ps_ret (pe_tup (pa_cons (pe_callTy call_tuple_of (by rfl) (W.fre 54) (by decide +kernel) (pa_cons (pe_lc (own := [("name", 9)]) (g := gName 9) (tt := tYes) (by rfl) sc__law_noted_as.nd (pi_tup (pv 1)) (blkOk_by (own := [("name", 9)]) (N := N__law_noted_as) (sc := defScope s__law_noted_as) (by decide +kernel)) (fun _ _ _ _ _ => pg_name (i := 9) sc__law_noted_as.nd rfl (Or.inl rfl)) (fun _ _ _ _ _ => pts_nil) (fun _ _ _ _ _ => (pe_ifExp (pt_cmpR op_eq (pv 9) pe_str (nomark _)) (pv 0) (pv 9)))) pa_nil)) (pa_cons (pe_callTy call_tuple_of (by rfl) (W.fre 54) (by decide +kernel) (pa_cons (pv 3) pa_nil)) pa_nil))))))), ?_⟩
    refine ⟨fun σ' H' => ∃ p, σ' = [some (.str wd), some (.ref n), some (.ref l), some (.ref p), none, none, none, none, none, none] ∧ H p = none ∧ Keep [] H H' ∧ H' p = some (.lst []), ?_, ?_⟩
    · exact ⟨Nat.zero_le _, fun p hp => ⟨p, rfl, hp, Keep.new hp, upd_same⟩⟩
    rintro σ' H1 ⟨p, rfl, np, k1, lp1⟩
    have lenx : xs.length = ls.length := by rw [dl.length, List.length_map]
    refine ⟨fun σ' H' => ∃ ys g4 g5, σ' = [some (.str wd), some (.ref n), some (.ref l), some (.ref p), g4, g5, none, none, none, none] ∧ Keep [] H H' ∧ H' p = some (.lst ys) ∧ DtAll K H' ys (linesD (ls.map (renL wd))), ?_, ?_⟩
    · refine ⟨_, rfl, l, rfl, ⟨xs, k1.same.seq hl⟩, ?_⟩
      refine for_list (xs := xs) (fun i σ' H' => ∃ ys g4 g5, σ' = [some (.str wd), some (.ref n), some (.ref l), some (.ref p), g4, g5, none, none, none, none] ∧ Keep [] H H' ∧ H' p = some (.lst ys) ∧ ys.length = i ∧ DtAll K H' ys (linesD ((ls.take i).map (renL wd)))) ⟨[], none, none, rfl, k1, lp1, rfl, by simpa [linesD] using DtAll.nil⟩ ?_ ?_ ?_
      · rintro i σ' H' _ ⟨ys, g4, g5, rfl, k2, _⟩
        exact k2.same.seq hl
      · rintro i x σ' H2 hx ⟨ys, g4, g5, rfl, k2, lp2, leny, dy⟩
        obtain ⟨d, hd, dx⟩ := dl.get hx
        have hi : i < ls.length := by
          rw [← lenx]
          rcases Nat.lt_or_ge i xs.length with h | h
          · exact h
          · rw [List.getElem?_eq_none h] at hx
            cases hx
        have hz : ls[i]? = some ls[i] := by simp [hi]
        have ed : d = lnD ls[i] := by
          rw [List.getElem?_map, hz] at hd
          exact (Option.some.inj hd).symm
        subst ed
        have zin : ls[i] ∈ ls := List.getElem_mem hi
        generalize ls[i] = z at hz dx zin
        obtain ⟨la, lxs, rfl, hla, dla⟩ := (dx.k0 k2).items
        have gz := hg z zin
        refine ⟨fun σ' H' => ∃ q qs, σ' = [some (.str wd), some (.ref n), some (.ref l), some (.ref p), some (.ref la), some (.ref q), none, none, none, none] ∧ Keep [] H2 H' ∧ H' q = some (.lst qs) ∧ DtAll K H' qs (partsD (renL wd z)), ?_, ?_⟩
        · refine lcT (ds := partsD z) (f := renP wd) (xs := lxs) rfl hla dla (parts_len z) ?_ ?_
          · intro H3 k3 v d hd dv
            obtain ⟨es, rfl, es4, hes⟩ := parts_shape gz d hd
            obtain ⟨pa, pxs, rfl, hpa, dpa⟩ := dv.items
            refine LtH.tup (ds := es) (f := renE wd) (xs := pxs) rfl hpa dpa es4 ?_
            intro H4 k4 v e he dv
            obtain ⟨fs, rfl, fs4, hfs⟩ := hes e he
            obtain ⟨pe, exs, rfl, hpe, dpe⟩ := dv.items
            refine LtH.tup (ds := fs) (f := renD wd) (xs := exs) rfl hpe dpe fs4 ?_
            intro H5 k5 v f hf dv
            exact ren_item (j := 6) rfl rfl (hfs f hf) dv
          · intro D qs H3 nD k3 e3 d3
            rw [renP_line] at d3
            exact ⟨D, qs, rfl, k3, e3, d3⟩
        rintro σ' H3 ⟨q, qs, rfl, k3, lq3, dq3⟩
        have lp3 := k3.to lp2
        refine ⟨_, rfl, .inl ⟨rfl, _, SqL.of lp3⟩, _, rfl, q, qs, rfl, .inl ⟨SqL.of lq3, fun r hr => ?_⟩⟩
        have lp4 := (Keep.new (m := []) (o := .tup qs) hr).to lp3
        refine ⟨p, ys, _, rfl, rfl, lp4, ?_, ?_⟩
        · rw [leny]
          exact Nat.lt_of_lt_of_le (show i < 100 by omega) (by decide)
        · refine ⟨ys ++ [.ref r], _, _, rfl, Keep.own (k2.trans (k3.trans (Keep.new hr))) np, upd_same, by rw [List.length_append, leny]; rfl, ?_⟩
          have kp : Keep [p] (upd H3 r (.tup qs)) (upd (upd H3 r (.tup qs)) p (.lst (ys ++ [.ref r]))) := Keep.at_ (by simp)
          rw [List.take_succ, hz, Option.toList_some, List.map_append, linesD, List.map_append]
          refine DtAll.keep kp (Soft.lst lp4) (DtAll.append ((dy.k0 k3).k0 (Keep.new hr)) (.cons (.tup (SqT.of upd_same) (dq3.k0 (Keep.new hr))) .nil))
      · rintro σ' H2 ⟨ys, g4, g5, rfl, k2, lp2, leny, dy⟩
        rw [lenx, List.take_length] at dy
        exact ⟨ys, g4, g5, rfl, k2, lp2, dy⟩
    rintro σ' H2 ⟨ys, g4, g5, rfl, k2, lp2, dy⟩
    dsimp only [tRet, tTup, tCons, tCB]
    refine lcT (K := K) (i := 1) (j := 9) (ds := ns.map PyData.str) (f := renD wd) (xs := us) (te := tIf (tTest (tOp rEq (tVar 9) (tC (.str "was")))) (tVar 0) (tVar 9)) rfl (seqT_keep k2 Soft.nil hn) (dn.k0 k2) (by rw [List.length_map]; omega) ?_ ?_
    · intro H3 k3 v d hd dv
      refine ren_item (j := 9) rfl rfl (fun ds z => ?_) dv
      obtain ⟨s, _, rfl⟩ := List.mem_map.mp hd
      cases z
    · intro D qs H3 nD k3 e3 d3
      rw [List.map_map] at d3
      refine ⟨D, qs, rfl, .inl ⟨SqL.of e3, fun r hr => ?_⟩⟩
      have lp3 := k3.to lp2
      refine ⟨_, rfl, p, ys, rfl, .inl ⟨SqL.of ((Keep.new (m := []) (o := .tup qs) hr).to lp3), fun r2 hr2 => ⟨(by show 2 ≤ sizeLine; decide), fun r3 hr3 => ?_⟩⟩⟩
      have fin : ∀ Hd, Keep [] H3 Hd → Hd r = some (.tup qs) → Hd r2 = some (.tup ys) → Hd r3 = some (.tup [.ref r, .ref r2]) → Q (.ref r3) Hd := by
        intro Hd kd h1 h2 h3
        refine k _ _ (k2.trans (k3.trans kd)) (.tup (SqT.of h3) (.cons (.tup (SqT.of h1) ?_) (.cons (.tup (SqT.of h2) ?_) .nil)))
        · rw [List.map_map]
          exact d3.k0 kd
        · exact (dy.k0 k3).k0 kd
      exact fin _ ((Keep.new hr).trans ((Keep.new hr2).trans (Keep.new hr3))) (((Keep.new (m := []) hr2).trans (Keep.new hr3)).to upd_same) ((Keep.new (m := []) hr3).to upd_same) upd_same
end
end La
set_option Elab.async false
set_option linter.all false
set_option maxRecDepth 100000
set_option maxHeartbeats 4000000
namespace La
open PySem PySem.Spec PyProof.Rows L2 SM
def planNames1 : List (List Str) := [[], ["was"], ["was"], ["beside"], ["was", "due"], ["beside", "was"], ["elder", "was"], ["was", "elder"]]
def planNames2 : List (List Str) := [["beside", "elder"], ["due", "beside", "was"], ["elder", "beside", "was"]]
def planNames : List (List Str) := planNames1 ++ planNames2
def planWords : List Str := ["was", "was", "was", "last", "mark", "mine", "own", "take"]
def namesD (ns : List Str) : PyData := .tuple (ns.map .str)
theorem planNames_ok : ∀ ns ∈ planNames, ns.length ≤ 3 ∧ OkN ns := by
  have h : planNames.all (fun ns => decide (ns.length ≤ 3) && ns.all fun s => PyData.strOk s) = true := by decide +kernel
  intro ns hns
  have := List.all_eq_true.mp h ns hns
  rw [Bool.and_eq_true, decide_eq_true_eq, List.all_eq_true] at this
  exact this
/-- a plan: names, with another word for "was", and lines over them -/
structure PlanOk (ns : List Str) (ls : List Ln) : Prop where
  names : ∃ ns0 ∈ planNames, ∃ wd ∈ planWords, ns = ns0.map (ren wd)
  few : 1 ≤ ls.length ∧ ls.length ≤ 6
  good : ∀ z ∈ ls, GoodL ns z
  last : ∃ is e, ls = is ++ [e] ∧ e.tests = []
theorem strs_of {K : PySem.W.Frag} {H : Hp} : ∀ {ns : List Str} {us : List V}, DtAll K H us (ns.map PyData.str) → us = ns.map V.str
  | [], _, .nil => rfl
  | n :: ns, _, .cons h t => by
    rw [strs_of t]
    cases h
    rfl
theorem shaped_strs {ns : List Str} (h : OkN ns) : SeqAt.shaped (.tuple (ns.map PyData.str)) = true := by
  refine (Lay.tuple (n := 0) fun d z => ?_).shaped (by decide)
  obtain ⟨s, hs, rfl⟩ := List.mem_map.mp z
  exact .str (h s hs)
theorem shaped_str {x : Str} (h : PyData.strOk x = true) : SeqAt.shaped (.str x) = true := (Lay.str (n := 0) h).shaped (by decide)
def end1 : Ln := ⟨[], [("here", "new")], none⟩
def end2 : Ln := ⟨[], [("here", "new"), ("was", "new")], some [("was", "new")]⟩
def end3 : Ln := ⟨[], [("beside", "here"), ("here", "new")], none⟩
def end4 : Ln := ⟨[], [("beside", "new")], none⟩
theorem end1_good (ns : List Str) : GoodL ns end1 := by
  refine ⟨⟨by decide, fun t z => by cases z⟩, ⟨by decide, fun t z => ?_⟩, fun k z => by cases z⟩
  rw [List.mem_singleton.mp z]
  exact ⟨.inl rfl, .inl rfl⟩
theorem end2_good {ns : List Str} (h : ("was" : Str) ∈ ns) : GoodL ns end2 := by
  refine ⟨⟨by decide, fun t z => by cases z⟩, ⟨by decide, fun t z => ?_⟩, fun k z => ?_⟩
  · rcases List.mem_cons.mp z with e | z
    · rw [e]
      exact ⟨.inl rfl, .inl rfl⟩
    · rw [List.mem_singleton.mp z]
      exact ⟨.inr h, .inl rfl⟩
  · cases z
    refine ⟨by decide, fun t z => ?_⟩
    rw [List.mem_singleton.mp z]
    exact ⟨.inr h, .inl rfl⟩
theorem end3_good {ns : List Str} (h : ("beside" : Str) ∈ ns) : GoodL ns end3 := by
  refine ⟨⟨by decide, fun t z => by cases z⟩, ⟨by decide, fun t z => ?_⟩, fun k z => by cases z⟩
  rcases List.mem_cons.mp z with e | z
  · rw [e]
    exact ⟨.inr h, .inr (.inl rfl)⟩
  · rw [List.mem_singleton.mp z]
    exact ⟨.inl rfl, .inl rfl⟩
theorem end4_good {ns : List Str} (h : ("beside" : Str) ∈ ns) : GoodL ns end4 := by
  refine ⟨⟨by decide, fun t z => by cases z⟩, ⟨by decide, fun t z => ?_⟩, fun k z => by cases z⟩
  rw [List.mem_singleton.mp z]
  exact ⟨.inr h, .inl rfl⟩
/-- a drawn plan -/
def spPlan (K : PySem.W.Frag) : Sp := fun vs H Q _ => ∃ a : Addr, vs = [.ref a] ∧ Src H a ∧ ∀ v H' ns ls, Keep [a] H H' → Src H' a → Dt K H' v (planD ns ls) → PlanOk ns ls → Q v H'
section
variable {P : Program} {w : World} {K : PySem.W.Frag} {mg : Str → Option Value} {base : Heap}
abbrev s__law_plan : Stmt := (top 41)
abbrev N__law_plan : List Str := ["source", "some", "names", "lines", "turn", "line", "ends", "word"]
abbrev P__law_plan : List Str := ["source"]
theorem sc__law_plan : FnScope N__law_plan P__law_plan (defScope s__law_plan) := ⟨rfl, rfl, rfl, by decide +kernel, rfl, by decide +kernel, by decide +kernel⟩
theorem D_law_plan (W : Cw fas fns K mg) (D_law_draw : DefOk P w K mg base CX0 1 "_law_draw" P__law_draw spDraw) (D_law_pick : DefOk P w K mg base CX0 2 "_law_pick" P__law_pick (spPick K))
    (D_law_steps : DefOk P w K mg base CX0 3 "_law_steps" P__law_steps (spSteps K)) (D_law_tests : DefOk P w K mg base CX0 3 "_law_tests" P__law_tests (spTests K)) (D_law_good : DefOk P w K mg base CX0 3 "_law_good" P__law_good (spGood K))
    (D_law_noted_as : DefOk P w K mg base CX0 1 "_law_noted_as" P__law_noted_as (spNoted K)) : DefOk P w K mg base CX0 4 "_law_plan" P__law_plan (spPlan K) := by
  refine DefOk.of W 32 34 (st := s__law_plan) rfl rfl sc__law_plan (fun _ _ _ _ _ _ us hl => match us, hl with | [_], _ => rfl) (fun vs H Q E h => ?_) (fun cdv A outer s H vs Q E hr h => ?_)
  · obtain ⟨a, rfl, _⟩ := h
    rfl
  · obtain ⟨a, rfl, hs, k⟩ := h
    refine ⟨_, PSs.nox (Evl.pss_cut (ps_set (i := 1) sc__law_plan.nd rfl (by first | exact Or.inl rfl | exact Or.inr rfl) (pe_lst (pa_cons (pe_tup pa_nil) (pa_cons (pe_tup (pa_cons pe_str pa_nil)) (pa_cons (pe_tup (pa_cons pe_str pa_nil)) (pa_cons (pe_tup (pa_cons pe_str pa_nil)) (pa_cons (pe_tup (pa_cons pe_str (pa_cons pe_str pa_nil))) (pa_cons (pe_tup (pa_cons pe_str (pa_cons pe_str pa_nil))) (pa_cons (pe_tup (pa_cons pe_str (pa_cons pe_str pa_nil))) (pa_cons (pe_tup (pa_cons pe_str (pa_cons pe_str pa_nil))) pa_nil)))))))))) (Evl.pss_cut (ps_set (i := 2) sc__law_plan.nd rfl (by first | exact Or.inl rfl | exact Or.inr rfl) (SM.pe_callD D_law_pick (hr.mono (by decide)) pass0 (pa_cons (pv 0) (pa_cons (pe_op op_cat (pv 1) (pe_lst (pa_cons (pe_tup (pa_cons pe_str (pa_cons pe_str pa_nil))) (pa_cons (pe_tup (pa_cons pe_str (pa_cons pe_str (pa_cons pe_str pa_nil)))) (pa_cons (pe_tup (pa_cons pe_str (pa_cons pe_str (pa_cons pe_str pa_nil)))) pa_nil))))) pa_nil)))) (Evl.pss_cut (ps_set (i := 3) sc__law_plan.nd rfl (by first | exact Or.inl rfl | exact Or.inr rfl) (pe_lst pa_nil)) (Evl.pss_cut (ps_if (PW.pt (pw_and (pt_cmpR (SM.op_inT (SM.units65 hr)) pe_str (pv 2) (by rfl)) (pw_and1 (pt_cmpR op_gt (SM.pe_callD D_law_draw (hr.mono (by decide)) pass0 (pa_cons (pv 0) (pa_cons pe_int pa_nil))) pe_int (nomark _))))) (pss_one (ps_set (i := 3) sc__law_plan.nd rfl (by first | exact Or.inl rfl | exact Or.inr rfl) (SM.pe_callD D_law_good (hr.mono (by decide)) pass0 (pa_cons (pv 0) (pa_cons pe_str pa_nil))))) pss_nil) (Evl.pss_cut (ps_for PassesOwn.never rfl (pi_range1 (by rfl) (W.fre 51) (pa_cons (SM.pe_callD D_law_draw (hr.mono (by decide)) pass0 (pa_cons (pv 0) (pa_cons pe_int pa_nil))) pa_nil)) (pg_name (i := 4) sc__law_plan.nd rfl (by first | exact Or.inl rfl | exact Or.inr rfl)) (Evl.pss_cut (ps_set (i := 5) sc__law_plan.nd rfl (by first | exact Or.inl rfl | exact Or.inr rfl) (pe_tup (pa_cons (SM.pe_callD D_law_tests (hr.mono (by decide)) pass0 (pa_cons (pv 0) (pa_cons (pv 2) (pa_cons pe_int pa_nil)))) (pa_cons (SM.pe_callD D_law_steps (hr.mono (by decide)) pass0 (pa_cons (pv 0) (pa_cons (pv 2) (pa_cons pe_int pa_nil)))) pa_nil)))) (Evl.pss_cut (ps_if (pt_cmpR op_eq (SM.pe_callD D_law_draw (hr.mono (by decide)) pass0 (pa_cons (pv 0) (pa_cons pe_int pa_nil))) pe_int (nomark _)) (pss_one (ps_set (i := 5) sc__law_plan.nd rfl (by first | exact Or.inl rfl | exact Or.inr rfl) (pe_op op_catA (pv 5) (pe_tup (pa_cons (SM.pe_callD D_law_steps (hr.mono (by decide)) pass0 (pa_cons (pv 0) (pa_cons (pv 2) (pa_cons pe_int pa_nil)))) pa_nil))))) pss_nil) (pss_one (ps_expr (pe_bm PySem.F.plainAttrs_list PySem.F.slot_list_insert PySem.F.type_list_insert mt_insert (pv 3) (pa_cons (SM.pe_callD D_law_draw (hr.mono (by decide)) pass0 (pa_cons (pv 0) (pa_cons (pe_op op_add (pe_callB call_len_seq (by rfl) (W.fre 46) (by decide +kernel) (pa_cons (pv 3) pa_nil)) pe_int) pa_nil))) (pa_cons (pv 5) pa_nil)))))))) (Evl.pss_cut (ps_set (i := 6) sc__law_plan.nd rfl (by first | exact Or.inl rfl | exact Or.inr rfl) (pe_lst (pa_cons (pe_tup (pa_cons (pe_tup pa_nil) (pa_cons (SM.pe_callD D_law_steps (hr.mono (by decide)) pass0 (pa_cons (pv 0) (pa_cons (pv 2) (pa_cons pe_int pa_nil)))) pa_nil))) (pa_cons (pe_tup (pa_cons (pe_tup pa_nil) (pa_cons (pe_tup (pa_cons (pe_tup (pa_cons pe_str (pa_cons pe_str pa_nil))) pa_nil)) pa_nil))) pa_nil)))) (Evl.pss_cut (ps_if (pt_cmpR (SM.op_inT (SM.units65 hr)) pe_str (pv 2) (by rfl)) (pss_one (ps_set (i := 6) sc__law_plan.nd rfl (by first | exact Or.inl rfl | exact Or.inr rfl) (pe_op op_cat (pv 6) (pe_op op_rep (pe_lst (pa_cons (pe_tup (pa_cons (pe_tup pa_nil) (pa_cons (pe_tup (pa_cons (pe_tup (pa_cons pe_str (pa_cons pe_str pa_nil))) (pa_cons (pe_tup (pa_cons pe_str (pa_cons pe_str pa_nil))) pa_nil))) (pa_cons (pe_tup (pa_cons (pe_tup (pa_cons pe_str (pa_cons pe_str pa_nil))) pa_nil)) pa_nil)))) pa_nil)) pe_int)))) pss_nil) (Evl.pss_cut (ps_if (pt_cmpR (SM.op_inT (SM.units65 hr)) pe_str (pv 2) (by rfl)) (pss_one (ps_set (i := 6) sc__law_plan.nd rfl (by first | exact Or.inl rfl | exact Or.inr rfl) (pe_op op_cat (pv 6) (pe_lst (pa_cons (pe_tup (pa_cons (pe_tup pa_nil) (pa_cons (pe_tup (pa_cons (pe_tup (pa_cons pe_str (pa_cons pe_str pa_nil))) (pa_cons (pe_tup (pa_cons pe_str (pa_cons pe_str pa_nil))) pa_nil))) pa_nil))) (pa_cons (pe_tup (pa_cons (pe_tup pa_nil) (pa_cons (pe_tup (pa_cons (pe_tup (pa_cons pe_str (pa_cons pe_str pa_nil))) pa_nil)) pa_nil))) pa_nil)))))) pss_nil) (Evl.pss_cut (ps_set (i := 7) sc__law_plan.nd rfl (by first | exact Or.inl rfl | exact Or.inr rfl) (SM.pe_callD D_law_pick (hr.mono (by decide)) pass0 (pa_cons (pv 0) (pa_cons (pe_lst (pa_cons pe_str (pa_cons pe_str (pa_cons pe_str (pa_cons pe_str (pa_cons pe_str (pa_cons pe_str (pa_cons pe_str (pa_cons pe_str pa_nil))))))))) pa_nil)))) (pss_one (ps_ret (SM.pe_callD D_law_noted_as (hr.mono (by decide)) pass0 (pa_cons (pv 7) (pa_cons (pv 2) (pa_cons (pe_op op_cat (pv 3) (pe_lst (pa_cons (SM.pe_callD D_law_pick (hr.mono (by decide)) pass0 (pa_cons (pv 0) (pa_cons (pv 6) pa_nil))) pa_nil))) pa_nil))))))))))))))), ?_⟩
    refine ⟨fun σ' H' => ∃ l xs, σ' = [some (.ref a), some (.ref l), none, none, none, none, none, none] ∧ Keep [] H H' ∧ H' l = some (.lst xs) ∧ DtAll K H' xs (planNames1.map namesD), ?_, ?_⟩
    · refine LtA.lst (K := K) (ds := planNames1.map namesD) (by repeat' first | exact LtA.nil | refine LtA.cons ?_ ?_ | exact LtE.str | exact LtE.bl | refine LtE.tup ?_) rfl ?_
      exact fun l xs H' _ k1 e d => ⟨l, xs, rfl, k1, e, d⟩
    rintro σ' H1 ⟨l, xs, rfl, k1, ll1, d1⟩
    have s1 := hs.keep k1 (by simp)
    refine ⟨fun σ' H' => ∃ g1 n ns, σ' = [some (.ref a), g1, some (.ref n), none, none, none, none, none] ∧ Keep [a] H H' ∧ Src H' a ∧ SqT K H' n (ns.map V.str) ∧ ns ∈ planNames, ?_, ?_⟩
    · refine ⟨_, rfl, _, rfl, ?_⟩
      refine LtA.lst (K := K) (ds := planNames2.map namesD) (by repeat' first | exact LtA.nil | refine LtA.cons ?_ ?_ | exact LtE.str | exact LtE.bl | refine LtE.tup ?_) rfl ?_
      intro q2 ys H2 _ k2 e2 d2
      have lx : xs.length = 8 := by rw [d1.length]; rfl
      have ly : ys.length = 3 := by rw [d2.length]; rfl
      obtain ⟨x1, y1, ea, _⟩ := id (s1.keep k2 (by simp))
      refine ⟨l, q2, xs, ys, rfl, rfl, k2.to ll1, e2, ?_, fun q3 n3 => ⟨a, q3, xs ++ ys, rfl, (s1.keep k2 (by simp)).keep (Keep.new (m := []) n3) (by simp), .inl (SqL.of upd_same), (ne_of_none ea n3).symm, ?_, ?_, fun j v H4 hv kp sp => ?_⟩⟩
      · rw [lx, ly]
        exact Nat.le_trans (show 8 + 3 ≤ 100 by decide) (by decide)
      · rw [List.length_append]
        omega
      · rw [List.length_append]
        omega
      have dd := ((d1.k0 k2).append d2).k0 (Keep.new (o := .lst (xs ++ ys)) n3)
      obtain ⟨d, hd, dv⟩ := dd.get hv
      rw [← List.map_append, List.getElem?_map] at hd
      cases e : (planNames1 ++ planNames2)[j]? with
      | none =>
        rw [e] at hd
        cases hd
      | some ns =>
        rw [e] at hd
        cases hd
        obtain ⟨n, us, rfl, hn, du⟩ := dv.items
        rw [strs_of du] at hn
        exact ⟨_, n, ns, rfl, Keep.trans (Keep.of_nil (k1.trans (k2.trans (Keep.new n3)))) kp, sp, seqT_keep kp ((s1.keep k2 (by simp)).keep (Keep.new (m := []) n3) (by simp)).soft hn, List.mem_of_getElem? e⟩
    rintro σ' H2 ⟨g1, n, ns, rfl, k2, s2, hn2, hns⟩
    obtain ⟨n3, hok⟩ := planNames_ok ns hns
    refine ⟨fun σ' H' => ∃ p, σ' = [some (.ref a), g1, some (.ref n), some (.ref p), none, none, none, none] ∧ H p = none ∧ Keep [] H2 H' ∧ H' p = some (.lst []), ?_, ?_⟩
    · exact ⟨Nat.zero_le _, fun p hp => ⟨p, rfl, k2.free (by simpa using (ne_of_none s2.choose_spec.choose_spec.1 hp).symm) hp, Keep.new hp, upd_same⟩⟩
    rintro σ' H3 ⟨p, rfl, np, k3, lp3⟩
    have s3 := s2.keep k3 (by simp)
    have pa : p ≠ a := (ne_of_none hs.choose_spec.choose_spec.1 np).symm
    have hn3 := seqT_keep k3 Soft.nil hn2
    have dns : ∀ Hx, DtAll K Hx (ns.map V.str) (ns.map PyData.str) := fun Hx => DtAll.strs ns
    let M4 : L2.St → Hp → Prop := fun σ' H' => ∃ (p : Addr) (ys : List V) (ls : List Ln), σ' = [some (.ref a), g1, some (.ref n), some (.ref p), none, none, none, none] ∧ H p = none ∧ Keep [a] H H' ∧ Src H' a ∧ SqT K H' n (ns.map V.str) ∧ H' p = some (.lst ys) ∧ DtAll K H' ys (List.map lnD ls) ∧ ls.length ≤ 3 ∧ ∀ z ∈ ls, GoodL ns z
    refine ⟨M4, ?_, ?_⟩
    · have no : ∀ H4, Keep [a] H3 H4 → Src H4 a → M4 [some (V.ref a), g1, some (.ref n), some (.ref p), none, none, none, none] H4 := fun H4 k4 s4 =>
        ⟨p, [], [], rfl, np, k2.trans ((Keep.of_nil k3).trans k4), s4, seqT_keep k4 s3.soft hn3, k4 _ _ (by simpa using pa) lp3, .nil, Nat.zero_le _, fun z h => by cases h⟩
      refine ⟨_, rfl, .str "was", ns.map PyData.str, .str _, .tup hn3 (dns H3).dp, shaped_str (by decide +kernel), shaped_strs hok, _, rfl, ?_⟩
      rw [any_str]
      refine ite2 (fun hw => ?_) (fun _ => iteF (no H3 Keep.refl s3))
      have hw' : ("was" : Str) ∈ ns := of_decide_eq_true hw
      refine ⟨_, rfl, a, 3, rfl, s3, by decide, by decide, fun r H4 r0 r1 k4 s4 => ⟨r, 0, rfl, rfl, _, rfl, ite2 (fun _ => ?_) (fun _ => no H4 k4 s4)⟩⟩
      refine ⟨_, rfl, a, ns, "was", rfl, s4, hok, hw', fun p5 ys ms H5 k5 n5 s5 lp5 d5 l2 l3 g => ?_⟩
      have kk := k2.trans ((Keep.of_nil k3).trans (k4.trans k5))
      refine ⟨p5, ys, ms, rfl, ?_, kk, s5, seqT_keep (k4.trans k5) s3.soft hn3, lp5, d5, l3, g⟩
      exact (k2.trans ((Keep.of_nil k3).trans k4)).free (by simpa using (ne_of_none s4.choose_spec.choose_spec.1 n5).symm) n5
    rintro σ' H4 ⟨p4, y4, l4, rfl, np4, k4, s4, hn4, lp4, d4, ll4, g4⟩
    have pa4 : p4 ≠ a := (ne_of_none hs.choose_spec.choose_spec.1 np4).symm
    let Pv : Nat → L2.St → Hp → Prop := fun i σ' H' => ∃ ys ls x4 x5, σ' = [some (V.ref a), g1, some (.ref n), some (.ref p4), x4, x5, none, none] ∧ Keep [a] H H' ∧ Src H' a ∧ SqT K H' n (ns.map V.str) ∧ H' p4 = some (.lst ys) ∧ DtAll K H' ys (List.map lnD ls) ∧ ls.length ≤ 3 + i ∧ ∀ z ∈ ls, GoodL ns z
    refine ⟨Pv 2, ?_, ?_⟩
    · refine ⟨_, rfl, a, 3, rfl, s4, by decide, by decide, fun r H5 r0 r1 k5 s5 => ⟨r, rfl, by omega, by omega, for_range (lo := 0) Pv ⟨y4, l4, none, none, rfl, k4.trans k5, s5, seqT_keep k5 s4.soft hn4, k5 _ _ (by simpa using pa4) lp4, d4.keep k5 s4.soft, ll4, g4⟩ ?_ ?_⟩⟩
      · rintro i σ' H6 hi ⟨ys, ls, x4, x5, rfl, k6, s6, hn6, lp6, d6, ll6, g6⟩
        have hi2 : i < 2 := by omega
        refine ⟨fun σ' H' => ∃ la lxs z, σ' = [some (V.ref a), g1, some (.ref n), some (.ref p4), some (.int (0 + (i : Int))), some (.ref la), none, none] ∧ Keep [a] H6 H' ∧ Src H' a ∧ SqT K H' la lxs ∧ DtAll K H' lxs (partsD z) ∧ GoodL ns z ∧ z.keep = none, ?_, ?_⟩
        · refine ⟨_, rfl, _, rfl, a, n, ns, 2, rfl, s6, hn6, n3, by decide, by decide, fun vt H7 ts k7 s7 dt lt gt => ⟨_, rfl, _, rfl, a, n, ns, 3, rfl, s7, seqT_keep k7 s6.soft hn6, n3, by decide, by decide, fun vs H8 ss k8 s8 dss ls' gs => ⟨(by show 2 ≤ sizeLine; decide), fun q hq => ?_⟩⟩⟩
          have kq : Keep [] H8 (upd H8 q (.tup [vt, vs])) := Keep.new hq
          exact ⟨q, _, ⟨ts, ss, none⟩, rfl, k7.trans (k8.trans (Keep.of_nil kq)), s8.keep kq (by simp), SqT.of upd_same, .cons ((dt.keep k8 s7.soft).k0 kq) (.cons (dss.k0 kq) .nil), ⟨⟨lt, gt⟩, ⟨by show ss.length ≤ 4; omega, gs⟩, fun k z => by cases z⟩, rfl⟩
        rintro σ' H7 ⟨la, lxs, z, rfl, k7, s7, hla, dla, gz, kz⟩
        have len2 : lxs.length = 2 := by
          rw [dla.length, partsD, kz]
          rfl
        have hn7 := seqT_keep k7 s6.soft hn6
        refine ⟨fun σ' H' => ∃ la lxs z, σ' = [some (V.ref a), g1, some (.ref n), some (.ref p4), some (.int (0 + (i : Int))), some (.ref la), none, none] ∧ Keep [a] H6 H' ∧ Src H' a ∧ SqT K H' la lxs ∧ DtAll K H' lxs (partsD z) ∧ GoodL ns z, ?_, ?_⟩
        · refine ⟨_, rfl, a, 4, rfl, s7, by decide, by decide, fun r H8 r0 r1 k8 s8 => ⟨rfl, _, rfl, ite2 (fun _ => ?_) (fun _ => ?_)⟩⟩
          · refine ⟨_, rfl, _, rfl, _, rfl, a, n, ns, 2, rfl, s8, seqT_keep k8 s7.soft hn7, n3, by decide, by decide, fun v H9 ss k9 s9 dss lss gs => ⟨(by show 1 ≤ sizeLine; decide), fun q hq => ?_⟩⟩
            have kq : Keep [] H9 (upd H9 q (.tup [v])) := Keep.new hq
            have hla9 := seqT_keep kq Soft.nil (seqT_keep k9 s8.soft (seqT_keep k8 s7.soft hla))
            have dla9 := ((dla.keep k8 s7.soft).keep k9 s8.soft).k0 kq
            refine ⟨la, q, lxs, [v], rfl, rfl, hla9, SqT.of upd_same, ?_, fun e => ?_, (fun _ e => by cases e), fun _ _ r2 hr2 => ?_⟩
            · rw [len2]
              exact Nat.le_trans (show 2 + 1 ≤ 100 by decide) (by decide)
            · rw [e] at len2
              cases len2
            · have kr : Keep [] (upd H9 q (.tup [v])) (upd (upd H9 q (.tup [v])) r2 (.tup (lxs ++ [v]))) := Keep.new hr2
              refine ⟨r2, _, ⟨z.tests, z.steps, some ss⟩, rfl, k7.trans (k8.trans (k9.trans (Keep.of_nil (kq.trans kr)))), s9.keep (kq.trans kr) (by simp), SqT.of upd_same, ?_, ⟨gz.tests, gz.steps, fun k hk => ?_⟩⟩
              · have := (dla9.append (DtAll.cons (dss.k0 kq) .nil)).k0 kr
                rw [partsD, kz] at this
                exact this
              · cases hk
                exact ⟨by omega, gs⟩
          · exact ⟨la, lxs, z, rfl, k7.trans k8, s8, seqT_keep k8 s7.soft hla, dla.keep k8 s7.soft, gz⟩
        rintro σ' H8 ⟨la, lxs, z, rfl, k8, s8, hla, dla, gz⟩
        have lp8 := k8 _ _ (by simpa using pa4) lp6
        have ly : ys.length = ls.length := by rw [d6.length, List.length_map]
        refine ⟨_, rfl, .inl ⟨rfl, _, SqL.of lp8⟩, _, rfl, _, rfl, p4, ys, rfl, .inl (SqL.of lp8), _, 1, rfl, rfl, a, _, rfl, s8, by omega, by omega, fun r H9 r0 r1 k9 s9 => ⟨_, rfl, ?_⟩⟩
        have lp9 := k9 _ _ (by simpa using pa4) lp8
        have d9 := (d6.keep k8 s6.soft).keep k9 s8.soft
        have dz9 : Dt K H9 (.ref la) (lnD z) := .tup (seqT_keep k9 s8.soft hla) (dla.keep k9 s8.soft)
        refine ⟨p4, ys, r, _, rfl, rfl, lp9, ?_, r0, by omega, ?_⟩
        · rw [ly]
          exact Nat.lt_of_lt_of_le (show ls.length < 100 by omega) (by decide)
        · have kp : Keep [p4] H9 (upd H9 p4 (.lst (ys.take r.toNat ++ [.ref la] ++ ys.drop r.toNat))) := Keep.at_ (by simp)
          refine ⟨_, ls.take r.toNat ++ [z] ++ ls.drop r.toNat, _, _, rfl, Keep.own (k6.trans (k8.trans k9)) np4, s9.keep kp (by simpa using pa4.symm), seqT_keep kp (Soft.lst lp9) (seqT_keep k9 s8.soft (seqT_keep k8 s6.soft hn6)), upd_same, ?_, ?_, ?_⟩
          · rw [List.map_append, List.map_append, List.map_take, List.map_drop]
            exact (((d9.take _).append (.cons dz9 .nil)).append (d9.drop _)).keep kp (Soft.lst lp9)
          · simp only [List.length_append, List.length_take, List.length_drop, List.length_cons, List.length_nil]
            omega
          · intro y hy
            rcases List.mem_append.mp hy with hy | hy
            · rcases List.mem_append.mp hy with hy | hy
              · exact g6 y (List.mem_of_mem_take hy)
              · rw [List.mem_singleton.mp hy]
                exact gz
            · exact g6 y (List.mem_of_mem_drop hy)
      · rintro σ' H6 ⟨ys, ls, x4, x5, rfl, k6, s6, hn6, lp6, d6, ll6, g6⟩
        exact ⟨ys, ls, x4, x5, rfl, k6, s6, hn6, lp6, d6, by omega, g6⟩
    rintro σ' H5 ⟨ys, ls, x4, x5, rfl, k5, s5, hn5, lp5, d5, ll5, g5⟩
    have hs5 := s5.soft
    have was_at : ∀ {x : Str} {Hx : Hp}, SqT K Hx n (ns.map V.str) → Dp K Hx (.ref n) (.tuple (ns.map PyData.str)) := fun h => .tup h (dns _).dp
    let Me : Nat → L2.St → Hp → Prop := fun m σ' H' => ∃ (e : Addr) (zs : List V) (es : List Ln), σ' = [some (V.ref a), g1, some (.ref n), some (.ref p4), x4, x5, some (.ref e), none] ∧ H5 e = none ∧ Keep [a] H5 H' ∧ Src H' a ∧ H' e = some (.lst zs) ∧ DtAll K H' zs (List.map lnD es) ∧ 1 ≤ es.length ∧ es.length ≤ m ∧ ∀ z ∈ es, GoodL ns z ∧ z.tests = []
    have eta : ∀ {e : Addr}, H5 e = none → e ≠ a := fun h => (ne_of_none s5.choose_spec.choose_spec.1 h).symm
    refine ⟨Me 2, ?_, ?_⟩
    · refine ⟨Nat.zero_le _, fun q1 n1 => ⟨_, rfl, _, rfl, a, n, ns, 3, rfl, s5.keep (Keep.new (m := []) n1) (by simp), seqT_keep (Keep.new (m := []) n1) Soft.nil hn5, n3, by decide, by decide, fun v H6 ss k6 s6 dss lss gs => ⟨(by show 2 ≤ sizeLine; decide), fun q2 n2 => ?_⟩⟩⟩
      refine LtA.cons (K := K) (d := lnD end1) (by repeat' first | exact LtA.nil | refine LtA.cons ?_ ?_ | exact LtE.str | exact LtE.bl | refine LtE.tup ?_) .nil _ _ ?_
      intro ys2 H7 k7 d7
      cases d7 with
      | cons dv dn =>
        cases dn
        refine ⟨(by show 2 ≤ sizeLine; decide), fun q3 n3 => ?_⟩
        have fin : ∀ Ha Hd vv, Keep [] H5 Ha → Ha q1 = some (.tup []) → Keep [a] Ha H6 → Keep [] H6 Hd → Hd q2 = some (.tup [.ref q1, v]) → Dt K Hd vv (lnD end1) → Hd q3 = some (.lst [.ref q2, vv]) → H5 q3 = none → Me 2 [some (V.ref a), g1, some (.ref n), some (.ref p4), x4, x5, some (.ref q3), none] Hd := by
          intro Ha Hd vv ka h1 kb kd h2 h3 h4 h5
          have q1a : q1 ≠ a := eta n1
          refine ⟨q3, _, [⟨[], ss, none⟩, end1], rfl, h5, (Keep.of_nil ka).trans (kb.trans (Keep.of_nil kd)), s6.keep kd (by simp), h4, ?_, Nat.le_of_ble_eq_true rfl, Nat.le_of_ble_eq_true rfl, ?_⟩
          · refine .cons (.tup (SqT.of h2) (.cons (.tup (xs := []) (SqT.of (kd.to (kb _ _ (by simpa using q1a) h1))) .nil) (.cons (dss.k0 kd) .nil))) (.cons h3 .nil)
          · intro z hz
            rcases List.mem_cons.mp hz with rfl | hz
            · exact ⟨⟨⟨Nat.le_of_ble_eq_true rfl, fun t z => by cases z⟩, ⟨by show ss.length ≤ 4; omega, gs⟩, fun k z => by cases z⟩, rfl⟩
            · rw [List.mem_singleton.mp hz]
              exact ⟨end1_good ns, rfl⟩
        have kA : Keep [] H5 (upd H5 q1 (.tup [])) := Keep.new n1
        exact fin _ _ _ kA upd_same k6 ((Keep.new n2).trans (k7.trans (Keep.new n3))) ((k7.trans (Keep.new n3)).to upd_same) (dv.k0 (Keep.new n3)) upd_same
          (((Keep.of_nil kA).trans (k6.trans (Keep.of_nil ((Keep.new n2).trans k7)))).free (m := [a]) (by
            simpa using (ne_of_none ((((Keep.new (m := []) n2).trans k7).to s6.choose_spec.choose_spec.1)) n3).symm) n3)
    rintro σ' H6 ⟨e6, z6, es6, rfl, ne6, k6, s6, le6, de6, l16, l26, g6⟩
    have hn6 := seqT_keep k6 hs5 hn5
    refine ⟨Me 6, ?_, ?_⟩
    · refine ⟨_, rfl, .str "was", ns.map PyData.str, .str _, .tup hn6 (dns H6).dp, shaped_str (by decide +kernel), shaped_strs hok, _, rfl, ?_⟩
      rw [any_str]
      refine ite2 (fun hw => ?_) (fun _ => ⟨e6, z6, es6, rfl, ne6, k6, s6, le6, de6, l16, by omega, g6⟩)
      have hw' : ("was" : Str) ∈ ns := of_decide_eq_true hw
      refine ⟨_, rfl, ?_⟩
      refine LtA.lst (K := K) (ds := [end2].map lnD) (by repeat' first | exact LtA.nil | refine LtA.cons ?_ ?_ | exact LtE.str | exact LtE.bl | refine LtE.tup ?_) rfl ?_
      intro q2 ys2 H7 n2 k7 lq2 d7
      have lz : z6.length = es6.length := by rw [de6.length, List.length_map]
      cases d7 with
      | cons dv dn =>
        cases dn
        rename_i vv
        have e4 : (4 : Int).toNat = 4 := rfl
        refine ⟨q2, 4, [vv], rfl, rfl, lq2, by decide, by decide, (by show 1 * 4 ≤ sizeLine; exact Nat.le_trans (show 1 * 4 ≤ 100 by decide) (by decide)), fun q3 n3' => ⟨e6, q3, z6, _, rfl, rfl, (k7.trans (Keep.new n3')).to le6, upd_same, ?_, fun q4 n4 => ?_⟩⟩
        · rw [rep_len, lz]
          exact Nat.le_trans (show es6.length + (4 : Int).toNat ≤ 100 by omega) (by decide)
        · have kk := (Keep.new (m := []) (o := .lst (List.replicate (4 : Int).toNat [vv]).flatten) n3').trans (Keep.new (o := .lst (z6 ++ (List.replicate (4 : Int).toNat [vv]).flatten)) n4)
          refine ⟨q4, _, es6 ++ List.replicate 4 end2, rfl, ?_, k6.trans (Keep.of_nil (k7.trans kk)), (s6.keep k7 (by simp)).keep kk (by simp), upd_same, ?_, ?_, ?_, ?_⟩
          · exact (k6.trans (Keep.of_nil (k7.trans (Keep.new n3')))).free (by simpa using (ne_of_none ((k7.trans (Keep.new n3')).to s6.choose_spec.choose_spec.1) n4).symm) n4
          · rw [List.map_append, List.map_replicate]
            exact ((de6.k0 k7).append (rep_dt dv 4)).k0 kk
          · rw [List.length_append]
            omega
          · rw [List.length_append, List.length_replicate]
            omega
          · intro z hz
            rcases List.mem_append.mp hz with hz | hz
            · exact g6 z hz
            · rw [(List.mem_replicate.mp hz).2]
              exact ⟨end2_good hw', rfl⟩
    rintro σ' H7 ⟨e7, z7, es7, rfl, ne7, k7, s7, le7, de7, l17, l27, g7⟩
    have hn7 := seqT_keep k7 hs5 hn5
    refine ⟨Me 8, ?_, ?_⟩
    · refine ⟨_, rfl, .str "beside", ns.map PyData.str, .str _, .tup hn7 (dns H7).dp, shaped_str (by decide +kernel), shaped_strs hok, _, rfl, ?_⟩
      rw [any_str]
      refine ite2 (fun hw => ?_) (fun _ => ⟨e7, z7, es7, rfl, ne7, k7, s7, le7, de7, l17, by omega, g7⟩)
      have hw' : ("beside" : Str) ∈ ns := of_decide_eq_true hw
      refine ⟨_, rfl, ?_⟩
      refine LtA.lst (K := K) (ds := [end3, end4].map lnD) (by repeat' first | exact LtA.nil | refine LtA.cons ?_ ?_ | exact LtE.str | exact LtE.bl | refine LtE.tup ?_) rfl ?_
      intro q2 ys2 H8 n2 k8 lq2 d8
      have lz : z7.length = es7.length := by rw [de7.length, List.length_map]
      have ly : ys2.length = 2 := by rw [d8.length]; rfl
      refine ⟨e7, q2, z7, ys2, rfl, rfl, k8.to le7, lq2, ?_, fun q4 n4 => ?_⟩
      · rw [ly, lz]
        exact Nat.le_trans (show es7.length + 2 ≤ 100 by omega) (by decide)
      · have kk : Keep [] H8 (upd H8 q4 (.lst (z7 ++ ys2))) := Keep.new n4
        refine ⟨q4, _, es7 ++ [end3, end4], rfl, ?_, k7.trans (Keep.of_nil (k8.trans kk)), (s7.keep k8 (by simp)).keep kk (by simp), upd_same, ?_, ?_, ?_, ?_⟩
        · exact (k7.trans (Keep.of_nil k8)).free (by simpa using (ne_of_none (k8.to s7.choose_spec.choose_spec.1) n4).symm) n4
        · rw [List.map_append]
          exact ((de7.k0 k8).append d8).k0 kk
        · rw [List.length_append]
          omega
        · rw [List.length_append]
          show es7.length + 2 ≤ 8
          omega
        · intro z hz
          rcases List.mem_append.mp hz with hz | hz
          · exact g7 z hz
          · simp only [List.mem_cons, List.not_mem_nil, or_false] at hz
            rcases hz with rfl | rfl
            · exact ⟨end3_good hw', rfl⟩
            · exact ⟨end4_good hw', rfl⟩
    rintro σ' H8 ⟨e8, z8, es8, rfl, ne8, k8, s8, le8, de8, l18, l28, g8⟩
    have hn8 := seqT_keep k8 hs5 hn5
    have lz : z8.length = es8.length := by rw [de8.length, List.length_map]
    refine ⟨fun σ' H' => ∃ wd, σ' = [some (V.ref a), g1, some (.ref n), some (.ref p4), x4, x5, some (.ref e8), some (.str wd)] ∧ Keep [a] H8 H' ∧ Src H' a ∧ wd ∈ planWords, ?_, ?_⟩
    · refine ⟨_, rfl, ?_⟩
      refine LtA.lst (K := K) (ds := planWords.map PyData.str) (by repeat' first | exact LtA.nil | refine LtA.cons ?_ ?_ | exact LtE.str | exact LtE.bl | refine LtE.tup ?_) rfl ?_
      intro q ys2 H9 nq k9 lq d9
      have e9 := strs_of d9
      have l9 : ys2.length = 8 := by rw [e9]; rfl
      obtain ⟨x1, y1, ea, _⟩ := id s8
      refine ⟨a, q, ys2, rfl, s8.keep k9 (by simp), .inl (SqL.of lq), ?_, by omega, by omega, fun j v H10 hv kp sp => ?_⟩
      · intro z
        rw [z] at nq
        rw [ea] at nq
        cases nq
      · rw [e9, List.getElem?_map] at hv
        cases e : planWords[j]? with
        | none =>
          rw [e] at hv
          cases hv
        | some wd =>
          rw [e] at hv
          cases hv
          exact ⟨wd, rfl, (Keep.of_nil k9).trans kp, sp, List.mem_of_getElem? e⟩
    rintro σ' H9 ⟨wd, rfl, k9, s9, hwd⟩
    have e8a : e8 ≠ a := eta ne8
    have le9 := k9 _ _ (by simpa using e8a) le8
    have de9 := de8.keep k9 s8.soft
    have lp9 := (k8.trans k9) _ _ (by simpa using pa4) lp5
    have d9 := d5.keep (k8.trans k9) hs5
    refine ⟨_, rfl, _, rfl, _, rfl, _, rfl, _, rfl, a, e8, z8, rfl, s9, .inl (SqL.of le9), e8a, by omega, by omega, fun j v H10 hv kp sp => ⟨(by show 1 ≤ sizeLine; decide), fun q1 n1 => ?_⟩⟩
    have lp10 := kp _ _ (by simpa using pa4) lp9
    have d10 := d9.keep kp s9.soft
    obtain ⟨dd, hd, dv⟩ := (de9.keep kp s9.soft).get hv
    rw [List.getElem?_map] at hd
    have ly : ys.length = ls.length := by rw [d5.length, List.length_map]
    cases e : es8[j]? with
    | none =>
      rw [e] at hd
      cases hd
    | some el =>
      rw [e] at hd
      cases hd
      have gel := g8 el (List.mem_of_getElem? e)
      have kq1 : Keep [] H10 (upd H10 q1 (.lst [v])) := Keep.new n1
      have hnA := seqT_keep kq1 Soft.nil (seqT_keep kp s9.soft (seqT_keep (k8.trans k9) hs5 hn5))
      refine ⟨p4, q1, ys, [v], rfl, rfl, kq1.to lp10, upd_same, ?_, fun q2 n2 => ?_⟩
      · rw [ly]
        exact Nat.le_trans (show ls.length + 1 ≤ 100 by omega) (by decide)
      · have kq2 : Keep [] (upd H10 q1 (.lst [v])) (upd (upd H10 q1 (.lst [v])) q2 (.lst (ys ++ [v]))) := Keep.new n2
        refine ⟨wd, n, q2, ns.map V.str, ys ++ [v], ns, ls ++ [el], rfl, seqT_keep kq2 Soft.nil hnA, dns _, n3, SqL.of upd_same, ?_, ?_, ?_, fun v' H' kf df => ?_⟩
        · rw [List.map_append]
          exact ((d10.append (.cons dv .nil)).k0 kq1).k0 kq2
        · rw [List.length_append]
          show ls.length + 1 ≤ 8
          omega
        · intro z hz
          rcases List.mem_append.mp hz with hz | hz
          · exact g5 z hz
          · rw [List.mem_singleton.mp hz]
            exact gel.1
        · refine k v' H' _ _ (k5.trans (k8.trans (k9.trans (kp.trans (Keep.of_nil ((kq1.trans kq2).trans kf)))))) (sp.keep ((kq1.trans kq2).trans kf) (by simp)) df ⟨⟨ns, hns, wd, hwd, rfl⟩, ⟨?_, ?_⟩, ?_, ⟨ls.map (renL wd), renL wd el, by rw [List.map_append]; rfl, by rw [renL, gel.2]; rfl⟩⟩
          · rw [List.length_map, List.length_append]
            show 1 ≤ ls.length + 1
            omega
          · rw [List.length_map, List.length_append]
            show ls.length + 1 ≤ 6
            omega
          · intro z hz
            obtain ⟨y, hy, rfl⟩ := List.mem_map.mp hz
            rcases List.mem_append.mp hy with hy | hy
            · exact (g5 y hy).ren
            · rw [List.mem_singleton.mp hy]
              exact gel.1.ren
end
end La
set_option Elab.async false
set_option linter.all false
set_option maxRecDepth 100000
set_option maxHeartbeats 4000000
namespace La
open PySem PySem.Spec PyProof.Rows L2 SM
/-- any value over which nothing is hidden: no dict, not deep -/
structure AnyV (K : PySem.W.Frag) (H : Hp) (v : V) (d : PyData) : Prop where
  dq : Dq K H v d
  lay : Lay 60 d
theorem AnyV.keep {K : PySem.W.Frag} {H H' : Hp} {v : V} {d : PyData} (h : AnyV K H v d) (k : Keep [] H H') : AnyV K H' v d := ⟨h.dq.mono k.same, h.lay⟩
/-- of a part of a line: over its entries nothing is hidden -/
def LayP (d : PyData) : Prop := ∀ es, d = .tuple es → ∀ e ∈ es, Lay 57 e
/-- of a line -/
def LayL (d : PyData) : Prop := ∀ ps, d = .tuple ps → ∀ p ∈ ps, LayP p
theorem LayP.of {d : PyData} (h : Lay 58 d) : LayP d := fun es e => by
  subst e
  exact h.items
theorem LayL.of {d : PyData} (h : Lay 59 d) : LayL d := fun ps e p hp => by
  subst e
  exact .of (h.items p hp)
/-- some registers' names, as they stand -/
structure NamesT (K : PySem.W.Frag) (H : Hp) (r : Addr) (ns : List Str) : Prop where
  sq : SqT K H r (ns.map V.str)
  few : ns.length ≤ 3
  ok : OkN ns
theorem NamesT.keep {K : PySem.W.Frag} {m : List Addr} {H H' : Hp} {r : Addr} {ns : List Str} (h : NamesT K H r ns) (k : Keep m H H') (s : Soft m H) : NamesT K H' r ns := ⟨seqT_keep k s h.sq, h.few, h.ok⟩
theorem dpStrs {K : PySem.W.Frag} {H : Hp} (ns : List Str) : DpAll K H (ns.map V.str) (ns.map PyData.str) := (DtAll.strs ns).dp
theorem anyIn {K : PySem.W.Frag} {H : Hp} {v : V} {d : PyData} {r : Addr} {ns : List Str} (h : AnyV K H v d) (hr : SqT K H r (ns.map V.str)) (ok : OkN ns) :
    Dp K H v d ∧ Dp K H (.ref r) (.tuple (ns.map PyData.str)) ∧ SeqAt.shaped d = true ∧ SeqAt.shaped (.tuple (ns.map PyData.str)) = true := by
  refine ⟨h.dq.toDp h.lay.1, .tup hr (dpStrs ns), h.lay.shaped (by decide), (Lay.tuple (n := 0) fun d z => ?_).shaped (by decide)⟩
  obtain ⟨s, hs, rfl⟩ := List.mem_map.mp z
  exact .str (ok s hs)
theorem any_in {K : PySem.W.Frag} {H : Hp} {v : V} {d : PyData} {r : Addr} {ns : List Str} {Q : VK} (h : AnyV K H v d) (hr : SqT K H r (ns.map V.str)) (ok : OkN ns) (q : Q (.bl (memS ns d)) H) : rInA K v (.ref r) H Q := by
  refine .inr ⟨d, ns.map PyData.str, h.dq.toDp h.lay.1, .tup hr (dpStrs ns), h.lay.shaped (by decide), ?_, q⟩
  refine (Lay.tuple (n := 0) fun d z => ?_).shaped (by decide)
  obtain ⟨s, hs, rfl⟩ := List.mem_map.mp z
  exact .str (ok s hs)
def isStep (ns : List Str) : PyData → Bool
  | .tuple [t, s] => memS ("here" :: ns) t && (memS ("here" :: ns) s || memS ["new", "nothing"] s)
  | _ => false
theorem isStep_len {ns : List Str} {ds : List PyData} (h : ds.length ≠ 2) : isStep ns (.tuple ds) = false := by
  match ds, h with
  | [], _ => rfl
  | [_], _ => rfl
  | [_, _], h => exact absurd rfl h
  | _ :: _ :: _ :: _, _ => rfl
theorem lenNe {n : Nat} {m : Int} (h : ¬ ((!decide (V.int (n : Int) = V.int m)) = true)) : (n : Int) = m := by
  by_cases e : V.int (n : Int) = V.int m
  · exact V.int.inj e
  · simp [e] at h
def upTo4 : PyData → Bool
  | .tuple ds => decide (ds.length ≤ 4)
  | _ => false
def spCheckL (K : PySem.W.Frag) (ok : PyData → Prop) (f : List Str → PyData → Bool) : Sp := fun vs H Q _ => ∃ (v : V) (r : Addr) (d : PyData) (ns : List Str), vs = [v, .ref r] ∧ Dq K H v d ∧ ok d ∧ NamesT K H r ns ∧ ∀ H', Keep [] H H' → Q (.bl (f ns d)) H'
def spCheck (K : PySem.W.Frag) (f : List Str → PyData → Bool) : Sp := fun vs H Q _ => ∃ (v : V) (r : Addr) (d : PyData) (ns : List Str), vs = [v, .ref r] ∧ AnyV K H v d ∧ NamesT K H r ns ∧ ∀ H', Keep [] H H' → Q (.bl (f ns d)) H'
section
variable {P : Program} {w : World} {K : PySem.W.Frag} {mg : Str → Option Value} {base : Heap}
abbrev s_are_at_most_four : Stmt := (top 18)
abbrev N_are_at_most_four : List Str := ["value"]
abbrev P_are_at_most_four : List Str := ["value"]
theorem sc_are_at_most_four : FnScope N_are_at_most_four P_are_at_most_four (defScope s_are_at_most_four) := ⟨rfl, rfl, rfl, by decide +kernel, rfl, by decide +kernel, by decide +kernel⟩
theorem Dare_at_most_four (W : Cw fas fns K mg) : DefOk P w K mg base CX0 1 "are_at_most_four" P_are_at_most_four (fun vs H Q _ => ∃ v d, vs = [v] ∧ Dq K H v d ∧ Q (.bl (upTo4 d)) H) := by
  refine DefOk.of W 11 13 (st := s_are_at_most_four) rfl rfl sc_are_at_most_four (fun _ _ _ _ _ _ us hl => match us, hl with | [_], _ => rfl) (fun vs H Q E h => ?_) (fun cdv A outer s H vs Q E hr h => ?_)
  · obtain ⟨v, d, rfl, _⟩ := h
    rfl
  · obtain ⟨v, d, rfl, hv, k⟩ := h
    refine ⟨_, PSs.nox (pss_one (ps_ret (pe_and (pe_callB call_isi (by rfl) (W.fre 45) (by decide +kernel) (pa_cons (pv 0) (pa_cons (pe_bltn (v := .ty "tuple") (by rfl) (W.fre 54) (show bootBuiltins "tuple" = some (.type "tuple") by decide +kernel) rfl) pa_nil))) (pe_one (pe_cmpR op_le (pe_callB call_len_seq (by rfl) (W.fre 46) (by decide +kernel) (pa_cons (pv 0) pa_nil)) pe_int (nomark _)))))), ?_⟩
    refine ⟨_, rfl, _, _, _, _, _, rfl, .ty _, hv.ty, kit_tup d, _, rfl, ?_⟩
    cases hv with
    | @tup a xs ds s t =>
      refine iteT ⟨_, rfl, _, _, rfl, .inr s, _, _, rfl, rfl, ?_⟩
      have e : upTo4 (.tuple ds) = decide ((xs.length : Int) ≤ 4) := by
        rw [upTo4, ← t.length]
        exact decide_eq_decide.mpr (by omega)
      rw [e] at k
      exact k
    | non => exact iteF k
    | bl b => exact iteF k
    | int b => exact iteF k
    | str b => exact iteF k
    | lst s t => exact iteF k
    | dic s t => exact iteF k
abbrev s_is_step : Stmt := (top 21)
abbrev N_is_step : List Str := ["value", "registers", "target", "source", "targets"]
abbrev P_is_step : List Str := ["value", "registers"]
theorem sc_is_step : FnScope N_is_step P_is_step (defScope s_is_step) := ⟨rfl, rfl, rfl, by decide +kernel, rfl, by decide +kernel, by decide +kernel⟩
theorem Dis_step (W : Cw fas fns K mg) : DefOk P w K mg base CX0 1 "is_step" P_is_step (spCheck K isStep) := by
  refine DefOk.of W 14 16 (st := s_is_step) rfl rfl sc_is_step (fun _ _ _ _ _ _ us hl => match us, hl with | [_, _], _ => rfl) (fun vs H Q E h => ?_) (fun cdv A outer s H vs Q E hr h => ?_)
  · obtain ⟨v, r, d, ns, rfl, _⟩ := h
    rfl
  · obtain ⟨v, r, d, ns, rfl, hv, hn, k⟩ := h
    refine ⟨_, PSs.nox (Evl.pss_cut (ps_if (PW.pt (pw_or (pt_not (pt_val (pe_callB call_isi (by rfl) (W.fre 45) (by decide +kernel) (pa_cons (pv 0) (pa_cons (pe_bltn (v := .ty "tuple") (by rfl) (W.fre 54) (show bootBuiltins "tuple" = some (.type "tuple") by decide +kernel) rfl) pa_nil))))) (pw_or1 (pt_cmpR op_ne (pe_callB call_len_seq (by rfl) (W.fre 46) (by decide +kernel) (pa_cons (pv 0) pa_nil)) pe_int (nomark _))))) (pss_one (ps_ret pe_bl)) pss_nil) (Evl.pss_cut (ps_asg (pv 0) (pg_tup (by rfl) (pgs_cons (pg_name (i := 2) sc_is_step.nd rfl (by first | exact Or.inl rfl | exact Or.inr rfl)) (pgs_cons (pg_name (i := 3) sc_is_step.nd rfl (by first | exact Or.inl rfl | exact Or.inr rfl)) pgs_nil)))) (Evl.pss_cut (ps_set (i := 4) sc_is_step.nd rfl (by first | exact Or.inl rfl | exact Or.inr rfl) (pe_op op_catA (pe_tup (pa_cons pe_str pa_nil)) (pv 1))) (pss_one (ps_ret (pe_and (pe_cmpR (SM.op_inA (SM.units65 hr)) (pv 2) (pv 4) (by rfl)) (pe_one (pe_or (pe_cmpR (SM.op_inA (SM.units65 hr)) (pv 3) (pv 4) (by rfl)) (pe_one (pe_cmpR (SM.op_inA (SM.units65 hr)) (pv 3) (pe_tup (pa_cons pe_str (pa_cons pe_str pa_nil))) (by rfl))))))))))), ?_⟩
    refine ⟨fun σ' H' => σ' = [some v, some (.ref r), none, none, none] ∧ H' = H ∧ ∃ a x0 x1 d0 d1, v = .ref a ∧ SqT K H a [x0, x1] ∧ d = .tuple [d0, d1] ∧ AnyV K H x0 d0 ∧ AnyV K H x1 d1, ?_, ?_⟩
    · refine ⟨_, rfl, _, _, _, _, _, rfl, .ty _, hv.dq.ty, kit_tup d, _, rfl, ?_⟩
      have k0 := k H Keep.refl
      obtain ⟨hq, hl⟩ := hv
      cases hq with
      | @tup a xs ds s t =>
        refine iteF ⟨_, rfl, _, _, rfl, .inr s, rfl, _, rfl, ite2 (fun h => ?_) (fun h => ?_)⟩
        · rw [isStep_len fun z => by rw [t.length, z] at h; exact absurd h (by decide)] at k0
          exact k0
        · have l2 := lenNe h
          rw [t.length] at l2
          obtain ⟨d0, d1, rfl⟩ : ∃ d0 d1, ds = [d0, d1] := by
            match ds, l2 with
            | [d0, d1], _ => exact ⟨d0, d1, rfl⟩
          cases t with
          | cons t0 t =>
            cases t with
            | cons t1 t =>
              cases t
              exact ⟨rfl, rfl, a, _, _, d0, d1, rfl, s, rfl, ⟨t0, (hl.items d0 (by simp)).mono (by decide)⟩, ⟨t1, (hl.items d1 (by simp)).mono (by decide)⟩⟩
      | non => exact iteT k0
      | bl b => exact iteT k0
      | int b => exact iteT k0
      | str b => exact iteT k0
      | lst s t => exact iteT k0
      | dic s t => exact iteT k0
    rintro σ' H1 ⟨rfl, rfl, a, x0, x1, d0, d1, rfl, sq, rfl, h0, h1⟩
    refine ⟨fun σ' H' => σ' = [some (.ref a), some (.ref r), some x0, some x1, none] ∧ H' = H1, ⟨_, rfl, a, _, rfl, sq, rfl, x0, _, rfl, x1, _, rfl, rfl, rfl, rfl⟩, ?_⟩
    rintro σ' H2 ⟨rfl, rfl⟩
    refine ⟨fun σ' H' => ∃ tt, σ' = [some (.ref a), some (.ref r), some x0, some x1, some (.ref tt)] ∧ Keep [] H2 H' ∧ SqT K H' tt ((("here" : Str) :: ns).map V.str), ?_, ?_⟩
    · refine ⟨(by show 1 ≤ sizeLine; decide), fun q hq => ⟨_, rfl, q, r, _, _, rfl, rfl, SqT.of upd_same, seqT_keep (Keep.new (m := []) hq) Soft.nil hn.sq, ?_, (fun e => by cases e), fun _ e => ?_, fun _ _ p hp => ?_⟩⟩
      · rw [List.length_map]
        exact Nat.le_trans (Nat.add_le_add_left hn.few 1) (by decide)
      · have e' : ns = [] := List.map_eq_nil_iff.mp e
        subst e'
        exact ⟨q, rfl, Keep.new hq, SqT.of upd_same⟩
      · exact ⟨p, rfl, (Keep.new hq).trans (Keep.new hp), SqT.of upd_same⟩
    rintro σ' H3 ⟨tt, rfl, k3, ht⟩
    have okh : OkN ("here" :: ns) := fun s hs => by
      rcases List.mem_cons.mp hs with rfl | hs
      · exact ok_here
      · exact hn.ok s hs
    have okn : OkN ["new", "nothing"] := fun s hs => by
      simp only [List.mem_cons, List.not_mem_nil, or_false] at hs
      rcases hs with rfl | rfl
      · exact ok_new
      · exact ok_nothing
    have h03 := h0.keep k3
    have h13 := h1.keep k3
    have q0 := k H3 k3
    obtain ⟨p1, p2, p3, p4⟩ := anyIn h03 ht okh
    refine ⟨_, rfl, _, rfl, .inr ⟨d0, _, p1, p2, p3, p4, _, rfl, ite2 (fun e => ?_) (fun e => ?_)⟩⟩
    · obtain ⟨r1, r2, r3, r4⟩ := anyIn h13 ht okh
      refine ⟨_, rfl, _, rfl, .inr ⟨d1, _, r1, r2, r3, r4, _, rfl, ite2 (fun f => ?_) (fun f => ?_)⟩⟩
      · rw [isStep, show memS ("here" :: ns) d0 = true from e, show memS ("here" :: ns) d1 = true from f] at q0
        exact q0
      · refine ⟨_, rfl, (by show 2 ≤ sizeLine; decide), fun q hq => ?_⟩
        have kq : Keep [] H3 (upd H3 q (.tup [.str "new", .str "nothing"])) := Keep.new hq
        obtain ⟨s1, s2, s3, s4⟩ := anyIn (h13.keep kq) (SqT.of (upd_same (H := H3) (a := q) (o := .tup [.str "new", .str "nothing"]))) okn
        refine .inr ⟨d1, _, s1, s2, s3, s4, ?_⟩
        have q1 := k _ (k3.trans kq)
        rw [isStep, show memS ("here" :: ns) d0 = true from e, show memS ("here" :: ns) d1 = false from Bool.eq_false_iff.mpr f] at q1
        exact q1
    · rw [isStep, show memS ("here" :: ns) d0 = false from Bool.eq_false_iff.mpr e] at q0
      exact q0
end
end La
set_option Elab.async false
set_option linter.all false
set_option maxRecDepth 100000
set_option maxHeartbeats 4000000
namespace La
open PySem PySem.Spec PyProof.Rows L2 SM
def isTest (ns : List Str) : PyData → Bool
  | .tuple [a, b, c] => memS ("here" :: "new" :: ns) a && ((memS ("here" :: "new" :: ns) b || PyData.eqv b (.str "nothing")) && isBool c)
  | _ => false
theorem isTest_len {ns : List Str} {ds : List PyData} (h : ds.length ≠ 3) : isTest ns (.tuple ds) = false := by
  match ds, h with
  | [], _ => rfl
  | [_], _ => rfl
  | [_, _], _ => rfl
  | [_, _, _], h => exact absurd rfl h
  | _ :: _ :: _ :: _ :: _, _ => rfl
def isSteps (ns : List Str) : PyData → Bool
  | .tuple ds => decide (ds.length ≤ 4) && ds.all (isStep ns)
  | _ => false
section
variable {P : Program} {w : World} {K : PySem.W.Frag} {mg : Str → Option Value} {base : Heap}
abbrev s_is_test : Stmt := (top 19)
abbrev N_is_test : List Str := ["value", "registers", "one", "other", "same", "names"]
abbrev P_is_test : List Str := ["value", "registers"]
theorem sc_is_test : FnScope N_is_test P_is_test (defScope s_is_test) := ⟨rfl, rfl, rfl, by decide +kernel, rfl, by decide +kernel, by decide +kernel⟩
theorem Dis_test (W : Cw fas fns K mg) : DefOk P w K mg base CX0 1 "is_test" P_is_test (spCheck K isTest) := by
  refine DefOk.of W 12 14 (st := s_is_test) rfl rfl sc_is_test (fun _ _ _ _ _ _ us hl => match us, hl with | [_, _], _ => rfl) (fun vs H Q E h => ?_) (fun cdv A outer s H vs Q E hr h => ?_)
  · obtain ⟨v, r, d, ns, rfl, _⟩ := h
    rfl
  · obtain ⟨v, r, d, ns, rfl, hv, hn, k⟩ := h
    refine ⟨_, PSs.nox (Evl.pss_cut (ps_if (PW.pt (pw_or (pt_not (pt_val (pe_callB call_isi (by rfl) (W.fre 45) (by decide +kernel) (pa_cons (pv 0) (pa_cons (pe_bltn (v := .ty "tuple") (by rfl) (W.fre 54) (show bootBuiltins "tuple" = some (.type "tuple") by decide +kernel) rfl) pa_nil))))) (pw_or1 (pt_cmpR op_ne (pe_callB call_len_seq (by rfl) (W.fre 46) (by decide +kernel) (pa_cons (pv 0) pa_nil)) pe_int (nomark _))))) (pss_one (ps_ret pe_bl)) pss_nil) (Evl.pss_cut (ps_asg (pv 0) (pg_tup (by rfl) (pgs_cons (pg_name (i := 2) sc_is_test.nd rfl (by first | exact Or.inl rfl | exact Or.inr rfl)) (pgs_cons (pg_name (i := 3) sc_is_test.nd rfl (by first | exact Or.inl rfl | exact Or.inr rfl)) (pgs_cons (pg_name (i := 4) sc_is_test.nd rfl (by first | exact Or.inl rfl | exact Or.inr rfl)) pgs_nil))))) (Evl.pss_cut (ps_set (i := 5) sc_is_test.nd rfl (by first | exact Or.inl rfl | exact Or.inr rfl) (pe_op op_catA (pe_tup (pa_cons pe_str (pa_cons pe_str pa_nil))) (pv 1))) (pss_one (ps_ret (pe_and (pe_cmpR (SM.op_inA (SM.units65 hr)) (pv 2) (pv 5) (by rfl)) (pe_and (pe_or (pe_cmpR (SM.op_inA (SM.units65 hr)) (pv 3) (pv 5) (by rfl)) (pe_one (pe_cmpR (op_eqD hr.units) (pv 3) pe_str (nomark _)))) (pe_one (pe_callB call_isi (by rfl) (W.fre 45) (by decide +kernel) (pa_cons (pv 4) (pa_cons (pe_bltn (v := .ty "bool") (by rfl) (W.fre 42) (show bootBuiltins "bool" = some (.type "bool") by decide +kernel) rfl) pa_nil))))))))))), ?_⟩
    refine ⟨fun σ' H' => σ' = [some v, some (.ref r), none, none, none, none] ∧ H' = H ∧ ∃ a x0 x1 x2 d0 d1 d2, v = .ref a ∧ SqT K H a [x0, x1, x2] ∧ d = .tuple [d0, d1, d2] ∧ AnyV K H x0 d0 ∧ AnyV K H x1 d1 ∧ AnyV K H x2 d2, ?_, ?_⟩
    · refine ⟨_, rfl, _, _, _, _, _, rfl, .ty _, hv.dq.ty, kit_tup d, _, rfl, ?_⟩
      have k0 := k H Keep.refl
      obtain ⟨hq, hl⟩ := hv
      cases hq with
      | @tup a xs ds s t =>
        refine iteF ⟨_, rfl, _, _, rfl, .inr s, rfl, _, rfl, ite2 (fun h => ?_) (fun h => ?_)⟩
        · rw [isTest_len fun z => by rw [t.length, z] at h; exact absurd h (by decide)] at k0
          exact k0
        · have l2 := lenNe h
          rw [t.length] at l2
          obtain ⟨d0, d1, d2, rfl⟩ : ∃ d0 d1 d2, ds = [d0, d1, d2] := by
            match ds, l2 with
            | [d0, d1, d2], _ => exact ⟨d0, d1, d2, rfl⟩
          cases t with
          | cons t0 t =>
            cases t with
            | cons t1 t =>
              cases t with
              | cons t2 t =>
                cases t
                exact ⟨rfl, rfl, a, _, _, _, d0, d1, d2, rfl, s, rfl, ⟨t0, (hl.items d0 (by simp)).mono (by decide)⟩, ⟨t1, (hl.items d1 (by simp)).mono (by decide)⟩, ⟨t2, (hl.items d2 (by simp)).mono (by decide)⟩⟩
      | non => exact iteT k0
      | bl b => exact iteT k0
      | int b => exact iteT k0
      | str b => exact iteT k0
      | lst s t => exact iteT k0
      | dic s t => exact iteT k0
    rintro σ' H1 ⟨rfl, rfl, a, x0, x1, x2, d0, d1, d2, rfl, sq, rfl, h0, h1, h2⟩
    refine ⟨fun σ' H' => σ' = [some (.ref a), some (.ref r), some x0, some x1, some x2, none] ∧ H' = H1, ⟨_, rfl, a, _, rfl, sq, rfl, x0, _, rfl, x1, _, rfl, x2, _, rfl, rfl, rfl, rfl⟩, ?_⟩
    rintro σ' H2 ⟨rfl, rfl⟩
    refine ⟨fun σ' H' => ∃ tt, σ' = [some (.ref a), some (.ref r), some x0, some x1, some x2, some (.ref tt)] ∧ Keep [] H2 H' ∧ SqT K H' tt ((("here" : Str) :: "new" :: ns).map V.str), ?_, ?_⟩
    · refine ⟨(by show 2 ≤ sizeLine; decide), fun q hq => ⟨_, rfl, q, r, _, _, rfl, rfl, SqT.of upd_same, seqT_keep (Keep.new (m := []) hq) Soft.nil hn.sq, ?_, (fun e => by cases e), fun _ e => ?_, fun _ _ p hp => ?_⟩⟩
      · rw [List.length_map]
        exact Nat.le_trans (Nat.add_le_add_left hn.few 2) (by decide)
      · have e' : ns = [] := List.map_eq_nil_iff.mp e
        subst e'
        exact ⟨q, rfl, Keep.new hq, SqT.of upd_same⟩
      · exact ⟨p, rfl, (Keep.new hq).trans (Keep.new hp), SqT.of upd_same⟩
    rintro σ' H3 ⟨tt, rfl, k3, ht⟩
    have okh : OkN ("here" :: "new" :: ns) := fun s hs => by
      rcases List.mem_cons.mp hs with rfl | hs
      · exact ok_here
      · rcases List.mem_cons.mp hs with rfl | hs
        · exact ok_new
        · exact hn.ok s hs
    have h03 := h0.keep k3
    have h13 := h1.keep k3
    have h23 := h2.keep k3
    have q0 := k H3 k3
    obtain ⟨p1, p2, p3, p4⟩ := anyIn h03 ht okh
    obtain ⟨r1, r2, r3, r4⟩ := anyIn h13 ht okh
    have last : ∀ b, (memS ("here" :: "new" :: ns) d1 || PyData.eqv d1 (.str "nothing")) = b → memS ("here" :: "new" :: ns) d0 = true → (if b = true then Q (.bl (isBool d2)) H3 else Q (.bl false) H3) := by
      intro b hb ha
      rw [isTest, ha, hb] at q0
      cases b with
      | true => exact iteT q0
      | false => exact iteF q0
    refine ⟨_, rfl, _, rfl, .inr ⟨d0, _, p1, p2, p3, p4, _, rfl, ite2 (fun e => ?_) (fun e => ?_)⟩⟩
    · refine ⟨_, rfl, _, rfl, .inr ⟨d1, _, r1, r2, r3, r4, _, rfl, ite2 (fun f => ?_) (fun f => ?_)⟩⟩
      · refine ⟨_, rfl, iteT ⟨_, rfl, _, _, _, _, _, rfl, .ty _, h23.dq.ty, kit_bool d2, ?_⟩⟩
        have := last true (by rw [show memS ("here" :: "new" :: ns) d1 = true from f]; rfl) e
        rw [if_pos rfl] at this
        exact this
      · refine ⟨_, rfl, d1, .str "nothing", r1, .str _, r3, shaped_str (by decide +kernel), _, rfl, ite2 (fun g => ?_) (fun g => ?_)⟩
        · refine ⟨_, rfl, _, _, _, _, _, rfl, .ty _, h23.dq.ty, kit_bool d2, ?_⟩
          have := last true (by rw [show PyData.eqv d1 (.str "nothing") = true from g, Bool.or_true]) e
          rw [if_pos rfl] at this
          exact this
        · have := last false (by rw [show memS ("here" :: "new" :: ns) d1 = false from Bool.eq_false_iff.mpr f, show PyData.eqv d1 (.str "nothing") = false from Bool.eq_false_iff.mpr g]; rfl) e
          rw [if_neg Bool.false_ne_true] at this
          exact this
    · rw [isTest, show memS ("here" :: "new" :: ns) d0 = false from Bool.eq_false_iff.mpr e] at q0
      exact q0
abbrev s_are_steps : Stmt := (top 20)
abbrev N_are_steps : List Str := ["value", "registers", "step"]
abbrev P_are_steps : List Str := ["value", "registers"]
theorem sc_are_steps : FnScope N_are_steps P_are_steps (defScope s_are_steps) := ⟨rfl, rfl, rfl, by decide +kernel, rfl, by decide +kernel, by decide +kernel⟩
theorem Dare_steps (W : Cw fas fns K mg) (Dis_step : DefOk P w K mg base CX0 1 "is_step" P_is_step (spCheck K isStep)) (Dare_at_most_four : DefOk P w K mg base CX0 1 "are_at_most_four" P_are_at_most_four (fun vs H Q _ => ∃ v d, vs = [v] ∧ Dq K H v d ∧ Q (.bl (upTo4 d)) H)) : DefOk P w K mg base CX0 2 "are_steps" P_are_steps (spCheckL K LayP isSteps) := by
  refine DefOk.of W 13 15 (st := s_are_steps) rfl rfl sc_are_steps (fun _ _ _ _ _ _ us hl => match us, hl with | [_, _], _ => rfl) (fun vs H Q E h => ?_) (fun cdv A outer s H vs Q E hr h => ?_)
  · obtain ⟨v, r, d, ns, rfl, _⟩ := h
    rfl
  · obtain ⟨v, r, d, ns, rfl, hq, hl, hn, k⟩ := h
    refine ⟨_, PSs.nox (pss_one (ps_ret (pe_and (SM.pe_callD Dare_at_most_four (hr.mono (by decide)) pass0 (pa_cons (pv 0) pa_nil)) (pe_one (pe_callB (cr_all rfl) (by rfl) (W.fre 41) (by decide +kernel) (pa_cons (pe_lc (own := [("step", 2)]) (g := gName 2) (tt := tYes) (by rfl) sc_are_steps.nd (pi_tup (pv 0)) (blkOk_by (own := [("step", 2)]) (N := N_are_steps) (sc := defScope s_are_steps) (by decide +kernel)) (fun _ _ _ _ _ => pg_name (i := 2) sc_are_steps.nd rfl (Or.inl rfl)) (fun _ _ _ _ _ => pts_nil) (fun _ _ _ _ _ => (SM.pe_callD Dis_step (hr.mono (by decide)) pass0 (pa_cons (pv 2) (pa_cons (pv 1) pa_nil))))) pa_nil)))))), ?_⟩
    refine ⟨_, rfl, v, d, rfl, hq, _, rfl, ?_⟩
    have k0 := k H Keep.refl
    cases hq with
    | @tup a xs ds s t =>
      refine ite2 (fun h => ?_) (fun h => ?_)
      · have l4 : ds.length ≤ 4 := of_decide_eq_true h
        refine ⟨_, rfl, a, rfl, ⟨xs, s⟩, fun D hD => ?_⟩
        refine lcB (f := isStep ns) s t (by omega) (fun H2 k2 v d hd hv => ?_) hD fun H2 k2 e2 => ⟨D, ds.map (isStep ns), rfl, SqL.of e2, ?_⟩
        · intro H3 k3 Q' q'
          exact ⟨_, rfl, _, rfl, v, r, d, ns, rfl, ⟨hv.mono k3.same, (hl ds rfl d hd).mono (by decide)⟩, hn.keep (k2.trans k3) Soft.nil, q'⟩
        · have := k H2 k2
          rw [isSteps, decide_eq_true l4, Bool.true_and, ← all_id] at this
          exact this
      · rw [isSteps, show decide (ds.length ≤ 4) = false from Bool.eq_false_iff.mpr h] at k0
        exact k0
    | non => exact iteF k0
    | bl b => exact iteF k0
    | int b => exact iteF k0
    | str b => exact iteF k0
    | lst s t => exact iteF k0
    | dic s t => exact iteF k0
end
end La
set_option Elab.async false
set_option linter.all false
set_option maxRecDepth 100000
set_option maxHeartbeats 4000000
namespace La
open PySem PySem.Spec PyProof.Rows L2 SM
def isTests (ns : List Str) : PyData → Bool
  | .tuple ds => decide (ds.length ≤ 4) && ds.all (isTest ns)
  | _ => false
def isLine (ns : List Str) : PyData → Bool
  | .tuple (t :: rest) => (decide (rest.length = 1) || decide (rest.length = 2)) && (isTests ns t && rest.all (isSteps ns))
  | _ => false
theorem inLen (n : Int) : ([PyData.int 2, .int 3].any fun z => PyData.eqv z (.int n)) = (decide (n = 2) || decide (n = 3)) := by
  simp only [List.any_cons, List.any_nil, PyData.eqv, Bool.or_false]
  by_cases a : n = 2
  · subst a; rfl
  · by_cases b : n = 3
    · subst b; rfl
    · have a' : ¬ (2 : Int) = n := fun z => a z.symm
      have b' : ¬ (3 : Int) = n := fun z => b z.symm
      simp [a, b, a', b']
theorem cut1 (x : V) (xs : List V) : cutV (x :: xs) (some 1) none = xs := by
  have h : HT.sIx (x :: xs).length 0 (some 1) = 1 := by
    show min 1 (xs.length + 1) = 1
    omega
  rw [cutV, h, HT.sIx_none, List.drop_one, List.tail_cons, List.length_cons, Nat.add_sub_cancel, List.take_length]
theorem isLine_len {ns : List Str} {ds : List PyData} (h : ds.length ≠ 2 ∧ ds.length ≠ 3) : isLine ns (.tuple ds) = false := by
  match ds, h with
  | [], _ => rfl
  | t :: rest, h =>
    have h1 : ¬ rest.length = 1 := fun z => h.1 (by rw [List.length_cons, z])
    have h2 : ¬ rest.length = 2 := fun z => h.2 (by rw [List.length_cons, z])
    rw [isLine, decide_eq_false h1, decide_eq_false h2]
    rfl
section
variable {P : Program} {w : World} {K : PySem.W.Frag} {mg : Str → Option Value} {base : Heap}
abbrev s_is_line : Stmt := (top 17)
abbrev N_is_line : List Str := ["value", "registers", "test", "steps"]
abbrev P_is_line : List Str := ["value", "registers"]
theorem sc_is_line : FnScope N_is_line P_is_line (defScope s_is_line) := ⟨rfl, rfl, rfl, by decide +kernel, rfl, by decide +kernel, by decide +kernel⟩
theorem Dis_line (W : Cw fas fns K mg) (Dis_test : DefOk P w K mg base CX0 1 "is_test" P_is_test (spCheck K isTest)) (Dare_steps : DefOk P w K mg base CX0 2 "are_steps" P_are_steps (spCheckL K LayP isSteps)) (Dare_at_most_four : DefOk P w K mg base CX0 1 "are_at_most_four" P_are_at_most_four (fun vs H Q _ => ∃ v d, vs = [v] ∧ Dq K H v d ∧ Q (.bl (upTo4 d)) H)) : DefOk P w K mg base CX0 3 "is_line" P_is_line (spCheckL K LayL isLine) := by
  refine DefOk.of W 10 12 (st := s_is_line) rfl rfl sc_is_line (fun _ _ _ _ _ _ us hl => match us, hl with | [_, _], _ => rfl) (fun vs H Q E h => ?_) (fun cdv A outer s H vs Q E hr h => ?_)
  · obtain ⟨v, r, d, ns, rfl, _⟩ := h
    rfl
  · obtain ⟨v, r, d, ns, rfl, hq, hl, hn, k⟩ := h
    refine ⟨_, PSs.nox (Evl.pss_cut (ps_if (PW.pt (pw_or (pt_not (pt_val (pe_callB call_isi (by rfl) (W.fre 45) (by decide +kernel) (pa_cons (pv 0) (pa_cons (pe_bltn (v := .ty "tuple") (by rfl) (W.fre 54) (show bootBuiltins "tuple" = some (.type "tuple") by decide +kernel) rfl) pa_nil))))) (pw_or1 (pt_cmpR (SM.op_notInA (SM.units65 hr)) (pe_callB call_len_seq (by rfl) (W.fre 46) (by decide +kernel) (pa_cons (pv 0) pa_nil)) (pe_tup (pa_cons pe_int (pa_cons pe_int pa_nil))) (by rfl))))) (pss_one (ps_ret pe_bl)) pss_nil) (Evl.pss_cut (ps_if (PW.pt (pw_or (pt_not (pt_val (SM.pe_callD Dare_at_most_four (hr.mono (by decide)) pass0 (pa_cons (pe_ix ix_seq (pv 0) pe_int (fun _ _ => rfl)) pa_nil)))) (pw_or1 (pt_not (pt_val (pe_callB (cr_all rfl) (by rfl) (W.fre 41) (by decide +kernel) (pa_cons (pe_lc (own := [("test", 2)]) (g := gName 2) (tt := tYes) (by rfl) sc_is_line.nd (pi_tup (pe_ix ix_seq (pv 0) pe_int (fun _ _ => rfl))) (blkOk_by (own := [("test", 2)]) (N := N_is_line) (sc := defScope s_is_line) (by decide +kernel)) (fun _ _ _ _ _ => pg_name (i := 2) sc_is_line.nd rfl (Or.inl rfl)) (fun _ _ _ _ _ => pts_nil) (fun _ _ _ _ _ => (SM.pe_callD Dis_test (hr.mono (by decide)) pass0 (pa_cons (pv 2) (pa_cons (pv 1) pa_nil))))) pa_nil))))))) (pss_one (ps_ret pe_bl)) pss_nil) (pss_one (ps_ret (pe_callB (cr_all rfl) (by rfl) (W.fre 41) (by decide +kernel) (pa_cons (pe_lc (own := [("steps", 3)]) (g := gName 3) (tt := tYes) (by rfl) sc_is_line.nd (pi_tup (pe_slice sl_tup (pv 0) (po_some pe_int) po_none)) (blkOk_by (own := [("steps", 3)]) (N := N_is_line) (sc := defScope s_is_line) (by decide +kernel)) (fun _ _ _ _ _ => pg_name (i := 3) sc_is_line.nd rfl (Or.inl rfl)) (fun _ _ _ _ _ => pts_nil) (fun _ _ _ _ _ => (SM.pe_callD Dare_steps (hr.mono (by decide)) pass0 (pa_cons (pv 3) (pa_cons (pv 1) pa_nil))))) pa_nil)))))), ?_⟩
    refine ⟨fun σ' H' => σ' = [some v, some (.ref r), none, none] ∧ Keep [] H H' ∧ ∃ a x0 xr d0 dr, v = .ref a ∧ d = .tuple (d0 :: dr) ∧ SqT K H' a (x0 :: xr) ∧ Dq K H' x0 d0 ∧ DqAll K H' xr dr ∧ (decide (dr.length = 1) || decide (dr.length = 2)) = true, ?_, ?_⟩
    · refine ⟨_, rfl, _, _, _, _, _, rfl, .ty _, hq.ty, kit_tup d, _, rfl, ?_⟩
      have k0 := k H Keep.refl
      cases hq with
      | @tup a xs ds s t =>
        refine iteF ⟨_, rfl, _, _, rfl, .inr s, (by show 2 ≤ sizeLine; decide), fun q hq => .inr ⟨.int xs.length, [.int 2, .int 3], .int _, .tup (SqT.of upd_same) (.cons (.int 2) (.cons (.int 3) .nil)), (Lay.int (n := 0) _).shaped (by decide), ?_, _, rfl, ?_⟩⟩
        · refine (Lay.tuple (n := 0) fun d z => ?_).shaped (by decide)
          simp only [List.mem_cons, List.not_mem_nil, or_false] at z
          rcases z with rfl | rfl
          · exact .int 2
          · exact .int 3
        rw [inLen]
        refine ite2 (fun h => ?_) (fun h => ?_)
        · rw [isLine_len ?_] at k
          · exact k _ (Keep.new hq)
          · rw [t.length] at h
            refine ⟨fun z => ?_, fun z => ?_⟩ <;> (rw [z] at h; exact absurd h (by decide))
        · have h' : (decide ((xs.length : Int) = 2) || decide ((xs.length : Int) = 3)) = true := by
            cases e : (decide ((xs.length : Int) = 2) || decide ((xs.length : Int) = 3))
            · rw [e] at h
              exact absurd rfl h
            · rfl
          rw [t.length, Bool.or_eq_true, decide_eq_true_eq, decide_eq_true_eq] at h'
          cases t with
          | nil => rcases h' with z | z <;> (simp at z)
          | @cons x0 xr d0 dr t0 tr =>
            have kq : Keep [] H (upd H q (.tup [.int 2, .int 3])) := Keep.new hq
            refine ⟨rfl, kq, a, x0, xr, d0, dr, rfl, rfl, seqT_keep kq Soft.nil s, t0.mono kq.same, tr.mono kq.same, ?_⟩
            rw [List.length_cons] at h'
            rw [Bool.or_eq_true, decide_eq_true_eq, decide_eq_true_eq]
            omega
      | non => exact iteT k0
      | bl b => exact iteT k0
      | int b => exact iteT k0
      | str b => exact iteT k0
      | lst s t => exact iteT k0
      | dic s t => exact iteT k0
    rintro σ' H1 ⟨rfl, k1, a, x0, xr, d0, dr, rfl, rfl, sq, h0, hr', hlen⟩
    have hl0 : LayP d0 := hl _ rfl d0 (by simp)
    refine ⟨fun σ' H' => σ' = [some (.ref a), some (.ref r), none, none] ∧ Keep [] H1 H' ∧ isTests ns d0 = true, ?_, ?_⟩
    · refine ⟨_, rfl, .inr (.inl ⟨a, _, 0, x0, rfl, rfl, sq, at0 .., x0, d0, rfl, h0, _, rfl, ?_⟩)⟩
      have k0 := k H1 k1
      rw [isLine, hlen, Bool.true_and] at k0 k
      cases h0 with
      | @tup b xs ds s t =>
        have eU : upTo4 (.tuple ds) = decide (ds.length ≤ 4) := rfl
        rw [eU]
        by_cases l4 : ds.length ≤ 4
        · rw [decide_eq_true l4]
          refine iteF ⟨_, rfl, .inr (.inl ⟨a, _, 0, _, rfl, rfl, sq, at0 .., b, rfl, ⟨xs, s⟩, fun D hD => ?_⟩)⟩
          refine lcB (f := isTest ns) s t (by omega) (fun H2 k2 v d hd hv => ?_) hD fun H2 k2 e2 => ⟨D, ds.map (isTest ns), rfl, SqL.of e2, _, rfl, ?_⟩
          · intro H3 k3 Q' q'
            exact ⟨_, rfl, _, rfl, v, r, d, ns, rfl, ⟨hv.mono k3.same, (hl0 ds rfl d hd).mono (by decide)⟩, hn.keep (k1.trans (k2.trans k3)) Soft.nil, q'⟩
          · have e : isTests ns (.tuple ds) = ds.all (isTest ns) := by rw [isTests, decide_eq_true l4, Bool.true_and]
            have e' : (ds.map (isTest ns)).all id = ds.all (isTest ns) := all_id ds (isTest ns)
            rw [e']
            have kk := k H2 (k1.trans k2)
            rw [e] at kk
            cases c : ds.all (isTest ns) with
            | true => exact iteF ⟨rfl, k2, by rw [e]; exact c⟩
            | false =>
              rw [c] at kk
              exact iteT kk
        · rw [decide_eq_false l4]
          rw [isTests, decide_eq_false l4] at k0
          exact iteT (iteT k0)
      | non => exact iteT (iteT k0)
      | bl b => exact iteT (iteT k0)
      | int b => exact iteT (iteT k0)
      | str b => exact iteT (iteT k0)
      | lst s t => exact iteT (iteT k0)
      | dic s t => exact iteT (iteT k0)
    rintro σ' H2 ⟨rfl, k2, ht⟩
    have sq2 := seqT_keep k2 Soft.nil sq
    rw [isLine, hlen, ht, Bool.true_and, Bool.true_and] at k
    refine ⟨_, rfl, 1, rfl, a, x0 :: xr, rfl, sq2, ?_, fun p hp => ?_⟩
    · intro z
      have : HT.sIx (x0 :: xr).length 0 (some 1) = 0 := z.1
      rw [show HT.sIx (x0 :: xr).length 0 (some 1) = min 1 (xr.length + 1) from rfl] at this
      omega
    rw [cut1]
    have kp : Keep [] H2 (upd H2 p (.tup xr)) := Keep.new hp
    refine ⟨p, rfl, ⟨xr, SqT.of upd_same⟩, fun D hD => ?_⟩
    have l2 : dr.length ≤ 2 := by
      rw [Bool.or_eq_true, decide_eq_true_eq, decide_eq_true_eq] at hlen
      omega
    refine lcB (f := isSteps ns) (SqT.of upd_same) ((hr'.mono k2.same).mono kp.same) (by omega) (fun H3 k3 v d hd hv => ?_) hD fun H3 k3 e3 => ⟨D, dr.map (isSteps ns), rfl, SqL.of e3, ?_⟩
    · intro H4 k4 Q' q'
      exact ⟨_, rfl, _, rfl, v, r, d, ns, rfl, hv.mono k4.same, hl _ rfl d (List.mem_cons_of_mem _ hd), hn.keep (k1.trans (k2.trans (kp.trans (k3.trans k4)))) Soft.nil, q'⟩
    · have e' : (dr.map (isSteps ns)).all id = dr.all (isSteps ns) := all_id dr (isSteps ns)
      rw [e']
      exact k H3 (k1.trans (k2.trans (kp.trans k3)))
end
end La
set_option Elab.async false
set_option linter.all false
set_option maxRecDepth 100000
set_option maxHeartbeats 4000000
namespace La
open PySem PySem.Spec PyProof.Rows L2 SM
def notNil : PyData → Bool
  | .tuple (t :: _) => !PyData.eqv t (.tuple [])
  | _ => false
/-- whether what stands at i among ds cannot stand there -/
def badAt (ns : List Str) (ds : List PyData) (i : Nat) : Bool := match ds[i]? with
  | some d => !isLine ns d || (decide (i + 1 = ds.length) && notNil d)
  | none => false
def firstBad (ns : List Str) (ds : List PyData) : Option Nat := (List.range ds.length).find? (badAt ns ds)
def spRefuse (K : PySem.W.Frag) : Sp := fun vs H Q E => ∃ (l r : Addr) (xs : List V) (ds : List PyData) (ns : List Str), vs = [.ref l, .ref r] ∧ (SqL K H l xs ∨ SqT K H l xs) ∧ DqAll K H xs ds ∧ (∀ d ∈ ds, LayL d) ∧ ds.length ≤ 100 ∧ NamesT K H r ns ∧
  (firstBad ns ds = none → ∀ H', Keep [] H H' → Q .non H') ∧ ∀ i, firstBad ns ds = some i → ∀ d H', Keep [] H H' → H d = none → H' d = some (.xd [("position", .int i)]) → E (.ref (He.ga K "BadLine")) (some d) H'
theorem find_none_to {p : Nat → Bool} : ∀ n, (∀ j, j < n → p j = false) → (List.range n).find? p = none := by
  intro n h
  rw [List.find?_eq_none]
  intro x hx
  rw [h x (List.mem_range.mp hx)]
  exact Bool.false_ne_true
theorem find_at {p : Nat → Bool} {n i : Nat} (hi : i < n) (h : ∀ j, j < i → p j = false) (hp : p i = true) : (List.range n).find? p = some i := by
  rw [show List.range n = List.range' 0 n from List.range_eq_range'] at *
  have : ∀ (m s : Nat), s ≤ i → i < s + m → (List.range' s m).find? p = some i := by
    intro m
    induction m with
    | zero => intro s h1 h2; omega
    | succ m ih =>
      intro s h1 h2
      rw [List.range'_succ, List.find?_cons]
      by_cases e : s = i
      · rw [e, hp]
      · rw [h s (by omega)]
        exact ih (s + 1) (by omega) (by omega)
  exact this n 0 (Nat.zero_le _) (by omega)
theorem firstBad_none {ns : List Str} {ds : List PyData} (h : ∀ j, j < ds.length → badAt ns ds j = false) : firstBad ns ds = none := find_none_to _ h
theorem firstBad_at {ns : List Str} {ds : List PyData} {i : Nat} (hi : i < ds.length) (h : ∀ j, j < i → badAt ns ds j = false) (hp : badAt ns ds i = true) : firstBad ns ds = some i := find_at hi h hp
theorem isLine_head {ns : List Str} {d : PyData} (h : isLine ns d = true) : ∃ es rest, d = .tuple (.tuple es :: rest) := by
  match d, h with
  | .tuple (t :: rest), h =>
    rw [isLine, Bool.and_eq_true, Bool.and_eq_true] at h
    have ht := h.2.1
    match t, ht with
    | .tuple es, _ => exact ⟨es, rest, rfl⟩
section
variable {P : Program} {w : World} {K : PySem.W.Frag} {mg : Str → Option Value} {base : Heap}
abbrev s_refuse_bad_lines : Stmt := (top 16)
abbrev N_refuse_bad_lines : List Str := ["lines", "registers", "last", "position", "line"]
abbrev P_refuse_bad_lines : List Str := ["lines", "registers"]
theorem sc_refuse_bad_lines : FnScope N_refuse_bad_lines P_refuse_bad_lines (defScope s_refuse_bad_lines) := ⟨rfl, rfl, rfl, by decide +kernel, rfl, by decide +kernel, by decide +kernel⟩
theorem Drefuse_bad_lines (W : Cw fas fns K mg) (R_BadLine : RaiseOk P w K mg base "BadLine" "position") (Dis_line : DefOk P w K mg base CX0 3 "is_line" P_is_line (spCheckL K LayL isLine)) : DefOk P w K mg base (CX P w) 4 "refuse_bad_lines" P_refuse_bad_lines (spRefuse K) := by
  refine DefOk.of W 9 11 (st := s_refuse_bad_lines) rfl rfl sc_refuse_bad_lines (fun _ _ _ _ _ _ us hl => match us, hl with | [_, _], _ => rfl) (fun vs H Q E h => ?_) (fun cdv A outer s H vs Q E hr h => ?_)
  · obtain ⟨l, r, xs, ds, ns, rfl, _⟩ := h
    rfl
  · obtain ⟨l, r, xs, ds, ns, rfl, hl, hd, lay, l100, hn, k, kE⟩ := h
    refine ⟨_, (Evl.pss_cut (ps_set (i := 2) sc_refuse_bad_lines.nd rfl (by first | exact Or.inl rfl | exact Or.inr rfl) (pe_op op_sub (pe_callB call_len_seq (by rfl) (W.fre 46) (by decide +kernel) (pa_cons (pv 0) pa_nil)) pe_int)) (pss_one (ps_for (passes_of rfl) rfl (SM.pi_enumA (by rfl) (W.fre 43) (pa_cons (pv 0) pa_nil)) (pg_tup (by rfl) (pgs_cons (pg_name (i := 3) sc_refuse_bad_lines.nd rfl (by first | exact Or.inl rfl | exact Or.inr rfl)) (pgs_cons (pg_name (i := 4) sc_refuse_bad_lines.nd rfl (by first | exact Or.inl rfl | exact Or.inr rfl)) pgs_nil))) (pss_one (ps_if (PW.pt (pw_or (pt_not (pt_val (SM.pe_callD Dis_line (hr.mono (by decide)) pass0 (pa_cons (pv 4) (pa_cons (pv 1) pa_nil))))) (pw_or1 (PW.pt (pw_and (pt_cmpR op_eq (pv 3) (pv 2) (nomark _)) (pw_and1 (pt_cmpR (op_neD hr.units) (pe_ix ix_seq (pv 4) pe_int (fun _ _ => rfl)) (pe_tup pa_nil) (nomark _)))))))) (pss_one (SM.ps_raiseErr R_BadLine rfl (hr.mono (by decide)) (takes_of rfl rfl rfl rfl) (pv 3))) pss_nil))))), ?_⟩
    have lenx := hd.length
    refine ⟨fun σ' H' => σ' = [some (.ref l), some (.ref r), some (.int ((xs.length : Int) - 1)), none, none] ∧ H' = H, ⟨_, rfl, l, xs, rfl, hl, _, 1, rfl, rfl, rfl, rfl⟩, ?_⟩
    rintro σ' H0 ⟨rfl, rfl⟩
    refine ⟨_, rfl, l, xs, rfl, for_enumA (fun i σ' H' => ∃ x3 x4, σ' = [some (.ref l), some (.ref r), some (.int ((xs.length : Int) - 1)), x3, x4] ∧ Keep [] H0 H' ∧ ∀ j, j < i → badAt ns ds j = false) hl ⟨none, none, rfl, Keep.refl, fun j z => absurd z (Nat.not_lt_zero _)⟩ (fun i σ' H' ⟨_, _, _, k, _⟩ => k) ?_ ?_⟩
    · rintro i x T σ' H1 hx ⟨x3, x4, rfl, k1, good⟩ hT
      obtain ⟨d, hdi, hv⟩ := hd.get hx
      have hi : i < ds.length := by
        rcases Nat.lt_or_ge i ds.length with h | h
        · exact h
        · rw [List.getElem?_eq_none h] at hdi
          cases hdi
      have kT : Keep [] H1 (upd H1 T (.tup [.int (i : Int), x])) := Keep.new hT
      have hv2 := (hv.mono k1.same).mono kT.same
      have ld := lay d (List.mem_of_getElem? hdi)
      have out : badAt ns ds i = true → ∀ H', Keep [] H0 H' → ∀ dd, H' dd = none → E (.ref (He.ga K "BadLine")) (some dd) (upd H' dd (.xd [("position", .int (i : Int))])) := by
        intro hb H' kk dd hdd
        exact kE i (firstBad_at hi good hb) dd _ (kk.trans (Keep.new hdd)) (kk.free (by simp) hdd) upd_same
      refine ⟨T, _, rfl, SqT.of upd_same, rfl, _, _, rfl, x, _, rfl, rfl, ?_⟩
      refine ⟨_, rfl, _, rfl, x, r, d, ns, rfl, hv2, ld, hn.keep (k1.trans kT) Soft.nil, fun H2 k2 => ⟨_, rfl, ?_⟩⟩
      have kk := k1.trans (kT.trans k2)
      cases il : isLine ns d with
      | false =>
        refine iteT ⟨_, rfl, ?_⟩
        refine raise_out (W := E) R_BadLine.err R_BadLine.no fun dd hdd => out ?_ H2 kk dd hdd
        rw [badAt, hdi]
        show (!isLine ns d || _) = true
        rw [il]
        rfl
      | true =>
        obtain ⟨es, rest, rfl⟩ := isLine_head il
        have bad : badAt ns ds i = (decide (i + 1 = ds.length) && !PyData.eqv (.tuple es) (.tuple [])) := by
          rw [badAt, hdi]
          show (!isLine ns _ || _) = _
          rw [il]
          rfl
        refine iteF ⟨_, rfl, _, rfl, rfl, _, rfl, ite2 (fun e => ?_) (fun e => ?_)⟩
        · have ei : i + 1 = ds.length := by
            have := V.int.inj (of_decide_eq_true e)
            omega
          have hv3 := hv2.mono k2.same
          cases hv3 with
          | @tup ta txs tds ts tt =>
            cases tt with
            | @cons t0 tr td0 tdr th tl =>
              have lt : Lay 58 (.tuple es) := Lay.tuple (ld _ rfl _ (by simp) es rfl)
              refine ⟨_, rfl, .inr (.inl ⟨ta, _, 0, t0, rfl, rfl, ts, at0 .., Nat.zero_le _, fun q hq => ?_⟩)⟩
              have kq : Keep [] H2 (upd H2 q (.tup [])) := Keep.new hq
              refine ⟨.tuple es, .tuple [], (th.mono kq.same).toDp lt.1, .tup (SqT.of upd_same) .nil, lt.shaped (by decide), (Lay.tuple (n := 0) (ds := []) (fun z h => by cases h)).shaped (by decide), _, rfl, ite2 (fun f => ?_) (fun f => ?_)⟩
              · refine ⟨_, rfl, ?_⟩
                refine raise_out (W := E) R_BadLine.err R_BadLine.no fun dd hdd => out ?_ _ (kk.trans kq) dd hdd
                rw [bad, decide_eq_true ei, f]
                rfl
              · refine ⟨_, _, rfl, kk.trans kq, fun j hj => ?_⟩
                rcases Nat.lt_or_ge j i with h | h
                · exact good j h
                · rw [show j = i by omega, bad, Bool.eq_false_iff.mpr f, Bool.and_false]
        · refine ⟨_, _, rfl, kk, fun j hj => ?_⟩
          rcases Nat.lt_or_ge j i with h | h
          · exact good j h
          · have ne : ¬ (i + 1 = ds.length) := fun z => e (decide_eq_true (congrArg V.int (by omega)))
            rw [show j = i by omega, bad, decide_eq_false ne, Bool.false_and]
    · rintro σ' H1 ⟨x3, x4, rfl, k1, good⟩
      exact k (firstBad_none (fun j hj => good j (by omega))) H1 k1
end
end La
set_option Elab.async false
set_option linter.all false
set_option maxRecDepth 100000
set_option maxHeartbeats 4000000
namespace La
open PySem PySem.Spec PyProof.Rows L2 SM
def isWord : PyData → Bool
  | .str x => (decide (1 ≤ x.length) && decide (x.length ≤ 8)) && x.cps.toList.all fun c => decide (97 ≤ c) && decide (c ≤ 122)
  | _ => false
theorem sg_a : (Str.ofString "a").cps.toList = [97] := by decide +kernel
theorem sg_z : (Str.ofString "z").cps.toList = [122] := by decide +kernel
theorem lt_one (a b : Nat) : decide ([a] < [b]) = decide (a < b) := by
  apply decide_eq_decide.mpr
  rw [List.cons_lt_cons_iff]
  simp
theorem all_idN (bs : List Nat) (f : Nat → Bool) : (bs.map f).all id = bs.all f := by
  induction bs with
  | nil => rfl
  | cons b bs ih => rw [List.map_cons, List.all_cons, List.all_cons, ih]; rfl
section
variable {P : Program} {w : World} {K : PySem.W.Frag} {mg : Str → Option Value} {base : Heap}
abbrev s_is_word : Stmt := (top 14)
abbrev N_is_word : List Str := ["value", "letter"]
abbrev P_is_word : List Str := ["value"]
theorem sc_is_word : FnScope N_is_word P_is_word (defScope s_is_word) := ⟨rfl, rfl, rfl, by decide +kernel, rfl, by decide +kernel, by decide +kernel⟩
theorem Dis_word (W : Cw fas fns K mg) : DefOk P w K mg base CX0 1 "is_word" P_is_word (fun vs H Q _ => ∃ v d, vs = [v] ∧ Dq K H v d ∧ (∀ x, d = .str x → x.length ≤ 1000) ∧ ∀ H', Keep [] H H' → Q (.bl (isWord d)) H') := by
  refine DefOk.of W 7 9 (st := s_is_word) rfl rfl sc_is_word (fun _ _ _ _ _ _ us hl => match us, hl with | [_], _ => rfl) (fun vs H Q E h => ?_) (fun cdv A outer s H vs Q E hr h => ?_)
  · obtain ⟨v, d, rfl, _⟩ := h
    rfl
  · obtain ⟨v, d, rfl, hv, short, k⟩ := h
    refine ⟨_, PSs.nox (Evl.pss_cut (ps_if (PW.pt (pw_or (pt_not (pt_val (pe_callB call_isi (by rfl) (W.fre 45) (by decide +kernel) (pa_cons (pv 0) (pa_cons (pe_bltn (v := .ty "str") (by rfl) (W.fre 53) (show bootBuiltins "str" = some (.type "str") by decide +kernel) rfl) pa_nil))))) (pw_or1 (pt_not (pt_chain op_le op_le pe_int (pe_callB call_len_str (by rfl) (W.fre 46) (by decide +kernel) (pa_cons (pv 0) pa_nil)) pe_int))))) (pss_one (ps_ret pe_bl)) pss_nil) (pss_one (ps_ret (pe_callB (cr_all rfl) (by rfl) (W.fre 41) (by decide +kernel) (pa_cons (pe_lc (own := [("letter", 1)]) (g := gName 1) (tt := tYes) (by rfl) sc_is_word.nd (pi_str (pv 0)) (blkOk_by (own := [("letter", 1)]) (N := N_is_word) (sc := defScope s_is_word) (by decide +kernel)) (fun _ _ _ _ _ => pg_name (i := 1) sc_is_word.nd rfl (Or.inl rfl)) (fun _ _ _ _ _ => pts_nil) (fun _ _ _ _ _ => (pe_chain op_le_str op_le_str pe_str (pv 1) pe_str))) pa_nil))))), ?_⟩
    refine ⟨fun σ' H' => σ' = [some v, none] ∧ H' = H ∧ ∃ x, v = .str x ∧ d = .str x ∧ (decide (1 ≤ x.length) && decide (x.length ≤ 8)) = true, ?_, ?_⟩
    · refine ⟨_, rfl, _, _, _, _, _, rfl, .ty _, hv.ty, kit_str d, _, rfl, ?_⟩
      have k0 := k H Keep.refl
      cases hv with
      | str x =>
        refine iteF ⟨_, rfl, x, rfl, Nat.le_trans (short x rfl) (by decide), _, _, rfl, rfl, _, rfl, ite2 (fun e => ?_) (fun e => ?_)⟩
        · refine ⟨_, _, rfl, rfl, _, rfl, ite2 (fun f => ?_) (fun f => ?_)⟩
          · rw [isWord, decide_eq_false (show ¬ x.length ≤ 8 by intro z; simp at f; omega), Bool.and_false, Bool.false_and] at k0
            exact k0
          · refine ⟨rfl, rfl, x, rfl, rfl, ?_⟩
            simp at e f ⊢
            exact ⟨by omega, by omega⟩
        · refine ⟨_, rfl, iteT ?_⟩
          rw [isWord, decide_eq_false (show ¬ 1 ≤ x.length by intro z; simp at e; omega), Bool.false_and, Bool.false_and] at k0
          exact k0
      | non => exact iteT k0
      | bl b => exact iteT k0
      | int b => exact iteT k0
      | tup s t => exact iteT k0
      | lst s t => exact iteT k0
      | dic s t => exact iteT k0
    rintro σ' H1 ⟨rfl, rfl, x, rfl, rfl, hx⟩
    have xs : x.cps.size ≤ 1000 := short x rfl
    refine ⟨_, rfl, x, rfl, fun D hD => ?_⟩
    refine lcBstr (f := fun c => decide (97 ≤ c) && decide (c ≤ 122)) xs (fun H2 k2 c => ?_) hD fun H2 k2 e2 => ⟨D, _, rfl, SqL.of e2, ?_⟩
    · intro H3 k3 Q' q'
      refine ⟨_, rfl, _, _, rfl, rfl, _, rfl, ?_⟩
      have q0 := q' H3 Keep.refl
      rw [sg_a]
      show (if (!decide ([c] < [97])) = true then _ else _)
      rw [lt_one]
      refine ite2 (fun e => ?_) (fun e => ?_)
      · refine ⟨_, _, rfl, rfl, ?_⟩
        rw [sg_z]
        show Q' (.bl (!decide ([122] < [c]))) H3
        rw [lt_one]
        have e1 : 97 ≤ c := by simp at e; exact e
        rw [decide_eq_true e1, Bool.true_and] at q0
        have e2 : (!decide (122 < c)) = decide (c ≤ 122) := by
          by_cases h : 122 < c
          · rw [decide_eq_true h, decide_eq_false (by omega)]; rfl
          · rw [decide_eq_false h, decide_eq_true (by omega)]; rfl
        rw [e2]
        exact q0
      · have e1 : ¬ 97 ≤ c := by
          intro z
          have : decide (c < 97) = false := decide_eq_false (by omega)
          rw [this] at e
          exact e rfl
        rw [decide_eq_false e1, Bool.false_and] at q0
        exact q0
    · rw [all_idN]
      have := k H2 k2
      rw [isWord, hx, Bool.true_and] at this
      exact this
end
end La
set_option Elab.async false
set_option linter.all false
set_option maxRecDepth 100000
set_option maxHeartbeats 4000000
namespace La
open PySem PySem.Spec PyProof.Rows L2 SM
def isName (d : PyData) : Bool := isWord d && !memS words01 d
def strsOf : List PyData → List Str
  | .str x :: ds => x :: strsOf ds
  | _ :: ds => strsOf ds
  | [] => []
def isRegs : PyData → Bool
  | .list ds => decide (ds.length ≤ 3) && (ds.all isName && decide ((dedS (strsOf ds)).length = ds.length))
  | .tuple ds => decide (ds.length ≤ 3) && (ds.all isName && decide ((dedS (strsOf ds)).length = ds.length))
  | _ => false
def regsD (ds : List PyData) : Bool := decide (ds.length ≤ 3) && (ds.all isName && decide ((dedS (strsOf ds)).length = ds.length))
theorem isName_str {d : PyData} (h : isName d = true) : ∃ x, d = .str x := by
  rw [isName, Bool.and_eq_true] at h
  match d, h.1 with
  | .str x, _ => exact ⟨x, rfl⟩
theorem names_strs : ∀ {ds : List PyData}, ds.all isName = true → ds = (strsOf ds).map PyData.str
  | [], _ => rfl
  | d :: ds, h => by
    rw [List.all_cons, Bool.and_eq_true] at h
    obtain ⟨x, rfl⟩ := isName_str h.1
    rw [strsOf, List.map_cons, ← names_strs h.2]
theorem words01_ok : OkN words01 := by
  have h : words01.all (fun s => PyData.strOk s) = true := by decide +kernel
  exact fun s hs => List.all_eq_true.mp h s hs
theorem word_ok {x : Str} (h : isWord (.str x) = true) : PyData.strOk x = true := by
  rw [isWord, Bool.and_eq_true] at h
  rw [PyData.strOk, Array.all_eq_true']
  intro c hc
  have := List.all_eq_true.mp h.2 c (by simpa using hc)
  simp only [Bool.and_eq_true, decide_eq_true_eq] at this ⊢
  omega
theorem dqStrs {K : PySem.W.Frag} {H : Hp} : ∀ {ns : List Str} {us : List V}, DqAll K H us (ns.map PyData.str) → us = ns.map V.str
  | [], _, .nil => rfl
  | n :: ns, _, .cons h t => by
    rw [dqStrs t]
    cases h
    rfl
def spWord (K : PySem.W.Frag) : Sp := fun vs H Q _ => ∃ v d, vs = [v] ∧ Dq K H v d ∧ (∀ x, d = .str x → x.length ≤ 1000) ∧ ∀ H', Keep [] H H' → Q (.bl (isWord d)) H'
def itemsOf : PyData → List PyData
  | .list ds => ds
  | .tuple ds => ds
  | _ => []
section
variable {P : Program} {w : World} {K : PySem.W.Frag} {mg : Str → Option Value} {base : Heap}
abbrev s_are_registers : Stmt := (top 15)
abbrev N_are_registers : List Str := ["value", "name"]
abbrev P_are_registers : List Str := ["value"]
theorem sc_are_registers : FnScope N_are_registers P_are_registers (defScope s_are_registers) := ⟨rfl, rfl, rfl, by decide +kernel, rfl, by decide +kernel, by decide +kernel⟩
theorem Dare_registers (W : Cw fas fns K mg) (hx : exB K = true) (Dis_word : DefOk P w K mg base CX0 1 "is_word" P_is_word (spWord K)) : DefOk P w K mg base CX0 2 "are_registers" P_are_registers (fun vs H Q _ => ∃ v d, vs = [v] ∧ Dq K H v d ∧ (∀ e ∈ itemsOf d, ∀ x, e = .str x → x.length ≤ 1000) ∧ ∀ H', Keep [] H H' → Q (.bl (isRegs d)) H') := by
  refine DefOk.of W 8 10 (st := s_are_registers) rfl rfl sc_are_registers (fun _ _ _ _ _ _ us hl => match us, hl with | [_], _ => rfl) (fun vs H Q E h => ?_) (fun cdv A outer s H vs Q E hr h => ?_)
  · obtain ⟨v, d, rfl, _⟩ := h
    rfl
  · obtain ⟨v, d, rfl, hv, short, k⟩ := h
    refine ⟨_, PSs.nox (Evl.pss_cut (ps_if (PW.pt (pw_or (pt_not (pt_val (pe_callB call_isiT (by rfl) (W.fre 45) (by decide +kernel) (pa_cons (pv 0) (pa_cons (pe_tup (pa_cons (pe_bltn (v := .ty "list") (by rfl) (W.fre 47) (show bootBuiltins "list" = some (.type "list") by decide +kernel) rfl) (pa_cons (pe_bltn (v := .ty "tuple") (by rfl) (W.fre 54) (show bootBuiltins "tuple" = some (.type "tuple") by decide +kernel) rfl) pa_nil))) pa_nil))))) (pw_or1 (pt_cmpR op_gt (pe_callB call_len_seq (by rfl) (W.fre 46) (by decide +kernel) (pa_cons (pv 0) pa_nil)) pe_int (nomark _))))) (pss_one (ps_ret pe_bl)) pss_nil) (Evl.pss_cut (ps_if (pt_not (pt_val (pe_callB (cr_all rfl) (by rfl) (W.fre 41) (by decide +kernel) (pa_cons (pe_lc (own := [("name", 1)]) (g := gName 1) (tt := tYes) (te := tAndV (tCall _ [] E0 _) (tOp (SM.rNotInA K) _ _)) (by rfl) sc_are_registers.nd (SM.pi_seq (pv 0)) (blkOk_by (own := [("name", 1)]) (N := N_are_registers) (sc := defScope s_are_registers) (by decide +kernel)) (fun _ _ _ _ _ => pg_name (i := 1) sc_are_registers.nd rfl (Or.inl rfl)) (fun _ _ _ _ _ => pts_nil) (fun _ _ _ _ _ => (pe_and (SM.pe_callD Dis_word (hr.mono (by decide)) pass0 (pa_cons (pv 1) pa_nil)) (pe_one (pe_cmpR (SM.op_notInA (SM.units65 hr)) (pv 1) (pe_glob (v := .ref _) (by rfl) (W.glo 56) rfl) (by rfl)))))) pa_nil)))) (pss_one (ps_ret pe_bl)) pss_nil) (pss_one (ps_ret (pe_cmpR op_eq (SM.pe_lenSetW (by rfl) (by rfl) (W.fre 46) (by rfl) (W.fre 52) (pv 0)) (pe_callB call_len_seq (by rfl) (W.fre 46) (by decide +kernel) (pa_cons (pv 0) pa_nil)) (nomark _)))))), ?_⟩
    refine ⟨fun σ' H' => σ' = [some v, none] ∧ Keep [] H H' ∧ ∃ a xs ds, v = .ref a ∧ (SqL K H' a xs ∨ SqT K H' a xs) ∧ isRegs d = regsD ds ∧ itemsOf d = ds ∧ DqAll K H' xs ds ∧ ds.length ≤ 3, ?_, ?_⟩
    · refine ⟨_, rfl, (by show 2 ≤ sizeLine; decide), fun q hq => ?_⟩
      have kq : Keep [] H (upd H q (.tup [.ty "list", .ty "tuple"])) := Keep.new hq
      have kk := k _ kq
      have hv' := hv.mono kq.same
      refine ⟨v, q, [.ty "list", .ty "tuple"], _, [.type "list", .type "tuple"], isSeq d, rfl, upd_same, .cons (.ty _) (.cons (.ty _) .nil), hv'.ty, kit_seq d, _, rfl, ?_⟩
      have seq : ∀ a xs ds, v = .ref a → (SqL K (upd H q (.tup [.ty "list", .ty "tuple"])) a xs ∨ SqT K (upd H q (.tup [.ty "list", .ty "tuple"])) a xs) → isRegs d = regsD ds → itemsOf d = ds → DqAll K (upd H q (.tup [.ty "list", .ty "tuple"])) xs ds →
          (if decide ((3 : Int) < xs.length) = true then Q (.bl false) (upd H q (.tup [.ty "list", .ty "tuple"])) else ds.length ≤ 3) := by
        intro a xs ds _ hs e1 e2 hd
        have len := hd.length
        refine ite2 (fun h => ?_) (fun h => ?_)
        · have : ¬ ds.length ≤ 3 := by
            have := of_decide_eq_true h
            omega
          rw [e1, regsD, decide_eq_false this, Bool.false_and] at kk
          exact kk
        · have : ¬ (3 : Int) < xs.length := fun z => h (decide_eq_true z)
          omega
      cases hv' with
      | @lst a xs ds s t =>
        have z := seq a xs ds rfl (.inl s) rfl rfl t
        refine iteF ⟨_, rfl, a, xs, rfl, .inl s, _, 3, rfl, rfl, _, rfl, ?_⟩
        by_cases h : decide ((3 : Int) < xs.length) = true
        · rw [if_pos h] at z ⊢
          exact z
        · rw [if_neg h] at z ⊢
          exact ⟨rfl, kq, a, xs, ds, rfl, .inl s, rfl, rfl, t, z⟩
      | @tup a xs ds s t =>
        have z := seq a xs ds rfl (.inr s) rfl rfl t
        refine iteF ⟨_, rfl, a, xs, rfl, .inr s, _, 3, rfl, rfl, _, rfl, ?_⟩
        by_cases h : decide ((3 : Int) < xs.length) = true
        · rw [if_pos h] at z ⊢
          exact z
        · rw [if_neg h] at z ⊢
          exact ⟨rfl, kq, a, xs, ds, rfl, .inr s, rfl, rfl, t, z⟩
      | non => exact iteT kk
      | bl b => exact iteT kk
      | int b => exact iteT kk
      | str b => exact iteT kk
      | dic s t => exact iteT kk
    rintro σ' H1 ⟨rfl, k1, a, xs, ds, rfl, hs, e1, e2, hd, l3⟩
    rw [e1, regsD, decide_eq_true l3, Bool.true_and] at k
    rw [e2] at short
    have item : ∀ (H2 : Hp), Keep [] H1 H2 → ∀ (v : V) (e : PyData), e ∈ ds → Dq K H2 v e → LtB (tAndV (tCall (spWord K) [] E0 (tCons (tVar 1) tNil)) (tOp (rNotInA K) (tVar 1) (tC (.ref (He.ga K "WORDS_OF_TEXTS"))))) (([some (.ref a), none] : L2.St).set 1 none |>.set 1 (some v)) H2 (isName e) := by
      intro H2 k2 u e he hu H3 k3 Q' q'
      refine ⟨_, rfl, u, e, rfl, hu.mono k3.same, short e he, fun H4 k4 => ⟨_, rfl, ite2 (fun h => ?_) (fun h => ?_)⟩⟩
      · have h' : isWord e = true := h
        have q0 := q' H4 k4
        rw [isName, h', Bool.true_and] at q0
        obtain ⟨x, rfl⟩ : ∃ x, e = .str x := by
          match e, h' with
          | .str x, _ => exact ⟨x, rfl⟩
        cases hu
        refine ⟨_, rfl, .inr ⟨.str x, words01.map PyData.str, .str x, .tup (words_at hx H4) (dpStrs words01), shaped_str (word_ok h'), shaped_strs words01_ok, ?_⟩⟩
        exact q0
      · have q0 := q' H4 k4
        rw [isName, show isWord e = false from Bool.eq_false_iff.mpr h, Bool.false_and] at q0
        exact q0
    refine ⟨fun σ' H' => σ' = [some (.ref a), none] ∧ Keep [] H1 H' ∧ ds.all isName = true, ?_, ?_⟩
    · have rest : ∀ D H2, Keep [] H1 H2 → H2 D = some (.lst ((ds.map isName).map V.bl)) → rAll K [.ref D] H2 fun x H' => ∃ c, x = .bl c ∧ (fun b (H1' : Hp) => if b = true then Q (.bl false) H1' else ([some (.ref a), none] : L2.St) = [some (.ref a), none] ∧ Keep [] H1 H1' ∧ ds.all isName = true) (!c) H' := by
        intro D H2 k2 e2
        refine ⟨D, _, rfl, SqL.of e2, _, rfl, ?_⟩
        have e' : (ds.map isName).all id = ds.all isName := all_id ds isName
        rw [e']
        cases c : ds.all isName with
        | true => exact iteF ⟨rfl, k2, rfl⟩
        | false =>
          have kk := k H2 (k1.trans k2)
          rw [c, Bool.false_and] at kk
          exact iteT kk
      rcases hs with hs | hs
      · exact ⟨_, rfl, a, rfl, .inl ⟨⟨xs, hs⟩, fun D hD => lcBL (f := isName) hs hd (by omega) item hD fun H2 k2 e2 => rest D H2 k2 e2⟩⟩
      · exact ⟨_, rfl, a, rfl, .inr ⟨⟨xs, hs⟩, fun D hD => lcB (f := isName) hs hd (by omega) item hD fun H2 k2 e2 => rest D H2 k2 e2⟩⟩
    rintro σ' H2 ⟨rfl, k2, hall⟩
    have es := names_strs hall
    have kk := k H2 (k1.trans k2)
    rw [hall, Bool.true_and] at kk
    have hs2 : SqL K H2 a xs ∨ SqT K H2 a xs := hs.elim (fun h => .inl (k2.same.seq h)) (fun h => .inr (seqT_keep k2 Soft.nil h))
    have hd2 := hd.mono k2.same
    rw [es] at hd2
    have exs := dqStrs hd2
    have len : xs.length = ds.length := hd.length
    have lst : (strsOf ds).length ≤ 100 := by
      have := congrArg List.length exs
      rw [List.length_map] at this
      omega
    refine ⟨_, rfl, a, strsOf ds, rfl, by rw [← exs]; exact hs2, lst, _, rfl, a, xs, rfl, hs2, rfl, ?_⟩
    rw [len]
    have e3 : decide (V.int ((dedS (strsOf ds)).length : Int) = V.int (ds.length : Int)) = decide ((dedS (strsOf ds)).length = ds.length) := by
      apply decide_eq_decide.mpr
      constructor
      · intro z
        have := V.int.inj z
        omega
      · intro z
        rw [z]
    rw [e3]
    exact kk
end
end La
set_option Elab.async false
set_option linter.all false
set_option maxRecDepth 100000
set_option maxHeartbeats 4000000
namespace La
open PySem PySem.Spec PyProof.Rows L2 SM
def linesIn : PyData → Bool
  | .list ds => decide (1 ≤ ds.length) && decide (ds.length ≤ 8)
  | .tuple ds => decide (1 ≤ ds.length) && decide (ds.length ≤ 8)
  | _ => false
def spRegs (K : PySem.W.Frag) : Sp := fun vs H Q _ => ∃ v d, vs = [v] ∧ Dq K H v d ∧ (∀ e ∈ itemsOf d, ∀ x, e = .str x → x.length ≤ 1000) ∧ ∀ H', Keep [] H H' → Q (.bl (isRegs d)) H'
/-- what stands as a rule in H -/
structure RuleAt (K : PySem.W.Frag) (H : Hp) (x : Addr) (ns : List Str) (ds : List PyData) : Prop where
  obj : ∃ dx t l, H x = some (.ins (He.ga K "Rule") dx (putF "_lines" (.ref l) (putF "_registers" (.ref t) []))) ∧ SqT K H t (ns.map V.str) ∧ ∃ xs, SqT K H l xs ∧ DqAll K H xs ds
def spRuleI (K : PySem.W.Frag) : Sp := fun vs H Q E => ∃ (x dx : Addr) (vr vl : V) (dr dl : PyData), vs = [.ref x, vr, vl] ∧ H x = some (.ins (He.ga K "Rule") dx []) ∧ Dq K H vr dr ∧ Dq K H vl dl ∧ (∀ e ∈ itemsOf dr, ∀ x, e = .str x → x.length ≤ 1000) ∧ (∀ d ∈ itemsOf dl, Lay 60 d) ∧
  (isRegs dr = false → ∀ d H', Keep [] H H' → H d = none → H' d = some (.xd [("value", vr)]) → E (.ref (He.ga K "BadRegisters")) (some d) H') ∧
  (isRegs dr = true → linesIn dl = false → ∀ d H', Keep [] H H' → H d = none → H' d = some (.xd [("value", vl)]) → E (.ref (He.ga K "BadLines")) (some d) H') ∧
  (isRegs dr = true → linesIn dl = true → ∀ i, firstBad (strsOf (itemsOf dr)) (itemsOf dl) = some i → ∀ d H', Keep [] H H' → H d = none → H' d = some (.xd [("position", .int i)]) → E (.ref (He.ga K "BadLine")) (some d) H') ∧
  (isRegs dr = true → linesIn dl = true → firstBad (strsOf (itemsOf dr)) (itemsOf dl) = none → ∀ H', Keep [x] H H' → RuleAt K H' x (strsOf (itemsOf dr)) (itemsOf dl) → Q .non H')
section
variable {K : PySem.W.Frag}
mutual
/-- data stands while an object changes -/
theorem Dq.kIns {x C dx : Addr} {fs : List (Str × V)} {H H' : Hp} (k : Keep [x] H H') (n : H x = some (.ins C dx fs)) : ∀ {v : V} {d : PyData}, Dq K H v d → Dq K H' v d
  | _, _, .non => .non
  | _, _, .bl b => .bl b
  | _, _, .int i => .int i
  | _, _, .str x => .str x
  | _, _, .lst s t => .lst (by
      rcases s with (s | ⟨o, s⟩) | s
      · exact .inl (.inl (k _ _ (fun z => by rw [List.mem_singleton.mp z, n] at s; cases s) s))
      · exact .inl (.inr ⟨o, k _ _ (fun z => by rw [List.mem_singleton.mp z, n] at s; cases s) s⟩)
      · exact .inr s) (DqAll.kIns k n t)
  | _, _, .tup s t => .tup (by
      rcases s with (s | ⟨o, s⟩) | s
      · exact .inl (.inl (k _ _ (fun z => by rw [List.mem_singleton.mp z, n] at s; cases s) s))
      · exact .inl (.inr ⟨o, k _ _ (fun z => by rw [List.mem_singleton.mp z, n] at s; cases s) s⟩)
      · exact .inr s) (DqAll.kIns k n t)
  | _, _, .dic s t => .dic (k _ _ (fun z => by rw [List.mem_singleton.mp z, n] at s; cases s) s) (DqAll.kIns k n t)
theorem DqAll.kIns {x C dx : Addr} {fs : List (Str × V)} {H H' : Hp} (k : Keep [x] H H') (n : H x = some (.ins C dx fs)) : ∀ {vs : List V} {ds : List PyData}, DqAll K H vs ds → DqAll K H' vs ds
  | _, _, .nil => .nil
  | _, _, .cons s t => .cons (Dq.kIns k n s) (DqAll.kIns k n t)
end
theorem sqL_ins {x C dx a : Addr} {fs : List (Str × V)} {xs : List V} {H H' : Hp} (k : Keep [x] H H') (n : H x = some (.ins C dx fs)) (s : SqL K H a xs) : SqL K H' a xs := by
  rcases s with (s | ⟨o, s⟩) | s
  · exact .inl (.inl (k _ _ (fun z => by rw [List.mem_singleton.mp z, n] at s; cases s) s))
  · exact .inl (.inr ⟨o, k _ _ (fun z => by rw [List.mem_singleton.mp z, n] at s; cases s) s⟩)
  · exact .inr s
theorem Soft.ins {x C dx : Addr} {fs : List (Str × V)} {H : Hp} (n : H x = some (.ins C dx fs)) : Soft [x] H := fun b z ys => by
  rw [List.mem_singleton.mp z, n]
  exact ⟨(fun e => by cases e), (fun o e => by cases e)⟩
theorem regs_seq {H : Hp} {v : V} {d : PyData} (h : isRegs d = true) (dv : Dq K H v d) : ∃ a, v = .ref a ∧ (SqL K H a ((strsOf (itemsOf d)).map V.str) ∨ SqT K H a ((strsOf (itemsOf d)).map V.str)) ∧ (strsOf (itemsOf d)).length ≤ 3 ∧ OkN (strsOf (itemsOf d)) := by
  have main : ∀ ds xs, regsD ds = true → DqAll K H xs ds → xs = (strsOf ds).map V.str ∧ (strsOf ds).length ≤ 3 ∧ OkN (strsOf ds) := by
    intro ds xs hd dx
    rw [regsD, Bool.and_eq_true, Bool.and_eq_true, decide_eq_true_eq] at hd
    have es := names_strs hd.2.1
    have dx' := dx
    rw [es] at dx'
    have l := congrArg List.length es
    rw [List.length_map] at l
    refine ⟨dqStrs dx', by omega, fun s hs => ?_⟩
    have m : PyData.str s ∈ ds := by
      rw [es]
      exact List.mem_map_of_mem hs
    have := List.all_eq_true.mp hd.2.1 _ m
    rw [isName, Bool.and_eq_true] at this
    exact word_ok this.1
  cases dv with
  | @lst a xs ds s t =>
    obtain ⟨e, l, o⟩ := main ds xs h t
    subst e
    exact ⟨a, rfl, .inl s, l, o⟩
  | @tup a xs ds s t =>
    obtain ⟨e, l, o⟩ := main ds xs h t
    subst e
    exact ⟨a, rfl, .inr s, l, o⟩
  | non => cases h
  | bl b => cases h
  | int b => cases h
  | str b => cases h
  | dic s t => cases h
theorem lines_seq {H : Hp} {v : V} {d : PyData} (h : linesIn d = true) (dv : Dq K H v d) : ∃ a xs, v = .ref a ∧ (SqL K H a xs ∨ SqT K H a xs) ∧ DqAll K H xs (itemsOf d) ∧ (itemsOf d).length ≤ 8 := by
  cases dv with
  | @lst a xs ds s t =>
    rw [linesIn, Bool.and_eq_true, decide_eq_true_eq, decide_eq_true_eq] at h
    exact ⟨a, xs, rfl, .inl s, t, h.2⟩
  | @tup a xs ds s t =>
    rw [linesIn, Bool.and_eq_true, decide_eq_true_eq, decide_eq_true_eq] at h
    exact ⟨a, xs, rfl, .inr s, t, h.2⟩
  | non => cases h
  | bl b => cases h
  | int b => cases h
  | str b => cases h
  | dic s t => cases h
end
end La
set_option Elab.async false
set_option linter.all false
set_option maxRecDepth 100000
set_option maxHeartbeats 4000000
namespace La
open PySem PySem.Spec PyProof.Rows L2 SM
theorem eqv_str (x : Str) (d : PyData) : PyData.eqv d (.str x) = PyData.eqv (.str x) d := by
  cases d with
  | str y =>
    rw [PyData.eqv, PyData.eqv]
    exact Bool.eq_iff_iff.mpr ⟨fun h => by rw [eq_of_beq h]; exact beq_self_eq_true _, fun h => by rw [eq_of_beq h]; exact beq_self_eq_true _⟩
  | _ => rw [PyData.eqv, PyData.eqv]
theorem keepD_len (l : Ln) : (stepsD l.steps :: keepD l.keep).length ≤ 2 ∧ 1 ≤ (stepsD l.steps :: keepD l.keep).length := by
  cases l.keep with
  | none => exact ⟨by show 1 ≤ 2; decide, by show 1 ≤ 1; decide⟩
  | some k => exact ⟨by show 2 ≤ 2; decide, by show 1 ≤ 2; decide⟩
/-! ### what a good line is -/
theorem eqv_str_inv {x : Str} {d : PyData} (h : PyData.eqv (.str x) d = true) : d = .str x := by
  cases d with
  | str y =>
    rw [PyData.eqv] at h
    rw [eq_of_beq h]
  | _ =>
    rw [PyData.eqv] at h
    cases h
theorem memS_inv {ns : List Str} {d : PyData} (h : memS ns d = true) : ∃ s ∈ ns, d = .str s := by
  obtain ⟨z, hz, e⟩ := List.any_eq_true.mp (show ((ns.map PyData.str).any fun z => PyData.eqv z d) = true from h)
  obtain ⟨s, hs, rfl⟩ := List.mem_map.mp hz
  exact ⟨s, hs, eqv_str_inv e⟩
theorem isStep_good {ns : List Str} {d : PyData} (h : isStep ns d = true) : ∃ s, d = stepD s ∧ GoodS ns s := by
  match d, h with
  | .tuple [t, e], h =>
    rw [isStep, Bool.and_eq_true, Bool.or_eq_true] at h
    obtain ⟨x, hx, rfl⟩ := memS_inv h.1
    have hx' : x = "here" ∨ x ∈ ns := List.mem_cons.mp hx
    rcases h.2 with h2 | h2
    · obtain ⟨y, hy, rfl⟩ := memS_inv h2
      refine ⟨(x, y), rfl, hx', ?_⟩
      rcases List.mem_cons.mp hy with e | e
      · exact .inr (.inl e)
      · exact .inr (.inr (.inr e))
    · obtain ⟨y, hy, rfl⟩ := memS_inv h2
      refine ⟨(x, y), rfl, hx', ?_⟩
      simp only [List.mem_cons, List.not_mem_nil, or_false] at hy
      rcases hy with e | e
      · exact .inl e
      · exact .inr (.inr (.inl e))
theorem isTest_good {ns : List Str} {d : PyData} (h : isTest ns d = true) : ∃ s, d = testD s ∧ GoodT ns s := by
  match d, h with
  | .tuple [t, e, b], h =>
    rw [isTest, Bool.and_eq_true, Bool.and_eq_true, Bool.or_eq_true] at h
    obtain ⟨h1, h2, h3⟩ := h
    obtain ⟨x, hx, rfl⟩ := memS_inv h1
    have hx' : x = "here" ∨ x = "new" ∨ x ∈ ns := by
      rcases List.mem_cons.mp hx with e | e
      · exact .inl e
      · exact .inr (List.mem_cons.mp e)
    cases b with
    | bool b =>
      rcases h2 with h2 | h2
      · obtain ⟨y, hy, rfl⟩ := memS_inv h2
        refine ⟨(x, y, b), rfl, hx', ?_⟩
        rcases List.mem_cons.mp hy with e | e
        · exact .inr (.inl e)
        · rcases List.mem_cons.mp e with e | e
          · exact .inl e
          · exact .inr (.inr (.inr e))
      · rw [eqv_str] at h2
        rw [eqv_str_inv h2]
        exact ⟨(x, "nothing", b), rfl, hx', .inr (.inr (.inl rfl))⟩
    | _ => cases h3
theorem all_good {α : Type} {p : PyData → Bool} {f : α → PyData} {G : α → Prop} (h : ∀ d, p d = true → ∃ s, d = f s ∧ G s) : ∀ {ds : List PyData}, ds.all p = true → ∃ l : List α, ds = l.map f ∧ ∀ s ∈ l, G s
  | [], _ => ⟨[], rfl, fun s z => by cases z⟩
  | d :: ds, e => by
    rw [List.all_cons, Bool.and_eq_true] at e
    obtain ⟨s, rfl, g⟩ := h d e.1
    obtain ⟨l, rfl, gs⟩ := all_good h e.2
    exact ⟨s :: l, rfl, fun z hz => by
      rcases List.mem_cons.mp hz with rfl | hz
      · exact g
      · exact gs z hz⟩
theorem isSteps_good {ns : List Str} {d : PyData} (h : isSteps ns d = true) : ∃ l, d = stepsD l ∧ l.length ≤ 4 ∧ ∀ s ∈ l, GoodS ns s := by
  match d, h with
  | .tuple ds, h =>
    rw [isSteps, Bool.and_eq_true, decide_eq_true_eq] at h
    obtain ⟨l, rfl, g⟩ := all_good (fun d => isStep_good) h.2
    rw [List.length_map] at h
    exact ⟨l, rfl, h.1, g⟩
theorem isLine_good {ns : List Str} {d : PyData} (h : isLine ns d = true) : ∃ l, d = lnD l ∧ GoodL ns l := by
  match d, h with
  | .tuple (t :: rest), h =>
    rw [isLine, Bool.and_eq_true, Bool.and_eq_true, Bool.or_eq_true, decide_eq_true_eq, decide_eq_true_eq] at h
    obtain ⟨h0, h1, h2⟩ := h
    have ht : ∃ l, t = testsD l ∧ l.length ≤ 4 ∧ ∀ s ∈ l, GoodT ns s := by
      match t, h1 with
      | .tuple ds, h1 =>
        rw [isTests, Bool.and_eq_true, decide_eq_true_eq] at h1
        obtain ⟨l, rfl, g⟩ := all_good (fun d => isTest_good) h1.2
        rw [List.length_map] at h1
        exact ⟨l, rfl, h1.1, g⟩
    obtain ⟨ts, rfl, t4, tg⟩ := ht
    match rest, h0, h2 with
    | [a], _, h2 =>
      rw [List.all_cons, Bool.and_eq_true] at h2
      obtain ⟨ss, rfl, s4, sg⟩ := isSteps_good h2.1
      exact ⟨⟨ts, ss, none⟩, rfl, ⟨t4, tg⟩, ⟨s4, sg⟩, fun k z => by cases z⟩
    | [a, b], _, h2 =>
      rw [List.all_cons, List.all_cons, Bool.and_eq_true, Bool.and_eq_true] at h2
      obtain ⟨ss, rfl, s4, sg⟩ := isSteps_good h2.1
      obtain ⟨ks, rfl, k4, kg⟩ := isSteps_good h2.2.1
      exact ⟨⟨ts, ss, some ks⟩, rfl, ⟨t4, tg⟩, ⟨s4, sg⟩, fun k z => by cases z; exact ⟨k4, kg⟩⟩
    | [], h0, _ => simp at h0
    | _ :: _ :: _ :: _, h0, _ => simp at h0
/-! ### a line by positions -/
def HasAll (kvs : List (Key × V)) (ns : List Str) : Prop := ∀ x : Str, x = "here" ∨ x = "new" ∨ x = "nothing" ∨ x ∈ ns → ∃ v, valV kvs (.inr x) = some v
def spChoice (K : PySem.W.Frag) : Sp := fun vs H Q _ => ∃ (v : V) (pd : Addr) (kvs : List (Key × V)) (ns : List Str) (l : Ln), vs = [v, .ref pd] ∧ Dt K H v (lnD l) ∧ GoodL ns l ∧ H pd = some (.dK kvs) ∧ HasAll kvs ns ∧ ∀ y H', Keep [] H H' → Q y H'
section
variable {P : Program} {w : World} {K : PySem.W.Frag} {mg : Str → Option Value} {base : Heap}
abbrev s_choice_of : Stmt := (top 9)
abbrev N_choice_of : List Str := ["line", "positions", "tests", "one", "other", "same", "lists", "target", "source", "steps"]
abbrev P_choice_of : List Str := ["line", "positions"]
theorem sc_choice_of : FnScope N_choice_of P_choice_of (defScope s_choice_of) := ⟨rfl, rfl, rfl, by decide +kernel, rfl, by decide +kernel, by decide +kernel⟩
theorem Dchoice_of (W : Cw fas fns K mg) : DefOk P w K mg base CX0 1 "choice_of" P_choice_of (spChoice K) := by
  refine DefOk.of W 4 7 (st := s_choice_of) rfl rfl sc_choice_of (fun _ _ _ _ _ _ us hl => match us, hl with | [_, _], _ => rfl) (fun vs H Q E h => ?_) (fun cdv A outer s H vs Q E hr h => ?_)
  · obtain ⟨v, pd, kvs, ns, l, rfl, _⟩ := h
    rfl
  · obtain ⟨v, pd, kvs, ns, l, rfl, dv, gl, hp, has, k⟩ := h
    refine ⟨_, PSs.nox (Evl.pss_cut (ps_set (i := 2) sc_choice_of.nd rfl (by first | exact Or.inl rfl | exact Or.inr rfl) (pe_callTy call_tuple_of (by rfl) (W.fre 54) (by decide +kernel) (pa_cons (pe_lc (own := [("one", 3), ("other", 4), ("same", 5)]) (g := gTup K 3 ((gCons (gName 3) (gCons (gName 4) (gCons (gName 5) gNil))))) (tt := tYes) (by rfl) sc_choice_of.nd (pi_tup (pe_ix ix_seq (pv 0) pe_int (fun _ _ => rfl))) (blkOk_by (own := [("one", 3), ("other", 4), ("same", 5)]) (N := N_choice_of) (sc := defScope s_choice_of) (by decide +kernel)) (fun _ _ _ _ _ => pg_tup (by rfl) (pgs_cons (pg_name (i := 3) sc_choice_of.nd rfl (Or.inl rfl)) (pgs_cons (pg_name (i := 4) sc_choice_of.nd rfl (Or.inl rfl)) (pgs_cons (pg_name (i := 5) sc_choice_of.nd rfl (Or.inl rfl)) pgs_nil)))) (fun _ _ _ _ _ => pts_nil) (fun _ _ _ _ _ => (pe_tup (pa_cons (pe_dget (hu_of hr) (pv 1) (pv 3) (fun _ _ => rfl)) (pa_cons (pe_dget (hu_of hr) (pv 1) (pv 4) (fun _ _ => rfl)) (pa_cons (pv 5) pa_nil)))))) pa_nil))) (Evl.pss_cut (ps_set (i := 6) sc_choice_of.nd rfl (by first | exact Or.inl rfl | exact Or.inr rfl) (pe_callTy call_tuple_of (by rfl) (W.fre 54) (by decide +kernel) (pa_cons (pe_lc (own := [("steps", 9)]) (g := gName 9) (tt := tYes) (te := SM.teTup K (tLc (iTup K _) _ tYes _ _)) (by rfl) sc_choice_of.nd (pi_tup (pe_slice sl_tup (pv 0) (po_some pe_int) po_none)) (blkOk_by (own := [("steps", 9)]) (N := N_choice_of) (sc := defScope s_choice_of) (by decide +kernel)) (fun _ _ _ _ _ => pg_name (i := 9) sc_choice_of.nd rfl (Or.inl rfl)) (fun _ _ _ _ _ => pts_nil) (fun _ _ _ _ _ => (pe_callTy call_tuple_of (by rfl) (W.fre 54) (by decide +kernel) (pa_cons (pe_lc (own := [("target", 7), ("source", 8)]) (g := gTup K 2 ((gCons (gName 7) (gCons (gName 8) gNil)))) (tt := tYes) (by rfl) sc_choice_of.nd (pi_tup (pv 9)) (SM.blkOk_nest (own := [("target", 7), ("source", 8)]) (N := N_choice_of) (by decide +kernel)) (fun _ _ _ _ _ => pg_tup (by rfl) (pgs_cons (pg_name (i := 7) sc_choice_of.nd rfl (Or.inl rfl)) (pgs_cons (pg_name (i := 8) sc_choice_of.nd rfl (Or.inl rfl)) pgs_nil))) (fun _ _ _ _ _ => pts_nil) (fun _ _ _ _ _ => (pe_tup (pa_cons (pe_dget (hu_of hr) (pv 1) (pv 7) (fun _ _ => rfl)) (pa_cons (pe_dget (hu_of hr) (pv 1) (pv 8) (fun _ _ => rfl)) pa_nil))))) pa_nil)))) pa_nil))) (pss_one (ps_ret (pe_tup (pa_cons (pv 2) (pa_cons (pv 6) pa_nil))))))), ?_⟩
    obtain ⟨a, xs, rfl, sq, dx⟩ := dv.items
    cases dx with
    | @cons x0 xr d0 dr h0 tr =>
      obtain ⟨ta, txs, rfl, st, dt⟩ := h0.items
      have lt : txs.length ≤ 100 := by
        rw [dt.length, List.length_map]
        exact Nat.le_trans gl.tests.1 (by decide)
      have lr : xr.length ≤ 2 ∧ 1 ≤ xr.length := by
        rw [tr.length]
        exact keepD_len l
      refine ⟨fun σ' H' => ∃ vt, σ' = [some (.ref a), some (.ref pd), some vt, none, none, none, none, none, none, none] ∧ Keep [] H H', ?_, ?_⟩
      · refine LaE.tupLc (K := K) (H0 := H) (xs := txs) lt (fun H1 k1 Q1 q1 => ?_) (fun i x H2 hx k2 Q1 q1 => ?_) H Keep.refl _ fun v H' k1 => ⟨v, rfl, k1⟩
        · exact ⟨_, rfl, .inr (.inl ⟨a, _, 0, _, rfl, rfl, seqT_keep k1 Soft.nil sq, at0 .., q1 ta H1 Keep.refl (seqT_keep k1 Soft.nil st)⟩)⟩
        · obtain ⟨d, hd, dd⟩ := dt.get hx
          rw [List.getElem?_map] at hd
          cases e : l.tests[i]? with
          | none =>
            rw [e] at hd
            cases hd
          | some t =>
            rw [e] at hd
            cases hd
            obtain ⟨p, us, rfl, sp, du⟩ := dd.items
            cases du with
            | @cons u0 r0 e0 f0 g0 du =>
              cases du with
              | @cons u1 r1 e1 f1 g1 du =>
                cases du with
                | @cons u2 r2 e2 f2 g2 du =>
                  cases du
                  cases g0
                  cases g1
                  obtain ⟨one, other, same⟩ := t
                  have gt := gl.tests.2 _ (List.mem_of_getElem? e)
                  obtain ⟨v1, hv1⟩ := has one (gt.1.elim .inl fun z => z.elim (fun z => .inr (.inl z)) fun z => .inr (.inr (.inr z)))
                  obtain ⟨v2, hv2⟩ := has other (gt.2.elim (fun z => .inr (.inl z)) fun z => z.elim .inl fun z => z.elim (fun z => .inr (.inr (.inl z))) fun z => .inr (.inr (.inr z)))
                  refine ⟨p, _, rfl, seqT_keep k2 Soft.nil sp, rfl, _, _, rfl, _, _, rfl, _, _, rfl, rfl, rfl, ?_⟩
                  exact LaE.tup (LaA.cons (LaE.dget (H0 := H) rfl rfl hp hv1) (LaA.cons (LaE.dget rfl rfl hp hv2) (LaA.cons (LaE.var rfl) LaA.nil))) rfl H2 k2 Q1 q1
      rintro σ' H1 ⟨vt, rfl, k1⟩
      refine ⟨fun σ' H' => ∃ vl, σ' = [some (.ref a), some (.ref pd), some vt, none, none, none, some vl, none, none, none] ∧ Keep [] H1 H', ?_, ?_⟩
      · refine LaE.tupLc (K := K) (H0 := H1) (xs := xr) (by omega) (fun H2 k2 Q1 q1 => ?_) (fun i x H2 hx k2 Q1 q1 => ?_) H1 Keep.refl _ fun v H' k1 => ⟨v, rfl, k1⟩
        · refine ⟨_, rfl, 1, rfl, a, _, rfl, seqT_keep (k1.trans k2) Soft.nil sq, ?_, fun q nq => ?_⟩
          · intro z
            have : HT.sIx (V.ref ta :: xr).length 0 (some 1) = 0 := z.1
            rw [show HT.sIx (V.ref ta :: xr).length 0 (some 1) = min 1 (xr.length + 1) from rfl] at this
            omega
          · rw [cut1]
            exact q1 q _ (Keep.new nq) (SqT.of upd_same)
        · obtain ⟨d, hd, dd⟩ := tr.get hx
          have hp1 := k1.to hp
          have hsteps : ∃ ss, d = stepsD ss ∧ ss.length ≤ 4 ∧ ∀ s ∈ ss, GoodS ns s := by
            have hm := List.mem_of_getElem? hd
            rcases List.mem_cons.mp hm with rfl | hm
            · exact ⟨l.steps, rfl, gl.steps.1, gl.steps.2⟩
            · cases hk : l.keep with
              | none =>
                rw [hk] at hm
                cases hm
              | some kk =>
                rw [hk] at hm
                rw [List.mem_singleton.mp hm]
                exact ⟨kk, rfl, gl.keep kk hk⟩
          obtain ⟨ss, rfl, s4, sg⟩ := hsteps
          obtain ⟨p, us, rfl, sp, du⟩ := dd.items
          refine ⟨rfl, ?_⟩
          refine LaE.tupLc (K := K) (H0 := H2) (xs := us) (by rw [du.length, List.length_map]; omega) (fun H3 k3 Q2 q2 => ⟨_, rfl, q2 p H3 Keep.refl (seqT_keep (k1.trans (k2.trans k3)) Soft.nil sp)⟩) (fun j y H3 hy k3 Q2 q2 => ?_) H2 Keep.refl Q1 q1
          obtain ⟨d, hd, de⟩ := du.get hy
          rw [List.getElem?_map] at hd
          cases e : ss[j]? with
          | none =>
            rw [e] at hd
            cases hd
          | some t =>
            rw [e] at hd
            cases hd
            obtain ⟨p2, us2, rfl, sp2, du2⟩ := de.items
            cases du2 with
            | @cons u0 r0 e0 f0 g0 du2 =>
              cases du2 with
              | @cons u1 r1 e1 f1 g1 du2 =>
                cases du2
                cases g0
                cases g1
                obtain ⟨tg, src⟩ := t
                have gt := sg _ (List.mem_of_getElem? e)
                obtain ⟨v1, hv1⟩ := has tg (gt.1.elim .inl fun z => .inr (.inr (.inr z)))
                obtain ⟨v2, hv2⟩ := has src (gt.2.elim (fun z => .inr (.inl z)) fun z => z.elim .inl fun z => z.elim (fun z => .inr (.inr (.inl z))) fun z => .inr (.inr (.inr z)))
                refine ⟨p2, _, rfl, seqT_keep (k1.trans (k2.trans k3)) Soft.nil sp2, rfl, _, _, rfl, _, _, rfl, rfl, rfl, ?_⟩
                exact LaE.tup (LaA.cons (LaE.dget (H0 := H1) rfl rfl hp1 hv1) (LaA.cons (LaE.dget rfl rfl hp1 hv2) LaA.nil)) rfl H3 (k2.trans k3) Q2 q2
      rintro σ' H2 ⟨vl, rfl, k2⟩
      exact ⟨_, rfl, _, rfl, (by show 2 ≤ sizeLine; decide), fun t ht => k _ _ (k1.trans (k2.trans (Keep.new ht)))⟩
end
end La
set_option Elab.async false
set_option linter.all false
set_option maxRecDepth 100000
set_option maxHeartbeats 4000000
namespace La
open PySem PySem.Spec PyProof.Rows L2 SM
/-- the words that a plan has positions for -/
def planWordsOf (ns : List Str) : List Str := ((["here"] : List Str) ++ ns) ++ (["new", "nothing"] : List Str)
def spPlanI (K : PySem.W.Frag) : Sp := fun vs H Q _ => ∃ (x dx r pl ln : Addr) (ns ps : List Str) (xs : List V) (ls : List Ln), vs = [.ref x, .ref r, .ref pl, .ref ln] ∧ H x = some (.ins (He.ga K "Plan") dx []) ∧ SqT K H r (ns.map V.str) ∧ ns.length ≤ 3 ∧
  SqT K H pl (ps.map V.str) ∧ ps.length ≤ 3 ∧ (∀ p ∈ ps, p ∈ ns) ∧ SqT K H ln xs ∧ DtAll K H xs (ls.map lnD) ∧ ls.length ≤ 8 ∧ (∀ l ∈ ls, GoodL ns l) ∧ ∀ H', Keep [x] H H' → Q .non H'
section
variable {P : Program} {w : World} {K : PySem.W.Frag} {mg : Str → Option Value} {base : Heap}
abbrev s_Plan___init__ : Stmt := (inClass (top 8) 0)
abbrev N_Plan___init__ : List Str := ["self", "registers", "places", "lines", "names", "positions", "position", "name", "line"]
abbrev P_Plan___init__ : List Str := ["self", "registers", "places", "lines"]
theorem sc_Plan___init__ : FnScope N_Plan___init__ P_Plan___init__ (defScope s_Plan___init__) := ⟨rfl, rfl, rfl, by decide +kernel, rfl, by decide +kernel, by decide +kernel⟩
theorem I_Plan (W : Cw fas fns K mg) (Dchoice_of : DefOk P w K mg base CX0 1 "choice_of" P_choice_of (spChoice K)) :
    ∃ fd, FnOk P w K mg base CX0 2 (He.ma K (He.ga K "Plan") "__init__") fd ["self", "registers", "places", "lines"] (spPlanI K) ∧ Binds K fd ["self", "registers", "places", "lines"] [] := by
  obtain ⟨fd, F⟩ := W.says.def_ 3 (d := d_Plan___init__) rfl
  refine ⟨fd, FunD.ok F sc_Plan___init__ (fun vs H Q E h => ?_) (fun cdv A outer s H vs Q E hr h => ?_), FunD.bindsN F (fun _ _ _ _ _ _ us hl => match us, hl with | [_, _, _, _], _ => rfl)⟩
  · obtain ⟨x, dx, r, pl, ln, ns, ps, xs, ls, rfl, _⟩ := h
    rfl
  · obtain ⟨x, dx, r, pl, ln, ns, ps, xs, ls, rfl, hx, hr', r3, hp, p3, pin, hl, dl, l8, gl, k⟩ := h
    refine ⟨_, PSs.nox (Evl.pss_cut (ps_set (i := 4) sc_Plan___init__.nd rfl (by first | exact Or.inl rfl | exact Or.inr rfl) (pe_op op_catA (pe_op op_catA (pe_tup (pa_cons pe_str pa_nil)) (pv 1)) (pe_tup (pa_cons pe_str (pa_cons pe_str pa_nil))))) (Evl.pss_cut (ps_set (i := 5) sc_Plan___init__.nd rfl (by first | exact Or.inl rfl | exact Or.inr rfl) (pe_dc (own := [("position", 6), ("name", 7)]) (g := gTup K 2 ((gCons (gName 6) (gCons (gName 7) gNil)))) (tt := tYes) (by rfl) sc_Plan___init__.nd (SM.pi_enumA (by rfl) (W.fre 43) (pa_cons (pv 4) pa_nil)) (blkOk_by (own := [("position", 6), ("name", 7)]) (N := N_Plan___init__) (sc := defScope s_Plan___init__) (by decide +kernel)) (fun _ _ _ _ _ => pg_tup (by rfl) (pgs_cons (pg_name (i := 6) sc_Plan___init__.nd rfl (Or.inl rfl)) (pgs_cons (pg_name (i := 7) sc_Plan___init__.nd rfl (Or.inl rfl)) pgs_nil))) (fun _ _ _ _ _ => pts_nil) (fun _ _ _ _ _ => (pv 7)) (fun _ _ _ _ _ => (pv 6)))) (Evl.pss_cut (ps_fld (pv 0) (pe_callTy call_tuple_of (by rfl) (W.fre 54) (by decide +kernel) (pa_cons (pe_lc (own := [("name", 7)]) (g := gName 7) (tt := tYes) (by rfl) sc_Plan___init__.nd (pi_tup (pe_op op_catA (pe_tup (pa_cons pe_str pa_nil)) (pv 2))) (blkOk_by (own := [("name", 7)]) (N := N_Plan___init__) (sc := defScope s_Plan___init__) (by decide +kernel)) (fun _ _ _ _ _ => pg_name (i := 7) sc_Plan___init__.nd rfl (Or.inl rfl)) (fun _ _ _ _ _ => pts_nil) (fun _ _ _ _ _ => (pe_dget (hu_of hr) (pv 5) (pv 7) (fun _ _ => rfl)))) pa_nil)) rfl) (Evl.pss_cut (ps_fld (pv 0) (pe_dget1 (hu_of hr) (pv 5) pe_str ⟨by rfl, by rfl, by rfl, by rfl⟩) rfl) (pss_one (ps_fld (pv 0) (pe_callTy call_tuple_of (by rfl) (W.fre 54) (by decide +kernel) (pa_cons (pe_lc (own := [("line", 8)]) (g := gName 8) (tt := tYes) (te := tCall _ [] E0 _) (by rfl) sc_Plan___init__.nd (pi_tup (pv 3)) (blkOk_by (own := [("line", 8)]) (N := N_Plan___init__) (sc := defScope s_Plan___init__) (by decide +kernel)) (fun _ _ _ _ _ => pg_name (i := 8) sc_Plan___init__.nd rfl (Or.inl rfl)) (fun _ _ _ _ _ => pts_nil) (fun _ _ _ _ _ => (SM.pe_callD Dchoice_of (hr.mono (by decide)) pass0 (pa_cons (pv 8) (pa_cons (pv 5) pa_nil))))) pa_nil)) rfl)))))), ?_⟩
    have CP : Cls K (He.ga K "Plan") := He.cls_ok (W.fact 63)
    have N1 : NoAttr K (He.ga K "Plan") "spots" := He.noat_ok (W.fact 64)
    have N2 : NoAttr K (He.ga K "Plan") "elder" := He.noat_ok (W.fact 65)
    have N3 : NoAttr K (He.ga K "Plan") "choices" := He.noat_ok (W.fact 66)
    -- names
    refine ⟨fun σ' H' => ∃ nm, σ' = [some (.ref x), some (.ref r), some (.ref pl), some (.ref ln), some (.ref nm), none, none, none, none] ∧ Keep [] H H' ∧ SqT K H' nm ((planWordsOf ns).map V.str), ?_, ?_⟩
    · refine ⟨(by show 1 ≤ sizeLine; decide), fun q1 n1 => ⟨_, rfl, q1, r, [.str "here"], ns.map V.str, rfl, rfl, SqT.of upd_same, seqT_keep (Keep.new (m := []) n1) Soft.nil hr', ?_, (fun e => by cases e), fun _ e => ?_, fun _ _ q2 n2 => ?_⟩⟩
      · rw [List.length_map]
        exact Nat.le_trans (show 1 + ns.length ≤ 100 by omega) (by decide)
      · have e0 : ns = [] := List.map_eq_nil_iff.mp e
        subst e0
        refine ⟨(by show 2 ≤ sizeLine; decide), fun q3 n3 => ⟨q1, q3, [.str "here"], _, rfl, rfl, SqT.of ((Keep.new (m := []) n3).to upd_same), SqT.of upd_same, (by show 1 + 2 ≤ sizeLine; decide), (fun e => by cases e), (fun _ e => by cases e), fun _ _ q4 n4 => ?_⟩⟩
        exact ⟨q4, rfl, (Keep.new n1).trans ((Keep.new n3).trans (Keep.new n4)), SqT.of upd_same⟩
      · refine ⟨(by show 2 ≤ sizeLine; decide), fun q3 n3 => ⟨q2, q3, _, _, rfl, rfl, SqT.of ((Keep.new (m := []) n3).to upd_same), SqT.of upd_same, ?_, (fun e => by cases e), (fun _ e => by cases e), fun _ _ q4 n4 => ?_⟩⟩
        · rw [List.length_append, List.length_map]
          exact Nat.le_trans (show 1 + ns.length + 2 ≤ 100 by omega) (by decide)
        · refine ⟨q4, rfl, (Keep.new n1).trans ((Keep.new n2).trans ((Keep.new n3).trans (Keep.new n4))), SqT.of ?_⟩
          rw [upd_same, planWordsOf, List.map_append, List.map_append]
          rfl
    rintro σ' H1 ⟨nm, rfl, k1, hn⟩
    have lenW : (planWordsOf ns).length ≤ 6 := by
      rw [planWordsOf, List.length_append, List.length_append]
      show 1 + ns.length + 2 ≤ 6
      omega
    -- positions
    refine ⟨fun σ' H' => ∃ d kvs, σ' = [some (.ref x), some (.ref r), some (.ref pl), some (.ref ln), some (.ref nm), some (.ref d), none, none, none] ∧ Keep [] H1 H' ∧ H' d = some (.dK kvs) ∧ HasAll kvs ns, ?_, ?_⟩
    · refine ⟨_, rfl, nm, _, rfl, .inr ⟨hn, fun D hD => ?_⟩⟩
      refine dc_enumT (xs := (planWordsOf ns).map V.str) (fun i H' => ∃ kvs, Keep [] H1 H' ∧ H' D = some (.dK kvs) ∧ kvs.length ≤ i ∧ ∀ j, j < i → ∀ z, (planWordsOf ns)[j]? = some z → ∃ v, valV kvs (.inr z) = some v) ⟨[], Keep.new hD, upd_same, Nat.le_refl _, fun j z => absurd z (Nat.not_lt_zero _)⟩ ?_ ?_ ?_
      · rintro i H' _ ⟨kvs, kk, _⟩
        exact seqT_keep kk Soft.nil hn
      · rintro i y T H' hy ⟨kvs, kk, eD, lk, fine⟩ hT
        rw [List.getElem?_map] at hy
        cases e : (planWordsOf ns)[i]? with
        | none =>
          rw [e] at hy
          cases hy
        | some z =>
          rw [e] at hy
          cases hy
          have hi : i < (planWordsOf ns).length := (List.getElem?_eq_some_iff.mp e).1
          have kT : Keep [] H' (upd H' T (.tup [.int (i : Int), .str z])) := Keep.new hT
          refine ⟨T, _, rfl, SqT.of upd_same, rfl, _, _, rfl, _, _, rfl, rfl, rfl, ?_⟩
          refine ⟨_, rfl, _, rfl, kvs, .inr z, rfl, kT.to eD, ?_, putK kvs (.inr z) (.int (i : Int)), Keep.own (kk.trans kT) hD, upd_same, ?_, fun j hj z' hz' => ?_⟩
          · exact Nat.lt_of_le_of_lt lk (Nat.lt_of_lt_of_le (show i < 7 by omega) (by decide))
          · exact Nat.le_trans (length_putK _ _ _) (by omega)
          · rw [valV_put]
            by_cases ez : (Sum.inr z' : Key) = .inr z
            · rw [if_pos ez]
              exact ⟨_, rfl⟩
            · rw [if_neg ez]
              rcases Nat.lt_or_ge j i with h | h
              · exact fine j h z' hz'
              · have ej : j = i := by omega
                rw [ej, e] at hz'
                cases hz'
                exact absurd rfl ez
      · rintro H' ⟨kvs, kk, eD, lk, fine⟩
        rw [List.length_map] at fine
        have all : ∀ z ∈ planWordsOf ns, ∃ v, valV kvs (.inr z) = some v := fun z hz => by
          obtain ⟨j, hj, e⟩ := List.getElem_of_mem hz
          exact fine j hj z (by simp [hj, e])
        refine ⟨D, kvs, rfl, kk, eD, fun z hz => all z ?_⟩
        unfold planWordsOf
        rcases hz with h | h | h | h
        · rw [h]; simp
        · rw [h]; simp
        · rw [h]; simp
        · exact List.mem_append_left _ (List.mem_append_right _ h)
    rintro σ' H2 ⟨d, kvs, rfl, k2, ed, has⟩
    have k12 := k1.trans k2
    have hx2 := k12.to hx
    -- spots
    let M : List (Str × V) → L2.St → Hp → Prop := fun fs σ' H' => σ' = [some (.ref x), some (.ref r), some (.ref pl), some (.ref ln), some (.ref nm), some (.ref d), none, none, none] ∧ Keep [x] H2 H' ∧ H' x = some (.ins (He.ga K "Plan") dx fs)
    refine ⟨fun σ' H' => ∃ fs, fs.length ≤ 1 ∧ M fs σ' H', ?_, ?_⟩
    · refine LaE.tupLc (K := K) (H0 := H2) (xs := ((["here"] : List Str) ++ ps).map V.str) (by rw [List.length_map, List.length_append]; show 1 + ps.length ≤ 100; omega) (fun H3 k3 Q1 q1 => ?_) (fun i y H3 hy k3 Q1 q1 => ?_) H2 Keep.refl _ fun v H3 k3 => ?_
      · refine ⟨(by show 1 ≤ sizeLine; decide), fun q1' n1 => ⟨_, rfl, q1', pl, [.str "here"], ps.map V.str, rfl, rfl, SqT.of upd_same, seqT_keep ((k12.trans k3).trans (Keep.new n1)) Soft.nil hp, ?_, (fun e => by cases e), fun _ e => ?_, fun _ _ q2 n2 => ?_⟩⟩
        · rw [List.length_map]
          exact Nat.le_trans (show 1 + ps.length ≤ 100 by omega) (by decide)
        · have e0 : ps = [] := List.map_eq_nil_iff.mp e
          subst e0
          exact q1 q1' _ (Keep.new n1) (SqT.of upd_same)
        · exact q1 q2 _ ((Keep.new n1).trans (Keep.new n2)) (SqT.of (by rw [upd_same, List.map_append]; rfl))
      · rw [List.getElem?_map] at hy
        cases e : ((["here"] : List Str) ++ ps)[i]? with
        | none =>
          rw [e] at hy
          cases hy
        | some z =>
          rw [e] at hy
          cases hy
          have hz : z = "here" ∨ z ∈ ps := List.mem_cons.mp (List.mem_of_getElem? e)
          obtain ⟨v, hv⟩ := has z (hz.elim .inl fun m => .inr (.inr (.inr (pin z m))))
          exact ⟨rfl, LaE.dget (H0 := H2) rfl rfl ed hv H3 k3 Q1 q1⟩
      · have hx3 := k3.to hx2
        exact ⟨_, rfl, x, _, dx, _, rfl, hx3, CP, N1, (by show 0 < 1000; decide), [("spots", v)], Nat.le_refl _, rfl, (Keep.of_nil k3).trans (Keep.at_ (by simp)), upd_same⟩
    rintro σ' H3 ⟨fs3, f3, rfl, k3, hx3⟩
    have dne : d ≠ x := fun z => by
      rw [z, hx2] at ed
      cases ed
    have ed3 := k3 _ _ (by simpa using dne) ed
    -- elder
    refine ⟨fun σ' H' => ∃ fs, fs.length ≤ 2 ∧ M fs σ' H', ?_, ?_⟩
    · refine ⟨_, rfl, d, rfl, .inl ⟨kvs, .inl ed3⟩, valV kvs (.inr "elder"), DGet.k (k := .inr "elder") ed3, _, rfl, x, _, dx, _, rfl, hx3, CP, N2, ?_, _, ?_, rfl, k3.trans (Keep.at_ (by simp)), upd_same⟩
      · exact Nat.lt_of_le_of_lt f3 (by decide)
      · exact Nat.le_trans (length_putF _ _ _) (by omega)
    rintro σ' H4 ⟨fs4, f4, rfl, k4, hx4⟩
    have ed4 := k4 _ _ (by simpa using dne) ed
    have sx := Soft.ins hx2
    have hl4 := seqT_keep k4 sx (seqT_keep k12 Soft.nil hl)
    have dl4 := (dl.k0 k12).keep k4 sx
    -- choices
    refine LaE.tupLc (K := K) (H0 := H4) (xs := xs) (by rw [dl.length, List.length_map]; omega) (fun H5 k5 Q1 q1 => ⟨_, rfl, q1 ln H5 Keep.refl (seqT_keep k5 Soft.nil hl4)⟩) (fun i y H5 hy k5 Q1 q1 => ?_) H4 Keep.refl _ fun v H5 k5 => ?_
    · obtain ⟨dd, hd, dy⟩ := dl4.get hy
      rw [List.getElem?_map] at hd
      cases e : ls[i]? with
      | none =>
        rw [e] at hd
        cases hd
      | some l =>
        rw [e] at hd
        cases hd
        exact ⟨rfl, _, rfl, _, rfl, y, d, kvs, ns, l, rfl, dy.k0 k5, gl l (List.mem_of_getElem? e), k5.to ed4, has, fun z H' kz => q1 z H' kz⟩
    · have hx5 := k5.to hx4
      exact ⟨_, rfl, x, _, dx, _, rfl, hx5, CP, N3, Nat.lt_of_le_of_lt f4 (by decide), k _ ((Keep.of_nil k12).trans (k4.trans ((Keep.of_nil k5).trans (Keep.at_ (by simp)))))⟩
end
end La
set_option Elab.async false
set_option linter.all false
set_option maxRecDepth 100000
set_option maxHeartbeats 4000000
namespace La
open PySem PySem.Spec PyProof.Rows L2 SM
mutual
/-- tuples and flat things alone -/
def onlyT : PyData → Bool
  | .list _ => false
  | .dict _ => false
  | .tuple ds => onlyTs ds
  | _ => true
def onlyTs : List PyData → Bool
  | [] => true
  | d :: ds => onlyT d && onlyTs ds
end
mutual
theorem Dq_dt {K : PySem.W.Frag} {H : Hp} : ∀ {v : V} {d : PyData}, Dq K H v d → onlyT d = true → Dt K H v d
  | _, _, .non, _ => .non
  | _, _, .bl b, _ => .bl b
  | _, _, .int i, _ => .int i
  | _, _, .str x, _ => .str x
  | _, _, .lst s t, h => by rw [onlyT] at h; cases h
  | _, _, .tup s t, h => .tup s (DqAll_dt t (by rw [onlyT] at h; exact h))
  | _, _, .dic s t, h => by rw [onlyT] at h; cases h
theorem DqAll_dt {K : PySem.W.Frag} {H : Hp} : ∀ {vs : List V} {ds : List PyData}, DqAll K H vs ds → onlyTs ds = true → DtAll K H vs ds
  | _, _, .nil, _ => .nil
  | _, _, .cons s t, h => by
    rw [onlyTs, Bool.and_eq_true] at h
    exact .cons (Dq_dt s h.1) (DqAll_dt t h.2)
end
theorem onlyTs_all {α : Type} {f : α → PyData} (h : ∀ a, onlyT (f a) = true) : ∀ l : List α, onlyTs (l.map f) = true
  | [] => by rw [List.map_nil, onlyTs]
  | a :: l => by rw [List.map_cons, onlyTs, h a, onlyTs_all h l]; rfl
theorem onlyT_step (s : Str × Str) : onlyT (stepD s) = true := by simp only [stepD, onlyT, onlyTs, Bool.and_self]
theorem onlyT_test (s : Str × Str × Bool) : onlyT (testD s) = true := by simp only [testD, onlyT, onlyTs, Bool.and_self]
theorem onlyT_line (l : Ln) : onlyT (lnD l) = true := by
  have a : onlyT (testsD l.tests) = true := by rw [testsD, onlyT]; exact onlyTs_all onlyT_test _
  have b : ∀ k, onlyT (stepsD k) = true := fun k => by rw [stepsD, onlyT]; exact onlyTs_all onlyT_step _
  rw [lnD, onlyT, onlyTs, onlyTs, a, b]
  cases l.keep with
  | none => rw [keepD, onlyTs]; rfl
  | some k => rw [keepD, onlyTs, onlyTs, b]; rfl
/-- what stands as a rule in H -/
def ruleFs (t l y : Addr) : List (Str × V) := [("_registers", .ref t), ("_lines", .ref l), ("plan", .ref y)]
def RuleIs (K : PySem.W.Frag) (H : Hp) (x : Addr) (ns : List Str) (ls : List Ln) : Prop := ∃ (dx t l y : Addr) (xs : List V), H x = some (.ins (He.ga K "Rule") dx (ruleFs t l y)) ∧ SqT K H t (ns.map V.str) ∧ SqT K H l xs ∧ DtAll K H xs (ls.map lnD)
theorem RuleIs.keep {K : PySem.W.Frag} {m : List Addr} {H H' : Hp} {x : Addr} {ns : List Str} {ls : List Ln} (h : RuleIs K H x ns ls) (k : Keep m H H') (n : x ∉ m) (s : Soft m H) : RuleIs K H' x ns ls := by
  obtain ⟨dx, t, l, y, xs, h1, h5, h6, h7⟩ := h
  exact ⟨dx, t, l, y, xs, k _ _ n h1, seqT_keep k s h5, seqT_keep k s h6, h7.keep k s⟩
theorem goodAll {ns : List Str} {ds : List PyData} (h : firstBad ns ds = none) : ∃ ls : List Ln, ds = ls.map lnD ∧ ∀ l ∈ ls, GoodL ns l := by
  refine all_good (p := isLine ns) (fun d => isLine_good) ?_
  rw [List.all_eq_true]
  intro d hd
  obtain ⟨j, hj, e⟩ := List.getElem_of_mem hd
  have z := List.find?_eq_none.mp h j (List.mem_range.mpr hj)
  have hdj : ds[j]? = some d := by simp [hj, e]
  rw [badAt, hdj] at z
  cases c : isLine ns d with
  | true => rfl
  | false =>
    exfalso
    apply z
    show (!isLine ns d || _) = true
    rw [c]
    rfl
def isPlace (s : Str) : Bool := (["beside", "elder"] : List Str).contains s
theorem places_any (z : Str) : ([PyData.str "beside", .str "elder"].any fun y => PyData.eqv y (.str z)) = isPlace z := by
  have := any_str z ["beside", "elder"]
  rw [show ([PyData.str "beside", .str "elder"]) = (["beside", "elder"] : List Str).map PyData.str from rfl, this]
  unfold isPlace
  exact Bool.eq_iff_iff.mpr ⟨fun h => List.contains_iff_mem.mpr (of_decide_eq_true h), fun h => decide_eq_true (List.contains_iff_mem.mp h)⟩
theorem placesShaped : SeqAt.shaped (.tuple [.str "beside", .str "elder"]) = true := by decide +kernel
/-- the getter of places -/
def spPlaces (K : PySem.W.Frag) (f : Str → Bool) : Sp := fun vs H Q _ => ∃ (x dx t : Addr) (fs : List (Str × V)) (ns : List Str), vs = [.ref x] ∧ H x = some (.ins (He.ga K "Rule") dx fs) ∧ fs.lookup ("_registers" : Str) = some (.ref t) ∧ SqT K H t (ns.map V.str) ∧ ns.length ≤ 3 ∧ OkN ns ∧
  ∀ p H', Keep [] H H' → SqT K H' p ((ns.filter f).map V.str) → Q (.ref p) H'
def spMakeRule (K : PySem.W.Frag) : Sp := fun vs H Q E => ∃ (x dx : Addr) (vr vl : V) (dr dl : PyData), vs = [.ref x, vr, vl] ∧ H x = some (.ins (He.ga K "Rule") dx []) ∧ Dq K H vr dr ∧ Dq K H vl dl ∧ (∀ e ∈ itemsOf dr, ∀ x, e = .str x → x.length ≤ 1000) ∧ (∀ d ∈ itemsOf dl, LayL d) ∧
  (isRegs dr = false → ∀ d H', Keep [] H H' → H d = none → H' d = some (.xd [("value", vr)]) → E (.ref (He.ga K "BadRegisters")) (some d) H') ∧
  (isRegs dr = true → linesIn dl = false → ∀ d H', Keep [] H H' → H d = none → H' d = some (.xd [("value", vl)]) → E (.ref (He.ga K "BadLines")) (some d) H') ∧
  (isRegs dr = true → linesIn dl = true → ∀ i, firstBad (strsOf (itemsOf dr)) (itemsOf dl) = some i → ∀ d H', Keep [] H H' → H d = none → H' d = some (.xd [("position", .int i)]) → E (.ref (He.ga K "BadLine")) (some d) H') ∧
  (isRegs dr = true → linesIn dl = true → firstBad (strsOf (itemsOf dr)) (itemsOf dl) = none → ∀ H' (ls : List Ln), itemsOf dl = ls.map lnD → (∀ l ∈ ls, GoodL (strsOf (itemsOf dr)) l) → Keep [x] H H' → RuleIs K H' x (strsOf (itemsOf dr)) ls → Q .non H')
section
variable {P : Program} {w : World} {K : PySem.W.Frag} {mg : Str → Option Value} {base : Heap}
abbrev s_Rule_places : Stmt := (inClass (top 13) 3)
abbrev N_Rule_places : List Str := ["self", "name"]
abbrev P_Rule_places : List Str := ["self"]
theorem sc_Rule_places : FnScope N_Rule_places P_Rule_places (defScope s_Rule_places) := ⟨rfl, rfl, rfl, by decide +kernel, rfl, by decide +kernel, by decide +kernel⟩
theorem I_places (PP : PropAt K q_Rule_places) (W : Cw fas fns K mg) (hP : ∀ H, SqT K H (He.ga K "PLACES") ((["beside", "elder"] : List Str).map V.str)) :
    ∃ fd, FnOk P w K mg base CX0 1 (pga K "Rule" "places") fd ["self"] (spPlaces K isPlace) ∧ Binds K fd ["self"] [] := by
  obtain ⟨fd, F⟩ := PP.fn
  refine ⟨fd, FunD.ok F sc_Rule_places (fun vs H Q E h => ?_) (fun cdv A outer s H vs Q E hr h => ?_), FunD.bindsN F (fun _ _ _ _ _ _ us hl => match us, hl with | [_], _ => rfl)⟩
  · obtain ⟨x, dx, t, fs, ns, rfl, _⟩ := h
    rfl
  · obtain ⟨x, dx, t, fs, ns, rfl, hx, ht, sq, n3, okn, k⟩ := h
    have CR : Cls K (He.ga K "Rule") := He.cls_ok (W.fact 57)
    have N1 : NoAttr K (He.ga K "Rule") "_registers" := He.noat_ok (W.fact 58)
    refine ⟨_, PSs.nox (pss_one (ps_ret (pe_callTy call_tuple_of (by rfl) (W.fre 54) (by decide +kernel) (pa_cons (pe_lc (own := [("name", 1)]) (g := gName 1) (tt := tTest (tOp (SM.rInA K) (tVar 1) (tC (.ref (He.ga K "PLACES"))))) (by rfl) sc_Rule_places.nd (pi_tup (pe_fld (pv 0) rfl)) (blkOk_by (own := [("name", 1)]) (N := N_Rule_places) (sc := defScope s_Rule_places) (by decide +kernel)) (fun _ _ _ _ _ => pg_name (i := 1) sc_Rule_places.nd rfl (Or.inl rfl)) (fun _ _ _ _ _ => pts_one (pt_cmpR (SM.op_inA (SM.units65 hr)) (pv 1) (pe_glob (v := .ref _) (by rfl) (W.glo 55) rfl) (by rfl))) (fun _ _ _ _ _ => (pv 1))) pa_nil)))), ?_⟩
    refine ⟨_, rfl, x, _, dx, fs, _, rfl, hx, CR, N1, ht, t, rfl, ⟨_, sq⟩, fun D hD => lcF (f := isPlace) (Nat.le_of_ble_eq_true rfl) sq (by omega) hD (fun H2 k2 z hz Q2 q2 => ?_) fun H' k' e' => ⟨D, _, rfl, .inl ⟨SqL.of e', fun p hp => k p _ (k'.trans (Keep.new hp)) (SqT.of upd_same)⟩⟩⟩
    refine ⟨_, rfl, .inr ⟨.str z, [.str "beside", .str "elder"], .str z, .tup (hP H2) (.cons (.str _) (.cons (.str _) .nil)), shaped_str (okn z hz), placesShaped, _, rfl, ?_⟩⟩
    rw [places_any]
    exact q2 H2 Keep.refl
abbrev s_Rule___init__ : Stmt := (inClass (top 13) 0)
abbrev N_Rule___init__ : List Str := ["self", "registers", "lines", "names"]
abbrev P_Rule___init__ : List Str := ["self", "registers", "lines"]
theorem sc_Rule___init__ : FnScope N_Rule___init__ P_Rule___init__ (defScope s_Rule___init__) := ⟨rfl, rfl, rfl, by decide +kernel, rfl, by decide +kernel, by decide +kernel⟩
theorem I_Rule (PP : PropAt K q_Rule_places) (hP : ∀ H, SqT K H (He.ga K "PLACES") ((["beside", "elder"] : List Str).map V.str)) (Dchoice_of : DefOk P w K mg base CX0 1 "choice_of" P_choice_of (spChoice K)) (W : Cw fas fns K mg) (R_BadRegisters : RaiseOk P w K mg base "BadRegisters" "value") (R_BadLines : RaiseOk P w K mg base "BadLines" "value") (Dare_registers : DefOk P w K mg base CX0 2 "are_registers" P_are_registers (spRegs K)) (Drefuse_bad_lines : DefOk P w K mg base (CX P w) 4 "refuse_bad_lines" P_refuse_bad_lines (spRefuse K)) :
    ∃ fd, FnOk P w K mg base (CX P w) 5 (He.ma K (He.ga K "Rule") "__init__") fd ["self", "registers", "lines"] (spMakeRule K) ∧ Binds K fd ["self", "registers", "lines"] [] := by
  obtain ⟨fd, F⟩ := W.says.def_ 5 (d := d_Rule___init__) rfl
  refine ⟨fd, FunD.ok F sc_Rule___init__ (fun vs H Q E h => ?_) (fun cdv A outer s H vs Q E hr h => ?_), FunD.bindsN F (fun _ _ _ _ _ _ us hl => match us, hl with | [_, _, _], _ => rfl)⟩
  · obtain ⟨x, dx, vr, vl, dr, dl, rfl, _⟩ := h
    rfl
  · obtain ⟨x, dx, vr, vl, dr, dl, rfl, hx, hr', hl, short, lay, e1, e2, e3, k⟩ := h
    have CR : Cls K (He.ga K "Rule") := He.cls_ok (W.fact 57)
    have MP : Mk K (He.ga K "Plan") (He.ma K (He.ga K "Plan") "__init__") := He.mkr_ok (W.fact 67)
    have gPl := W.glo 6
    obtain ⟨fdPl, FPl, bPl⟩ := I_Plan (P := P) (w := w) (base := base) W Dchoice_of
    obtain ⟨fdPp, FPp, bPp⟩ := I_places (P := P) (w := w) (base := base) PP W hP
    refine ⟨_, (Evl.pss_cut (ps_if (pt_not (pt_val (SM.pe_callD Dare_registers (hr.mono (by decide)) pass0 (pa_cons (pv 1) pa_nil)))) (pss_one (SM.ps_raiseErr R_BadRegisters rfl (hr.mono (by decide)) (takes_of rfl rfl rfl rfl) (pv 1))) pss_nil) (Evl.pss_cut (ps_if (PW.pt (pw_or (pt_not (pt_val (pe_callB call_isiT (by rfl) (W.fre 45) (by decide +kernel) (pa_cons (pv 2) (pa_cons (pe_tup (pa_cons (pe_bltn (v := .ty "list") (by rfl) (W.fre 47) (show bootBuiltins "list" = some (.type "list") by decide +kernel) rfl) (pa_cons (pe_bltn (v := .ty "tuple") (by rfl) (W.fre 54) (show bootBuiltins "tuple" = some (.type "tuple") by decide +kernel) rfl) pa_nil))) pa_nil))))) (pw_or1 (pt_not (pt_chain op_le op_le pe_int (pe_callB call_len_seq (by rfl) (W.fre 46) (by decide +kernel) (pa_cons (pv 2) pa_nil)) pe_int))))) (pss_one (SM.ps_raiseErr R_BadLines rfl (hr.mono (by decide)) (takes_of rfl rfl rfl rfl) (pv 2))) pss_nil) (Evl.pss_cut (ps_set (i := 3) sc_Rule___init__.nd rfl (by first | exact Or.inl rfl | exact Or.inr rfl) (pe_callTy call_tuple_of (by rfl) (W.fre 54) (by decide +kernel) (pa_cons (pv 1) pa_nil))) (Evl.pss_cut (ps_expr (SM.pe_callD Drefuse_bad_lines (hr.mono (by decide)) (passes_call (takes_of rfl rfl rfl rfl) (fun _ _ _ _ h => h)) (pa_cons (pv 2) (pa_cons (pv 3) pa_nil)))) (Evl.pss_cut (ps_fld (pv 0) (pv 3) rfl) (Evl.pss_cut (ps_fld (pv 0) (pe_callTy call_tuple_of (by rfl) (W.fre 54) (by decide +kernel) (pa_cons (pv 2) pa_nil)) rfl) (pss_one (ps_fld (pv 0) (pe_make MP FPl (hr.mono (by decide)) (by rfl) gPl bPl .nil pass0 (pa_cons (pv 3) (pa_cons (pe_prop (pv 0) CR PP.of FPp (hr.mono (by decide)) bPp .nil pass0 rfl) (pa_cons (pe_fld (pv 0) rfl) pa_nil)))) rfl)))))))), ?_⟩
    have N1 : NoAttr K (He.ga K "Rule") "_registers" := He.noat_ok (W.fact 58)
    have N2 : NoAttr K (He.ga K "Rule") "_lines" := He.noat_ok (W.fact 59)
    have N3 : NoAttr K (He.ga K "Rule") "plan" := He.noat_ok (W.fact 60)
    refine ⟨fun σ' H' => σ' = [some (.ref x), some vr, some vl, none] ∧ Keep [] H H' ∧ isRegs dr = true, ?_, ?_⟩
    · refine ⟨_, rfl, vr, dr, rfl, hr', short, fun H1 k1 => ⟨_, rfl, ?_⟩⟩
      cases c : isRegs dr with
      | true => exact iteF ⟨rfl, k1, rfl⟩
      | false => exact iteT ⟨_, rfl, raise_out (W := E) R_BadRegisters.err R_BadRegisters.no fun d hd => e1 c d _ (k1.trans (Keep.new hd)) (k1.free (by simp) hd) upd_same⟩
    rintro σ' H1 ⟨rfl, k1, cr⟩
    refine ⟨fun σ' H' => σ' = [some (.ref x), some vr, some vl, none] ∧ Keep [] H H' ∧ linesIn dl = true, ?_, ?_⟩
    · refine ⟨_, rfl, (by show 2 ≤ sizeLine; decide), fun q hq => ?_⟩
      have kq : Keep [] H1 (upd H1 q (.tup [.ty "list", .ty "tuple"])) := Keep.new hq
      have kk := k1.trans kq
      have hv' := hl.mono kk.same
      refine ⟨vl, q, [.ty "list", .ty "tuple"], _, [.type "list", .type "tuple"], isSeq dl, rfl, upd_same, .cons (.ty _) (.cons (.ty _) .nil), hv'.ty, kit_seq dl, _, rfl, ?_⟩
      have out : linesIn dl = false → ∀ d, (upd H1 q (.tup [.ty "list", .ty "tuple"])) d = none → E (.ref (He.ga K "BadLines")) (some d) (upd (upd H1 q (.tup [.ty "list", .ty "tuple"])) d (.xd [("value", vl)])) :=
        fun c d hd => e2 cr c d _ (kk.trans (Keep.new hd)) (kk.free (by simp) hd) upd_same
      have seq : ∀ (ds : List PyData) (n : Nat), n = ds.length → linesIn dl = (decide (1 ≤ ds.length) && decide (ds.length ≤ 8)) → (decide ((1 : Int) ≤ (n : Int)) && decide ((n : Int) ≤ 8)) = linesIn dl := by
        intro ds n e1 e2
        subst e1
        rw [e2]
        congr 1
        · exact decide_eq_decide.mpr (by omega)
        · exact decide_eq_decide.mpr (by omega)
      cases hv' with
      | @lst a xs ds s t =>
        have z := seq ds xs.length t.length rfl
        refine iteF ⟨_, rfl, a, xs, rfl, .inl s, _, _, rfl, rfl, _, rfl, ite2 (fun f => ?_) (fun f => ?_)⟩
        · have f' : decide ((1 : Int) ≤ (xs.length : Int)) = true := f
          rw [f', Bool.true_and] at z
          refine ⟨_, _, rfl, rfl, _, rfl, ?_⟩
          rw [z]
          cases c : linesIn _ with
          | true =>
            exact iteF ⟨rfl, kk, rfl⟩
          | false =>
            exact iteT ⟨_, rfl, raise_out (W := E) R_BadLines.err R_BadLines.no fun d hd => out c d hd⟩
        · have f' : decide ((1 : Int) ≤ (xs.length : Int)) = false := Bool.eq_false_iff.mpr f
          rw [f', Bool.false_and] at z
          exact ⟨_, rfl, iteT ⟨_, rfl, raise_out (W := E) R_BadLines.err R_BadLines.no fun d hd => out z.symm d hd⟩⟩
      | @tup a xs ds s t =>
        have z := seq ds xs.length t.length rfl
        refine iteF ⟨_, rfl, a, xs, rfl, .inr s, _, _, rfl, rfl, _, rfl, ite2 (fun f => ?_) (fun f => ?_)⟩
        · have f' : decide ((1 : Int) ≤ (xs.length : Int)) = true := f
          rw [f', Bool.true_and] at z
          refine ⟨_, _, rfl, rfl, _, rfl, ?_⟩
          rw [z]
          cases c : linesIn _ with
          | true =>
            exact iteF ⟨rfl, kk, rfl⟩
          | false =>
            exact iteT ⟨_, rfl, raise_out (W := E) R_BadLines.err R_BadLines.no fun d hd => out c d hd⟩
        · have f' : decide ((1 : Int) ≤ (xs.length : Int)) = false := Bool.eq_false_iff.mpr f
          rw [f', Bool.false_and] at z
          exact ⟨_, rfl, iteT ⟨_, rfl, raise_out (W := E) R_BadLines.err R_BadLines.no fun d hd => out z.symm d hd⟩⟩
      | non => exact iteT ⟨_, rfl, raise_out (W := E) R_BadLines.err R_BadLines.no fun d hd => out rfl d hd⟩
      | bl b => exact iteT ⟨_, rfl, raise_out (W := E) R_BadLines.err R_BadLines.no fun d hd => out rfl d hd⟩
      | int b => exact iteT ⟨_, rfl, raise_out (W := E) R_BadLines.err R_BadLines.no fun d hd => out rfl d hd⟩
      | str b => exact iteT ⟨_, rfl, raise_out (W := E) R_BadLines.err R_BadLines.no fun d hd => out rfl d hd⟩
      | dic s t => exact iteT ⟨_, rfl, raise_out (W := E) R_BadLines.err R_BadLines.no fun d hd => out rfl d hd⟩
    rintro σ' H2 ⟨rfl, k2, cl⟩
    obtain ⟨ra, rfl, hrs, r3, rok⟩ := regs_seq cr (hr'.mono k2.same)
    refine ⟨fun σ' H' => ∃ t, σ' = [some (.ref x), some (.ref ra), some vl, some (.ref t)] ∧ Keep [] H H' ∧ SqT K H' t ((strsOf (itemsOf dr)).map V.str), ?_, ?_⟩
    · rcases hrs with hrs | hrs
      · exact ⟨_, rfl, ra, _, rfl, .inl ⟨hrs, fun t ht => ⟨t, rfl, k2.trans (Keep.new ht), SqT.of upd_same⟩⟩⟩
      · exact ⟨_, rfl, ra, _, rfl, .inr ⟨hrs, ra, rfl, k2, hrs⟩⟩
    rintro σ' H3 ⟨t, rfl, k3, ht⟩
    obtain ⟨la, lxs, rfl, hls, hd, l8⟩ := lines_seq cl (hl.mono k3.same)
    refine ⟨fun σ' H' => σ' = [some (.ref x), some (.ref ra), some (.ref la), some (.ref t)] ∧ Keep [] H3 H' ∧ firstBad (strsOf (itemsOf dr)) (itemsOf dl) = none, ?_, ?_⟩
    · refine ⟨_, rfl, _, rfl, la, t, lxs, itemsOf dl, strsOf (itemsOf dr), rfl, hls, hd, lay, by omega, ⟨ht, r3, rok⟩, fun h H4 k4 => ⟨rfl, k4, h⟩, fun i h d H4 k4 hd4 hx4 => e3 cr cl i h d H4 (k3.trans k4) (k3.free (by simp) hd4) hx4⟩
    rintro σ' H4 ⟨rfl, k4, fb⟩
    have k34 := k3.trans k4
    have hx4 := k34.to hx
    refine ⟨fun σ' H' => σ' = [some (.ref x), some (.ref ra), some (.ref la), some (.ref t)] ∧ H' = upd H4 x (.ins (He.ga K "Rule") dx (putF "_registers" (.ref t) [])), ⟨_, rfl, _, rfl, x, _, dx, _, rfl, hx4, CR, N1, by simp, rfl, rfl⟩, ?_⟩
    rintro σ' H5 ⟨rfl, rfl⟩
    have kx : Keep [x] H4 (upd H4 x (.ins (He.ga K "Rule") dx (putF "_registers" (.ref t) []))) := Keep.at_ (by simp)
    have sx := Soft.ins hx4
    obtain ⟨ls, els, gls⟩ := goodAll fb
    have dt4 : DtAll K H4 lxs (ls.map lnD) := by
      have := DqAll_dt (hd.mono k4.same) (by rw [els]; exact onlyTs_all onlyT_line ls)
      rw [els] at this
      exact this
    have ht4 := seqT_keep k4 Soft.nil ht
    -- self._lines
    refine ⟨fun σ' H' => ∃ l, σ' = [some (.ref x), some (.ref ra), some (.ref la), some (.ref t)] ∧ Keep [x] H4 H' ∧ H' x = some (.ins (He.ga K "Rule") dx (putF "_lines" (.ref l) (putF "_registers" (.ref t) []))) ∧ SqT K H' l lxs, ?_, ?_⟩
    · have few : (putF "_registers" (V.ref t) ([] : List (Str × V))).length < 1000 := by
        show 1 < 1000
        decide
      rcases hls with hls | hls
      · refine ⟨_, rfl, la, lxs, rfl, .inl ⟨sqL_ins kx hx4 (k4.same.seq hls), fun l hl' => ?_⟩⟩
        have kn : Keep [] (upd H4 x (.ins (He.ga K "Rule") dx (putF "_registers" (.ref t) []))) (upd (upd H4 x (.ins (He.ga K "Rule") dx (putF "_registers" (.ref t) []))) l (.tup lxs)) := Keep.new hl'
        have hxn := kn.to (upd_same (H := H4) (a := x))
        exact ⟨_, rfl, x, _, dx, _, rfl, hxn, CR, N2, few, l, rfl, kx.trans ((Keep.of_nil kn).trans (Keep.at_ (by simp))), upd_same, seqT_keep (Keep.at_ (m := [x]) (by simp)) (Soft.ins hxn) (SqT.of upd_same)⟩
      · exact ⟨_, rfl, la, lxs, rfl, .inr ⟨seqT_keep kx sx (seqT_keep k4 Soft.nil hls), _, rfl, x, _, dx, _, rfl, upd_same, CR, N2, few, la, rfl, kx.trans (Keep.at_ (by simp)), upd_same, seqT_keep (Keep.at_ (m := [x]) (by simp)) (Soft.ins upd_same) (seqT_keep kx sx (seqT_keep k4 Soft.nil hls))⟩⟩
    rintro σ' H6 ⟨l, rfl, k6, hx6, hl6⟩
    have ht6 := seqT_keep k6 sx ht4
    have dt6 := dt4.keep k6 sx
    -- self.plan
    have fl : (putF "_lines" (V.ref l) (putF "_registers" (V.ref t) ([] : List (Str × V)))) = ([(("_registers" : Str), V.ref t), (("_lines" : Str), V.ref l)] : List (Str × V)) := rfl
    rw [fl] at hx6
    refine ⟨_, rfl, _, rfl, x, dx, _, rfl, hx6, x, dx, t, _, _, rfl, hx6, rfl, ht6, r3, rok, fun pl H7 k7 hpl => ?_⟩
    have hx7 := k7.to hx6
    refine ⟨_, rfl, x, _, dx, _, _, rfl, hx7, CR, N2, rfl, fun y dy ny ndy ne => ?_⟩
    have ka : Keep [] H7 (upd H7 dy (.own y)) := Keep.new ndy
    have kb : Keep [] (upd H7 dy (.own y)) (upd (upd H7 dy (.own y)) y (.ins (He.ga K "Plan") dy [])) := Keep.new (by rw [upd_ne ne.symm]; exact ny)
    have kab := ka.trans kb
    have hx8 := kab.to hx7
    refine ⟨y, dy, t, pl, l, _, _, lxs, ls, rfl, upd_same, seqT_keep (k7.trans kab) Soft.nil ht6, r3, seqT_keep kab Soft.nil hpl, Nat.le_trans (List.length_filter_le _ _) r3, fun p hp => (List.mem_filter.mp hp).1, seqT_keep (k7.trans kab) Soft.nil hl6, dt6.k0 (k7.trans kab), by rw [els, List.length_map] at l8; exact l8, gls, fun H9 k9 => ⟨rfl, ?_⟩⟩
    have nyx : x ≠ y := fun z => by
      rw [z] at hx7
      rw [ny] at hx7
      cases hx7
    have hx9 := k9 _ _ (by simpa using nyx) hx8
    have sy : Soft [y] (upd (upd H7 dy (.own y)) y (.ins (He.ga K "Plan") dy [])) := Soft.ins upd_same
    have k69 : ∀ {z xs}, SqT K H6 z xs → SqT K H9 z xs := fun h => seqT_keep k9 sy (seqT_keep (k7.trans kab) Soft.nil h)
    have k6y : Keep [] H6 H9 := (k7.trans kab).offNew k9 (k7.free (by simp) ny)
    refine ⟨_, rfl, x, _, dx, _, rfl, hx9, CR, N3, (by show 2 < 1000; decide), ?_⟩
    have kz : Keep [x] H9 (upd H9 x (.ins (He.ga K "Rule") dx (putF "plan" (V.ref y) ([(("_registers" : Str), V.ref t), (("_lines" : Str), V.ref l)] : List (Str × V))))) := Keep.at_ (by simp)
    have sz := Soft.ins hx9
    refine k cr cl fb _ ls els gls ((Keep.of_nil k34).trans (k6.trans ((Keep.of_nil k6y).trans kz))) ⟨dx, t, l, y, lxs, upd_same, seqT_keep kz sz (k69 ht6), seqT_keep kz sz (k69 hl6), (dt6.k0 k6y).keep kz sz⟩
end
end La
set_option Elab.async false
set_option linter.all false
set_option maxRecDepth 100000
set_option maxHeartbeats 4000000
namespace La
open PySem PySem.Spec PyProof.Rows L2 SM
theorem rd_call2 {sp : Sp} {E : XK} {i j : Nat} {v w : V} {σ : L2.St} {H : Hp} {Q : VK} (hi : σ[i]? = some (some v)) (hj : σ[j]? = some (some w)) (h : sp [v, w] H Q E) : tCall sp [] E (tCons (tVar i) (tCons (tVar j) tNil)) σ H Q := ⟨v, hi, w, hj, h⟩
theorem rd_par {i j : Nat} {ta : TA} {D : Ends} {σ : L2.St} {H : Hp} (h : ta σ H fun vs H1 => ∃ v w, vs = [v, w] ∧ D.nx ((σ.set i (some v)).set j (some w)) H1) : tPar i j ta D σ H := h
theorem rd_if {c : TT} {a b : TS} {D : Ends} {σ : L2.St} {H : Hp} (h : c σ H fun k H1 => if k = true then a D σ H1 else b D σ H1) : tIfS c a b D σ H := h
theorem rd_ife {c : TT} {a b : TE} {σ : L2.St} {H : Hp} {Q : VK} (h : c σ H fun k H1 => if k = true then a σ H1 Q else b σ H1 Q) : tIf c a b σ H Q := h
theorem rd_and {t u : TT} {σ : L2.St} {H : Hp} {Q : Bool → Hp → Prop} (h : t σ H fun c H1 => if c = true then u σ H1 Q else Q false H1) : tAnd t u σ H Q := h
theorem rd_test {te : TE} {σ : L2.St} {H : Hp} {Q : Bool → Hp → Prop} (h : te σ H fun x H1 => ∃ k, x = .bl k ∧ Q k H1) : tTest te σ H Q := h
theorem rd_var {i : Nat} {v : V} {σ : L2.St} {H : Hp} {Q : VK} (hi : σ[i]? = some (some v)) (h : Q v H) : tVar i σ H Q := ⟨v, hi, h⟩
theorem rd_cons {te : TE} {ta : TA} {σ : L2.St} {H : Hp} {Q : List V → Hp → Prop} (h : te σ H fun v H1 => ta σ H1 fun vs H2 => Q (v :: vs) H2) : tCons te ta σ H Q := h
theorem rd_asg {te : TE} {g : TG} {D : Ends} {σ : L2.St} {H : Hp} (h : te σ H fun v H1 => g v σ H1 D.nx) : tAsg te g D σ H := h
theorem rd_ret {te : TE} {D : Ends} {σ : L2.St} {H : Hp} (h : te σ H D.rt) : tRet te D σ H := h
theorem rd_op {r : R2} {ta tb : TE} {σ : L2.St} {H : Hp} {Q : VK} (h : ta σ H fun x H1 => tb σ H1 fun y H2 => r x y H2 Q) : tOp r ta tb σ H Q := h
theorem rd_cb1 {r : List V → Hp → VK → Prop} {te : TE} {σ : L2.St} {H : Hp} {Q : VK} (h : te σ H fun v H1 => r [v] H1 Q) : tCB r (tCons te tNil) σ H Q := h
theorem rd_cb2 {r : List V → Hp → VK → Prop} {ta tb : TE} {σ : L2.St} {H : Hp} {Q : VK} (h : ta σ H fun v H1 => tb σ H1 fun w H2 => r [v, w] H2 Q) : tCB r (tCons ta (tCons tb tNil)) σ H Q := h
/-- a test of a number at hand, any outcome -/
theorem rd_num {i : Nat} {n c : Int} {σ : L2.St} {H : Hp} {Q : Bool → Hp → Prop} (hi : σ[i]? = some (some (.int n))) (h : ∀ b, Q b H) : tTest (tOp rEq (tVar i) (tC (.int c))) σ H Q := ⟨_, hi, rfl, _, rfl, h _⟩
theorem rd_ifK {i : Nat} {n c : Int} {u : TT} {A B : TS} {D : Ends} {σ : L2.St} {H : Hp} (hi : σ[i]? = some (some (.int n))) (h : u σ H fun k H1 => if k = true then A D σ H1 else B D σ H1) (h' : B D σ H) : tIfS (tAnd (tTest (tOp rEq (tVar i) (tC (.int c)))) u) A B D σ H :=
  rd_if (rd_and (rd_num hi fun b => by
    cases b with
    | true => exact h
    | false => exact h'))
theorem rd_ifK1 {i : Nat} {n c : Int} {A B : TS} {D : Ends} {σ : L2.St} {H : Hp} (hi : σ[i]? = some (some (.int n))) (h : A D σ H) (h' : B D σ H) : tIfS (tTest (tOp rEq (tVar i) (tC (.int c)))) A B D σ H :=
  rd_if (rd_num hi fun b => by
    cases b with
    | true => exact h
    | false => exact h')
/-- names and lines of a rule that may be made -/
structure VRule (ns : List Str) (ls : List Ln) : Prop where
  regs : regsD (ns.map .str) = true
  few : 1 ≤ ls.length ∧ ls.length ≤ 8
  good : ∀ z ∈ ls, GoodL ns z
  last : ∀ z, ls[ls.length - 1]? = some z → z.tests = []
theorem VRule.okN {ns : List Str} {ls : List Ln} (h : VRule ns ls) : ns.length ≤ 3 ∧ OkN ns ∧ ∀ s ∈ ns, s.length ≤ 8 := by
  have hd := h.regs
  rw [regsD, Bool.and_eq_true, Bool.and_eq_true, decide_eq_true_eq, List.length_map] at hd
  have w : ∀ s ∈ ns, isWord (.str s) = true := fun s hs => by
    have := List.all_eq_true.mp hd.2.1 _ (List.mem_map_of_mem hs)
    rw [isName, Bool.and_eq_true] at this
    exact this.1
  refine ⟨hd.1, fun s hs => word_ok (w s hs), fun s hs => ?_⟩
  have := w s hs
  rw [isWord, Bool.and_eq_true, Bool.and_eq_true, decide_eq_true_eq, decide_eq_true_eq] at this
  exact this.1.2
theorem strsOf_map : ∀ ns : List Str, strsOf (ns.map .str) = ns
  | [] => rfl
  | n :: ns => by rw [List.map_cons, strsOf, strsOf_map ns]
theorem memS_of {ns : List Str} {s : Str} (h : s ∈ ns) : memS ns (.str s) = true := by
  exact (any_str s ns).trans (decide_eq_true h)
theorem good_isStep {ns : List Str} {s : Str × Str} (h : GoodS ns s) : isStep ns (stepD s) = true := by
  show (memS ("here" :: ns) (.str s.1) && (memS ("here" :: ns) (.str s.2) || memS ["new", "nothing"] (.str s.2))) = true
  rw [Bool.and_eq_true, Bool.or_eq_true]
  refine ⟨memS_of (by rcases h.1 with e | e; · rw [e]; exact List.mem_cons_self
                      · exact List.mem_cons_of_mem _ e), ?_⟩
  rcases h.2 with e | e | e | e
  · exact .inr (memS_of (by rw [e]; exact List.mem_cons_self))
  · exact .inl (memS_of (by rw [e]; exact List.mem_cons_self))
  · exact .inr (memS_of (by rw [e]; exact List.mem_cons_of_mem _ List.mem_cons_self))
  · exact .inl (memS_of (List.mem_cons_of_mem _ e))
theorem good_isTest {ns : List Str} {s : Str × Str × Bool} (h : GoodT ns s) : isTest ns (testD s) = true := by
  show (memS ("here" :: "new" :: ns) (.str s.1) && ((memS ("here" :: "new" :: ns) (.str s.2.1) || PyData.eqv (.str s.2.1) (.str "nothing")) && true)) = true
  rw [Bool.and_true, Bool.and_eq_true, Bool.or_eq_true]
  refine ⟨memS_of (by rcases h.1 with e | e | e; · rw [e]; exact List.mem_cons_self
                      · rw [e]; exact List.mem_cons_of_mem _ List.mem_cons_self
                      · exact List.mem_cons_of_mem _ (List.mem_cons_of_mem _ e)), ?_⟩
  rcases h.2 with e | e | e | e
  · exact .inl (memS_of (by rw [e]; exact List.mem_cons_of_mem _ List.mem_cons_self))
  · exact .inl (memS_of (by rw [e]; exact List.mem_cons_self))
  · refine .inr ?_
    rw [e, PyData.eqv]
    exact beq_self_eq_true _
  · exact .inl (memS_of (List.mem_cons_of_mem _ (List.mem_cons_of_mem _ e)))
theorem good_isSteps {ns : List Str} {l : List (Str × Str)} (h : l.length ≤ 4 ∧ ∀ s ∈ l, GoodS ns s) : isSteps ns (stepsD l) = true := by
  show (decide ((l.map stepD).length ≤ 4) && (l.map stepD).all (isStep ns)) = true
  rw [Bool.and_eq_true, decide_eq_true_eq, List.length_map, List.all_eq_true]
  refine ⟨h.1, fun d z => ?_⟩
  obtain ⟨s, hs, rfl⟩ := List.mem_map.mp z
  exact good_isStep (h.2 s hs)
theorem good_isTests {ns : List Str} {l : List (Str × Str × Bool)} (h : l.length ≤ 4 ∧ ∀ s ∈ l, GoodT ns s) : isTests ns (testsD l) = true := by
  show (decide ((l.map testD).length ≤ 4) && (l.map testD).all (isTest ns)) = true
  rw [Bool.and_eq_true, decide_eq_true_eq, List.length_map, List.all_eq_true]
  refine ⟨h.1, fun d z => ?_⟩
  obtain ⟨s, hs, rfl⟩ := List.mem_map.mp z
  exact good_isTest (h.2 s hs)
theorem good_isLine {ns : List Str} {l : Ln} (h : GoodL ns l) : isLine ns (lnD l) = true := by
  obtain ⟨t, s, k⟩ := l
  have ht := good_isTests h.tests
  have hs := good_isSteps h.steps
  cases k with
  | none =>
    show ((decide ([stepsD s].length = 1) || decide ([stepsD s].length = 2)) && (isTests ns (testsD t) && [stepsD s].all (isSteps ns))) = true
    rw [show isTests ns (testsD t) = true from ht]
    simp only [List.all_cons, List.all_nil, show isSteps ns (stepsD s) = true from hs]
    rfl
  | some k =>
    have hk := good_isSteps (h.keep k rfl)
    show ((decide ([stepsD s, stepsD k].length = 1) || decide ([stepsD s, stepsD k].length = 2)) && (isTests ns (testsD t) && [stepsD s, stepsD k].all (isSteps ns))) = true
    rw [show isTests ns (testsD t) = true from ht]
    simp only [List.all_cons, List.all_nil, show isSteps ns (stepsD s) = true from hs, hk]
    rfl
theorem VRule.noBad {ns : List Str} {ls : List Ln} (h : VRule ns ls) : firstBad ns (ls.map lnD) = none := by
  refine find_none_to _ fun j hj => ?_
  rw [badAt, List.getElem?_map]
  cases e : ls[j]? with
  | none => rfl
  | some z =>
    show (!isLine ns (lnD z) || (decide (j + 1 = (ls.map lnD).length) && notNil (lnD z))) = false
    rw [good_isLine (h.good z (List.mem_of_getElem? e)), Bool.not_true, Bool.false_or, Bool.and_eq_false_iff, List.length_map]
    by_cases q : j + 1 = ls.length
    · refine .inr ?_
      have ez := h.last z (by rw [← e]; congr 1; omega)
      show (!PyData.eqv (testsD z.tests) (.tuple [])) = false
      rw [ez]
      show (!PyData.eqv (.tuple []) (.tuple [])) = false
      rw [eqv_tnil]
      rfl
    · exact .inl (decide_eq_false q)
theorem goodL_more {ns ms : List Str} {l : Ln} (h : GoodL ns l) (k : ∀ s ∈ ns, s ∈ ms) : GoodL ms l :=
  ⟨⟨h.tests.1, fun t z => ⟨(h.tests.2 t z).1.imp id (Or.imp id (k _)), (h.tests.2 t z).2.imp id (Or.imp id (Or.imp id (k _)))⟩⟩,
   ⟨h.steps.1, fun t z => ⟨(h.steps.2 t z).1.imp id (k _), (h.steps.2 t z).2.imp id (Or.imp id (Or.imp id (k _)))⟩⟩,
   fun q z => ⟨(h.keep q z).1, fun t z' => ⟨((h.keep q z).2 t z').1.imp id (k _), ((h.keep q z).2 t z').2.imp id (Or.imp id (Or.imp id (k _)))⟩⟩⟩
def nmOk (ns : List Str) : Bool := regsD (ns.map .str) && (regsD (ns.reverse.map .str) && ((decide (ns.length ≤ 1) || !decide (ns.reverse = ns)) && (decide (3 ≤ ns.length) || regsD ((ns ++ (["more"] : List Str)).map .str))))
theorem nm_all : (planNames.all fun ns => planWords.all fun wd => nmOk (ns.map (ren wd))) = true := by decide +kernel
theorem PlanOk.nm {ns : List Str} {ls : List Ln} (h : PlanOk ns ls) : nmOk ns = true := by
  obtain ⟨n0, h0, wd, hw, rfl⟩ := h.names
  exact List.all_eq_true.mp (List.all_eq_true.mp nm_all n0 h0) wd hw
theorem PlanOk.nms {ns : List Str} {ls : List Ln} (h : PlanOk ns ls) : regsD (ns.map .str) = true ∧ regsD (ns.reverse.map .str) = true ∧ (1 < ns.length → ns.reverse ≠ ns) ∧ (ns.length < 3 → regsD ((ns ++ (["more"] : List Str)).map .str) = true) := by
  have := h.nm
  rw [nmOk, Bool.and_eq_true, Bool.and_eq_true, Bool.and_eq_true, Bool.or_eq_true, Bool.or_eq_true, decide_eq_true_eq, decide_eq_true_eq, Bool.not_eq_true', decide_eq_false_iff_not] at this
  obtain ⟨a, b, c, d⟩ := this
  exact ⟨a, b, fun q => c.resolve_left (by omega), fun q => d.resolve_left (by omega)⟩
theorem PlanOk.v {ns : List Str} {ls : List Ln} (h : PlanOk ns ls) : VRule ns ls := by
  refine ⟨h.nms.1, ⟨h.few.1, Nat.le_trans h.few.2 (by decide)⟩, h.good, fun z hz => ?_⟩
  obtain ⟨is, e, rfl, he⟩ := h.last
  rw [List.length_append, List.length_singleton, Nat.add_sub_cancel, List.getElem?_append_right (Nat.le_refl _), Nat.sub_self] at hz
  cases hz
  exact he
theorem VRule.lastAt {ns : List Str} {ls : List Ln} {j : Nat} {z : Ln} (h : VRule ns ls) (e : ls[j]? = some z) (l : j + 1 = ls.length) : z.tests = [] :=
  h.last z (by rw [← e]; congr 1; omega)
/-- one line changed -/
theorem VRule.put {ns : List Str} {ls : List Ln} {j : Nat} {z z' : Ln} (h : VRule ns ls) (e : ls[j]? = some z) (g : GoodL ns z') (t : z.tests = [] → z'.tests = []) : VRule ns (ls.set j z') := by
  refine ⟨h.regs, by rw [List.length_set]; exact h.few, fun y hy => ?_, fun y hy => ?_⟩
  · rcases List.mem_or_eq_of_mem_set hy with q | q
    · exact h.good y q
    · rw [q]; exact g
  · rw [List.length_set, List.getElem?_set] at hy
    split at hy
    · rename_i q
      split at hy
      · cases hy
        exact t (h.last z (by rw [← q]; exact e))
      · cases hy
    · exact h.last y hy
/-- two lines changed about -/
theorem VRule.swap {ns : List Str} {ls : List Ln} {j : Nat} {z z2 : Ln} (h : VRule ns ls) (e : ls[j]? = some z) (e2 : ls[j + 1]? = some z2) (hj : j + 2 < ls.length) : VRule ns (ls.take j ++ [z2, z] ++ ls.drop (j + 2)) := by
  have ll : (ls.take j ++ [z2, z] ++ ls.drop (j + 2)).length = ls.length := by
    simp only [List.length_append, List.length_take, List.length_drop, List.length_cons, List.length_nil]
    omega
  refine ⟨h.regs, by rw [ll]; exact h.few, fun y hy => ?_, fun y hy => ?_⟩
  · rcases List.mem_append.mp hy with q | q
    · rcases List.mem_append.mp q with q | q
      · exact h.good y (List.mem_of_mem_take q)
      · simp only [List.mem_cons, List.not_mem_nil, or_false] at q
        rcases q with rfl | rfl
        · exact h.good _ (List.mem_of_getElem? e2)
        · exact h.good _ (List.mem_of_getElem? e)
    · exact h.good y (List.mem_of_mem_drop q)
  · have l1 : (ls.take j ++ [z2, z]).length = j + 2 := by
      simp only [List.length_append, List.length_take, List.length_cons, List.length_nil]
      omega
    rw [ll, List.getElem?_append_right (by omega), l1, List.getElem?_drop] at hy
    exact h.last y (by rw [← hy]; congr 1; omega)
theorem swap_ne {ls : List Ln} {j : Nat} {z z2 : Ln} (e : ls[j]? = some z) (n : z2 ≠ z) : ls.take j ++ [z2, z] ++ ls.drop (j + 2) ≠ ls := by
  intro q
  have hj : j < ls.length := by
    rcases Nat.lt_or_ge j ls.length with a | a
    · exact a
    · rw [List.getElem?_eq_none a] at e
      cases e
  have l : (ls.take j).length = j := by rw [List.length_take]; omega
  have := congrArg (·[j]?) q
  simp only [e] at this
  rw [List.append_assoc, List.getElem?_append_right (by omega), l, Nat.sub_self] at this
  injection this with this
  exact n this
theorem put_ne {ls : List Ln} {j : Nat} {z z' : Ln} (e : ls[j]? = some z) (n : z' ≠ z) : ls.set j z' ≠ ls := by
  intro q
  have := congrArg (·[j]?) q
  simp only [e, List.getElem?_set] at this
  have hj : j < ls.length := by
    rcases Nat.lt_or_ge j ls.length with a | a
    · exact a
    · rw [List.getElem?_eq_none a] at e
      cases e
  simp [hj] at this
  exact n this
theorem set_cut {ls : List Ln} {j : Nat} (z' : Ln) (h : j < ls.length) : ls.take j ++ [z'] ++ ls.drop (j + 1) = ls.set j z' := by
  rw [List.set_eq_take_append_cons_drop, if_pos h, List.append_assoc]
  rfl
theorem goodL_lay {ns : List Str} {l : Ln} (o : OkN ns) (h : GoodL ns l) : LayL (lnD l) := .of ((h.lay (n := 0) o).mono (by decide))
end La
set_option Elab.async false
set_option linter.all false
set_option maxRecDepth 100000
set_option maxHeartbeats 4000000
namespace La
open PySem PySem.Spec PyProof.Rows L2 SM
theorem lines_map_inj {a b : List Ln} (h : a.map lnD = b.map lnD) : a = b := map_inj (fun _ _ => line_inj) h
/-- Rule(..) of what may be made -/
theorem make_rule {K : PySem.W.Frag} {H : Hp} {x dx : Addr} {vr vl : V} {dr dl : PyData} {Q : VK} {E : XK} {ns : List Str} {ls : List Ln} (hx : H x = some (.ins (He.ga K "Rule") dx [])) (hr : Dq K H vr dr) (hl : Dq K H vl dl) (v : VRule ns ls)
    (er : itemsOf dr = ns.map .str) (el : itemsOf dl = ls.map lnD) (cr : isRegs dr = true) (cl : linesIn dl = true) (k : ∀ H', Keep [x] H H' → RuleIs K H' x ns ls → Q .non H') : spMakeRule K [.ref x, vr, vl] H Q E := by
  have es : strsOf (itemsOf dr) = ns := by rw [er, strsOf_map]
  refine ⟨x, dx, vr, vl, dr, dl, rfl, hx, hr, hl, fun e he y q => ?_, fun d hd => ?_, fun c => ?_, fun _ c => ?_, fun _ _ i fb => ?_, fun _ _ _ H' ls' e _ kk r => ?_⟩
  · rw [er] at he
    obtain ⟨s, hs, rfl⟩ := List.mem_map.mp he
    cases q
    exact Nat.le_trans (v.okN.2.2 _ hs) (by decide)
  · rw [el] at hd
    obtain ⟨z, hz, rfl⟩ := List.mem_map.mp hd
    exact goodL_lay v.okN.2.1 (v.good z hz)
  · rw [cr] at c
    cases c
  · rw [cl] at c
    cases c
  · rw [es, el, v.noBad] at fb
    cases fb
  · rw [es] at r
    rw [el] at e
    rw [← lines_map_inj e] at r
    exact k H' kk r
theorem VRule.regs2 {ns : List Str} {ls : List Ln} (v : VRule ns ls) : isRegs (.list (ns.map .str)) = true ∧ isRegs (.tuple (ns.map .str)) = true ∧ linesIn (.list (ls.map lnD)) = true ∧ linesIn (.tuple (ls.map lnD)) = true := by
  have h : (decide (1 ≤ (ls.map lnD).length) && decide ((ls.map lnD).length ≤ 8)) = true := by
    rw [List.length_map, Bool.and_eq_true, decide_eq_true_eq, decide_eq_true_eq]
    exact v.few
  exact ⟨v.regs, v.regs, h, h⟩
/-- a rule made of a plan -/
def spRuleOf (K : PySem.W.Frag) : Sp := fun vs H Q _ => ∃ (v : V) (ns : List Str) (ls : List Ln), vs = [v] ∧ Dt K H v (planD ns ls) ∧ VRule ns ls ∧ ∀ x H', Keep [] H H' → H x = none → RuleIs K H' x ns ls → Q (.ref x) H'
section
variable {P : Program} {w : World} {K : PySem.W.Frag} {mg : Str → Option Value} {base : Heap}
abbrev s__law_rule : Stmt := (top 42)
abbrev N__law_rule : List Str := ["plan"]
abbrev P__law_rule : List Str := ["plan"]
theorem sc__law_rule : FnScope N__law_rule P__law_rule (defScope s__law_rule) := ⟨rfl, rfl, rfl, by decide +kernel, rfl, by decide +kernel, by decide +kernel⟩
theorem D_law_rule (W : Cw fas fns K mg) (IR : ∃ fd, FnOk P w K mg base (CX P w) 5 (He.ma K (He.ga K "Rule") "__init__") fd ["self", "registers", "lines"] (spMakeRule K) ∧ Binds K fd ["self", "registers", "lines"] []) : DefOk P w K mg base CX0 7 "_law_rule" P__law_rule (spRuleOf K) := by
  refine DefOk.of W 33 35 (st := s__law_rule) rfl rfl sc__law_rule (fun _ _ _ _ _ _ us hl => match us, hl with | [_], _ => rfl) (fun vs H Q E h => ?_) (fun cdv A outer s H vs Q E hr h => ?_)
  · obtain ⟨v, ns, ls, rfl, _⟩ := h
    rfl
  · obtain ⟨v, ns, ls, rfl, hp, hv, k⟩ := h
    obtain ⟨fdR, FR, bR⟩ := IR
    have MR : Mk K (He.ga K "Rule") (He.ma K (He.ga K "Rule") "__init__") := He.mkr_ok (W.fact 61)
    have gR := W.glo 8
    refine ⟨_, PSs.nox (pss_one (ps_ret (pe_make MR FR (hr.mono (by decide)) (by rfl) gR bR .nil (passes_call (W := fun _ _ _ _ => False) (E := E0) takes0 (fun _ _ _ _ h => h)) (pa_cons (pe_callTy call_list_of (by rfl) (W.fre 47) (by decide +kernel) (pa_cons (pe_ix ix_seq (pv 0) pe_int (fun _ _ => rfl)) pa_nil)) (pa_cons (pe_callTy call_list_of (by rfl) (W.fre 47) (by decide +kernel) (pa_cons (pe_ix ix_seq (pv 0) pe_int (fun _ _ => rfl)) pa_nil)) pa_nil))))), ?_⟩
    have X0 : LtH K (tOp (rIx K) (tVar 0) (tC (.int 0))) [some v] H (.tuple (ns.map .str)) := LtH.ix (n := 0) (.var rfl hp) (fun H1 Q q => q) rfl
    have X1 : LtH K (tOp (rIx K) (tVar 0) (tC (.int 1))) [some v] H (.tuple (linesD ls)) := LtH.ix (n := 1) (.var rfl hp) (fun H1 Q q => q) rfl
    refine rd_ret (show tCons _ _ _ _ _ from rd_cons (rd_cb1 (X0 H Keep.refl _ fun v0 H1 k1 d0 => ?_)))
    obtain ⟨a0, xs0, rfl, h0, ds0⟩ := d0.items
    refine ⟨a0, xs0, rfl, .inr h0, fun l0 hl0 => ?_⟩
    have kl0 : Keep [] H1 (upd H1 l0 (.lst xs0)) := Keep.new hl0
    have k01 := k1.trans kl0
    refine rd_cons (rd_cb1 (X1 _ k01 _ fun v1 H2 k2 d1 => ?_))
    obtain ⟨a1, xs1, rfl, h1, ds1⟩ := d1.items
    refine ⟨a1, xs1, rfl, .inr h1, fun l1 hl1 => ?_⟩
    have kl1 : Keep [] H2 (upd H2 l1 (.lst xs1)) := Keep.new hl1
    have k02 := k01.trans (k2.trans kl1)
    show ∀ x dx, _
    intro x dx nx ndx ne
    have ka : Keep [] (upd H2 l1 (.lst xs1)) (upd (upd H2 l1 (.lst xs1)) dx (.own x)) := Keep.new ndx
    have kb : Keep [] (upd (upd H2 l1 (.lst xs1)) dx (.own x)) (upd (upd (upd H2 l1 (.lst xs1)) dx (.own x)) x (.ins (He.ga K "Rule") dx [])) := Keep.new (by rw [upd_ne ne.symm]; exact nx)
    have kab := ka.trans kb
    have kl1ab := kl1.trans kab
    refine make_rule upd_same (dr := .list (ns.map .str)) (dl := .list (ls.map lnD)) ?_ ?_ hv rfl rfl hv.regs2.1 hv.regs2.2.2.1 fun H' k' ri => ⟨rfl, ?_⟩
    · exact .lst (.inl (.inl ((k2.trans kl1ab).to upd_same))) ((ds0.k0 (kl0.trans (k2.trans kl1ab))).dq)
    · exact .lst (.inl (.inl (kab.to upd_same))) ((ds1.k0 kl1ab).dq)
    · exact k x H' (k02.trans (kab.offNew k' nx)) (k02.free (by simp) nx) ri
end
end La
set_option Elab.async false
set_option linter.all false
set_option maxRecDepth 100000
set_option maxHeartbeats 4000000
namespace La
open PySem PySem.Spec PyProof.Rows L2 SM
/-- what the run tells of a class with an own __eq__ -/
structure ClsF (K : PySem.W.Frag) (c : Str) : Prop where
  ty : ∀ {H : Hp} {a dx : Addr} {fs : List (Str × V)}, Cls K (He.ga K c) → H a = some (.ins (He.ga K c) dx fs) → TyX K H (.ref a) (.ref (He.ga K c))
  mro : PySem.W.mroIn K (He.ga K c) (.type "object") = some true
  at_ : PySem.W.findIn K (.ref (He.ga K c)) "__eq__" = some (some (.ref (He.ma K (He.ga K c) "__eq__")))
  fn : PySem.W.isFn K (.ref (He.ma K (He.ga K c) "__eq__")) = true
  kit : ∀ n ∈ tys02, PySem.W.kitOne K (.type n) (.ref (He.ga K c)) = some false
  nf : ∀ n ∈ tys02, PySem.W.notFirst K (He.ga K c) (.type n) = true
theorem ClsF.of {K : PySem.W.Frag} {c : Str} (h : clsM K c = true) : ClsF K c := by
  obtain ⟨h1, h2⟩ := He.ba (show ((_ && (_ && (_ && _))) && ((_ && _) && tys02.all _)) = true from h)
  obtain ⟨a, h1⟩ := He.ba h1
  obtain ⟨b, h1⟩ := He.ba h1
  obtain ⟨d, e⟩ := He.ba h1
  obtain ⟨f, g⟩ := He.ba h2
  obtain ⟨f1, f2⟩ := He.ba f
  refine ⟨fun CR ea => .base (.ins ea CR (He.eqO_ok a) (He.eqO_ok b) (eq_of_beq d) (eq_of_beq e)), eq_of_beq e, He.eqO_ok f1, f2, fun n hn => ?_, fun n hn => ?_⟩
  · obtain ⟨z, _⟩ := He.ba (List.all_eq_true.mp g n hn)
    exact eq_of_beq z
  · obtain ⟨_, z⟩ := He.ba (List.all_eq_true.mp g n hn)
    unfold PySem.W.notFirst
    rw [z, Bool.or_true]
theorem lay_lines {ns : List Str} {ls : List Ln} (v : VRule ns ls) : SeqAt.shaped (.tuple (linesD ls)) = true := by
  refine (Lay.tuple (n := 3) fun d z => ?_).shaped (by decide)
  obtain ⟨l, hl, rfl⟩ := List.mem_map.mp z
  exact (v.good l hl).lay (n := 0) v.okN.2.1
/-- Rule.__eq__ -/
def spRuleEq (K : PySem.W.Frag) : Sp := fun vs H Q _ => ∃ (x : Addr) (v : V) (ns : List Str) (ls : List Ln), vs = [.ref x, v] ∧ RuleIs K H x ns ls ∧ VRule ns ls ∧
  ((∃ (y : Addr) (ms : List Str) (ks : List Ln), v = .ref y ∧ RuleIs K H y ms ks ∧ VRule ms ks ∧ ∀ b, (b = true ↔ ns = ms ∧ ls = ks) → Q (.bl b) H) ∨
   (∃ ty, TyX K H v ty ∧ PySem.W.kitOne K ty (.ref (He.ga K "Rule")) = some false ∧ Q (.bl false) H))
section
variable {P : Program} {w : World} {K : PySem.W.Frag} {mg : Str → Option Value} {base : Heap}
abbrev s_Rule___eq__ : Stmt := (inClass (top 13) 6)
abbrev N_Rule___eq__ : List Str := ["self", "other"]
abbrev P_Rule___eq__ : List Str := ["self", "other"]
theorem sc_Rule___eq__ : FnScope N_Rule___eq__ P_Rule___eq__ (defScope s_Rule___eq__) := ⟨rfl, rfl, rfl, by decide +kernel, rfl, by decide +kernel, by decide +kernel⟩
theorem I_RuleEq (W : Cw fas fns K mg) (cR : ClsF K "Rule") :
    ∃ fd, FnOk P w K mg base CX0 1 (He.ma K (He.ga K "Rule") "__eq__") fd ["self", "other"] (spRuleEq K) ∧ Binds K fd ["self", "other"] [] := by
  obtain ⟨fd, F⟩ := W.says.def_ 6 (d := d_Rule___eq__) rfl
  refine ⟨fd, FunD.ok F sc_Rule___eq__ (fun vs H Q E h => ?_) (fun cdv A outer s H vs Q E hr h => ?_), FunD.bindsN F (fun _ _ _ _ _ _ us hl => match us, hl with | [_, _], _ => rfl)⟩
  · obtain ⟨x, v, ns, ls, rfl, _⟩ := h
    rfl
  · obtain ⟨x, v, ns, ls, rfl, hx, vx, h⟩ := h
    have CR : Cls K (He.ga K "Rule") := He.cls_ok (W.fact 57)
    have N1 : NoAttr K (He.ga K "Rule") "_registers" := He.noat_ok (W.fact 58)
    have N2 : NoAttr K (He.ga K "Rule") "_lines" := He.noat_ok (W.fact 59)
    have gR := W.glo 8
    refine ⟨_, PSs.nox (pss_one (ps_ret (pe_and (pe_callB call_isi (by rfl) (W.fre 45) (by decide +kernel) (pa_cons (pv 1) (pa_cons (pe_glob (v := .ref _) (by rfl) (W.glo 8) rfl) pa_nil))) (pe_and (pe_cmpR (op_eqD hr.units) (pe_fld (pv 0) rfl) (pe_fld (pv 1) rfl) (nomark _)) (pe_one (pe_cmpR (op_eqD hr.units) (pe_fld (pv 0) rfl) (pe_fld (pv 1) rfl) (nomark _))))))), ?_⟩
    rcases h with ⟨y, ms, ks, rfl, hy, vy, k⟩ | ⟨ty, ht, hk, k⟩
    · obtain ⟨dx, t, l, p, xs, ex, st, sl, dl⟩ := hx
      obtain ⟨dy, t', l', p', ys, ey, st', sl', dl'⟩ := hy
      refine ⟨_, rfl, _, _, _, _, true, rfl, .own _, cR.ty CR ey, ?_, true, rfl, iteT ?_⟩
      · unfold PySem.W.kitOne
        rw [if_pos (beq_self_eq_true _)]
      · refine ⟨_, rfl, x, _, dx, _, _, rfl, ex, CR, N1, rfl, _, rfl, y, _, dy, _, _, rfl, ey, CR, N1, rfl, .tuple (ns.map .str), .tuple (ms.map .str), .tup st (DtAll.strs ns).dp, .tup st' (DtAll.strs ms).dp, shaped_strs vx.okN.2.1, shaped_strs vy.okN.2.1, _, rfl, ?_⟩
        have e1 := (pl_names ns).eqv (pl_names ms)
        refine ite2 (fun h => ?_) (fun h => ?_)
        · have en := names_inj (e1.mp h)
          refine ⟨_, rfl, x, _, dx, _, _, rfl, ex, CR, N2, rfl, _, rfl, y, _, dy, _, _, rfl, ey, CR, N2, rfl, .tuple (linesD ls), .tuple (linesD ks), .tup sl dl.dp, .tup sl' dl'.dp, lay_lines vx, lay_lines vy, k _ ?_⟩
          rw [(pl_lines ls).eqv (pl_lines ks)]
          exact ⟨fun q => ⟨en, lines_inj q⟩, fun q => by rw [q.2]⟩
        · refine k _ ⟨fun q => (by cases q), fun q => absurd ?_ h⟩
          rw [q.1]
          exact ((pl_names ms).eqv (pl_names ms)).mpr rfl
    · exact ⟨_, rfl, _, _, _, _, false, rfl, .own _, ht, hk, false, rfl, iteF k⟩
end
end La
set_option Elab.async false
set_option linter.all false
set_option maxRecDepth 100000
set_option maxHeartbeats 4000000
namespace La
open PySem PySem.Spec PyProof.Rows L2 SM
/-- a getter that hands out what stands in a slot -/
def spSlot (K : PySem.W.Frag) (f : Addr → Addr → V) : Sp := fun vs H Q _ => ∃ (x dx t l y : Addr), vs = [.ref x] ∧ H x = some (.ins (He.ga K "Rule") dx (ruleFs t l y)) ∧ Q (f t l) H
section
variable {P : Program} {w : World} {K : PySem.W.Frag} {mg : Str → Option Value} {base : Heap}
abbrev s_Rule_registers : Stmt := (inClass (top 13) 1)
abbrev N_Rule_registers : List Str := ["self"]
abbrev P_Rule_registers : List Str := ["self"]
theorem sc_Rule_registers : FnScope N_Rule_registers P_Rule_registers (defScope s_Rule_registers) := ⟨rfl, rfl, rfl, by decide +kernel, rfl, by decide +kernel, by decide +kernel⟩
theorem I_registers (PP : PropAt K q_Rule_registers) (W : Cw fas fns K mg) :
    ∃ fd, FnOk P w K mg base CX0 1 (pga K "Rule" "registers") fd ["self"] (spSlot K fun t _ => .ref t) ∧ Binds K fd ["self"] [] := by
  obtain ⟨fd, F⟩ := PP.fn
  refine ⟨fd, FunD.ok F sc_Rule_registers (fun vs H Q E h => ?_) (fun cdv A outer s H vs Q E hr h => ?_), FunD.bindsN F (fun _ _ _ _ _ _ us hl => match us, hl with | [_], _ => rfl)⟩
  · obtain ⟨x, dx, t, l, y, rfl, _⟩ := h
    rfl
  · obtain ⟨x, dx, t, l, y, rfl, hx, k⟩ := h
    have CR : Cls K (He.ga K "Rule") := He.cls_ok (W.fact 57)
    have N1 : NoAttr K (He.ga K "Rule") "_registers" := He.noat_ok (W.fact 58)
    refine ⟨_, PSs.nox (pss_one (ps_ret (pe_fld (pv 0) rfl))), ?_⟩
    exact ⟨_, rfl, x, _, dx, _, _, rfl, hx, CR, N1, rfl, k⟩
end
end La
set_option Elab.async false
set_option linter.all false
set_option maxRecDepth 100000
set_option maxHeartbeats 4000000
namespace La
open PySem PySem.Spec PyProof.Rows L2 SM
theorem big {n : Nat} (h : n ≤ 10000) : n + 2 ≤ sizeLine := by
  have e : sizeLine = 2 ^ 24 := by decide
  rw [e]
  omega
theorem ne0 (s : Str) (h : (s.length == 0) = false := by decide +kernel) : (s.length == 0) = false := h
theorem yesI {n m : Int} (e : n = m) {A B : Prop} (a : A) : if decide (V.int n = V.int m) = true then A else B := by
  rw [e, decide_eq_true rfl]
  exact iteT a
theorem noI {n m : Int} (e : n ≠ m) {A B : Prop} (b : B) : if decide (V.int n = V.int m) = true then A else B := by
  rw [decide_eq_false fun z => e (V.int.inj z)]
  exact iteF b
theorem yesS {n m : Str} (e : n = m) {A B : Prop} (a : A) : if decide (V.str n = V.str m) = true then A else B := by
  rw [e, decide_eq_true rfl]
  exact iteT a
theorem noS {n m : Str} (e : n ≠ m) {A B : Prop} (b : B) : if decide (V.str n = V.str m) = true then A else B := by
  rw [decide_eq_false fun z => e (V.str.inj z)]
  exact iteF b
def spReadStep (K : PySem.W.Frag) : Sp := fun vs H Q _ => ∃ s, vs = [.str (stepT s)] ∧ StepOk s ∧ ∀ v H', Keep [] H H' → Dt K H' v (stepD s) → Q v H'
def spReadTest (K : PySem.W.Frag) : Sp := fun vs H Q _ => ∃ s, vs = [.str (testT s)] ∧ TestOk s ∧ ∀ v H', Keep [] H H' → Dt K H' v (testD s) → Q v H'
section
variable {P : Program} {w : World} {K : PySem.W.Frag} {mg : Str → Option Value} {base : Heap}
abbrev s_read_step : Stmt := (top 31)
abbrev N_read_step : List Str := ["part", "words"]
abbrev P_read_step : List Str := ["part"]
theorem sc_read_step : FnScope N_read_step P_read_step (defScope s_read_step) := ⟨rfl, rfl, rfl, by decide +kernel, rfl, by decide +kernel, by decide +kernel⟩
theorem Dread_step (W : Cw fas fns K mg) : DefOk P w K mg base CX0 1 "read_step" P_read_step (spReadStep K) := by
  refine DefOk.of W 23 25 (st := s_read_step) rfl rfl sc_read_step (fun _ _ _ _ _ _ us hl => match us, hl with | [_], _ => rfl) (fun vs H Q E h => ?_) (fun cdv A outer s H vs Q E hr h => ?_)
  · obtain ⟨s, rfl, _⟩ := h
    rfl
  · obtain ⟨st, rfl, hs, k⟩ := h
    refine ⟨_, PSs.nox (pss_cons (ps_set (i := 1) sc_read_step.nd rfl (by first | exact Or.inl rfl | exact Or.inr rfl) (pe_split (pv 0) pe_str)) (pss_one (ps_ret (pe_ifExp (PW.pt (pw_and (pt_cmpR op_eq (pe_callB call_len_seq (by rfl) (W.fre 46) (by decide +kernel) (pa_cons (pv 1) pa_nil)) pe_int (nomark _)) (pw_and1 (pt_cmpR op_eq (pe_ix ix_seq (pv 1) pe_int (fun _ _ => rfl)) pe_str (nomark _))))) (pe_tup (pa_cons (pe_ix ix_seq (pv 1) pe_int (fun _ _ => rfl)) (pa_cons (pe_ix ix_seq (pv 1) pe_int (fun _ _ => rfl)) pa_nil))) (pe_tup pa_nil))))), ?_⟩
    refine ⟨_, rfl, ⟨_, rfl⟩, stepT st, " ", rfl, rfl, ne0 _, big (Nat.le_trans (step_len hs) (by decide)), ?_⟩
    rw [split_step hs]
    intro p hp
    have kp : Keep [] H (upd H p (.lst (([st.1, "from", st.2] : List Str).map V.str))) := Keep.new hp
    have ep : upd H p (.lst (([st.1, "from", st.2] : List Str).map V.str)) p = some (.lst [.str st.1, .str "from", .str st.2]) := upd_same
    generalize upd H p (.lst (([st.1, "from", st.2] : List Str).map V.str)) = H1 at kp ep ⊢
    have ix : ∀ (i : Int) (v : V) {Q' : VK}, atI [V.str st.1, .str "from", .str st.2] i = some v → Q' v H1 → rIx K (.ref p) (.int i) H1 Q' := fun i v Q' e q => .inl ⟨p, _, i, v, rfl, rfl, SqL.of ep, e, q⟩
    refine ⟨_, rfl, p, _, rfl, .inl (SqL.of ep), rfl, _, rfl, yesI rfl ?_⟩
    refine ⟨_, rfl, ix 1 _ (at1 _ _ _) ⟨rfl, _, rfl, yesS rfl ?_⟩⟩
    refine ⟨_, rfl, ix 0 _ (at0 _ _) ⟨_, rfl, ix 2 _ (at_of (j := 2) rfl rfl) ⟨(by show 2 ≤ sizeLine; decide), fun q hq => ?_⟩⟩⟩
    exact k _ _ (kp.trans (Keep.new hq)) (.tup (SqT.of upd_same) (.cons (.str _) (.cons (.str _) .nil)))
abbrev s_read_test : Stmt := (top 29)
abbrev N_read_test : List Str := ["part", "words"]
abbrev P_read_test : List Str := ["part"]
theorem sc_read_test : FnScope N_read_test P_read_test (defScope s_read_test) := ⟨rfl, rfl, rfl, by decide +kernel, rfl, by decide +kernel, by decide +kernel⟩
theorem Dread_test (W : Cw fas fns K mg) : DefOk P w K mg base CX0 1 "read_test" P_read_test (spReadTest K) := by
  refine DefOk.of W 21 23 (st := s_read_test) rfl rfl sc_read_test (fun _ _ _ _ _ _ us hl => match us, hl with | [_], _ => rfl) (fun vs H Q E h => ?_) (fun cdv A outer s H vs Q E hr h => ?_)
  · obtain ⟨s, rfl, _⟩ := h
    rfl
  · obtain ⟨st, rfl, hs, k⟩ := h
    refine ⟨_, PSs.nox (pss_cons (ps_set (i := 1) sc_read_test.nd rfl (by first | exact Or.inl rfl | exact Or.inr rfl) (pe_split (pv 0) pe_str)) (pss_cons (ps_if (PW.pt (pw_and (pt_cmpR op_eq (pe_callB call_len_seq (by rfl) (W.fre 46) (by decide +kernel) (pa_cons (pv 1) pa_nil)) pe_int (nomark _)) (pw_and1 (pt_cmpR (op_eqD hr.units) (pe_slice sl_list (pv 1) (po_some pe_int) (po_some pe_int)) (pe_lst (pa_cons pe_str (pa_cons pe_str pa_nil))) (nomark _))))) (pss_one (ps_ret (pe_tup (pa_cons (pe_ix ix_seq (pv 1) pe_int (fun _ _ => rfl)) (pa_cons (pe_ix ix_seq (pv 1) pe_int (fun _ _ => rfl)) (pa_cons pe_bl pa_nil)))))) pss_nil) (pss_one (ps_ret (pe_ifExp (PW.pt (pw_and (pt_cmpR op_eq (pe_callB call_len_seq (by rfl) (W.fre 46) (by decide +kernel) (pa_cons (pv 1) pa_nil)) pe_int (nomark _)) (pw_and1 (pt_cmpR op_eq (pe_ix ix_seq (pv 1) pe_int (fun _ _ => rfl)) pe_str (nomark _))))) (pe_tup (pa_cons (pe_ix ix_seq (pv 1) pe_int (fun _ _ => rfl)) (pa_cons (pe_ix ix_seq (pv 1) pe_int (fun _ _ => rfl)) (pa_cons pe_bl pa_nil)))) (pe_tup pa_nil)))))), ?_⟩
    refine ⟨_, rfl, ⟨_, rfl⟩, testT st, " ", rfl, rfl, ne0 _, big (Nat.le_trans (test_len hs) (by decide)), ?_⟩
    rw [split_test hs]
    obtain ⟨s1, s2, b⟩ := st
    cases b with
    | true =>
      rw [if_pos rfl]
      intro p hp
      have kp : Keep [] H (upd H p (.lst (([s1, "is", s2] : List Str).map V.str))) := Keep.new hp
      have ep : upd H p (.lst (([s1, "is", s2] : List Str).map V.str)) p = some (.lst [.str s1, .str "is", .str s2]) := upd_same
      show _
      generalize upd H p (.lst (([s1, "is", s2] : List Str).map V.str)) = H1 at kp ep ⊢
      have ix : ∀ (i : Int) (v : V) {Q' : VK}, atI [V.str s1, .str "is", .str s2] i = some v → Q' v H1 → rIx K (.ref p) (.int i) H1 Q' := fun i v Q' e q => .inl ⟨p, _, i, v, rfl, rfl, SqL.of ep, e, q⟩
      refine ⟨_, rfl, p, _, rfl, .inl (SqL.of ep), rfl, _, rfl, noI (by show ((3 : Nat) : Int) ≠ 4; decide) ?_⟩
      refine iteF ?_
      refine ⟨_, rfl, p, _, rfl, .inl (SqL.of ep), rfl, _, rfl, yesI rfl ?_⟩
      refine ⟨_, rfl, ix 1 _ (at1 _ _ _) ⟨rfl, _, rfl, yesS rfl ?_⟩⟩
      refine ⟨_, rfl, ix 0 _ (at0 _ _) ⟨_, rfl, ix 2 _ (at_of (j := 2) rfl rfl) ⟨(by show 3 ≤ sizeLine; decide), fun q hq => ?_⟩⟩⟩
      exact k _ _ (kp.trans (Keep.new hq)) (.tup (SqT.of upd_same) (.cons (.str _) (.cons (.str _) (.cons (.bl _) .nil))))
    | false =>
      rw [if_neg Bool.false_ne_true]
      intro p hp
      have kp : Keep [] H (upd H p (.lst (([s1, "is", "not", s2] : List Str).map V.str))) := Keep.new hp
      have ep : upd H p (.lst (([s1, "is", "not", s2] : List Str).map V.str)) p = some (.lst [.str s1, .str "is", .str "not", .str s2]) := upd_same
      show _
      generalize upd H p (.lst (([s1, "is", "not", s2] : List Str).map V.str)) = H1 at kp ep ⊢
      refine ⟨_, rfl, p, _, rfl, .inl (SqL.of ep), rfl, _, rfl, yesI rfl ?_⟩
      refine ⟨_, rfl, 1, rfl, 3, rfl, p, _, rfl, SqL.of ep, fun q hq => ?_⟩
      have ec : cutV [V.str s1, .str "is", .str "not", .str s2] (some 1) (some 3) = [.str "is", .str "not"] := rfl
      rw [ec]
      have kq : Keep [] H1 (upd H1 q (.lst [.str "is", .str "not"])) := Keep.new hq
      have eq : upd H1 q (.lst [.str "is", .str "not"]) q = some (.lst [.str "is", .str "not"]) := upd_same
      generalize upd H1 q (.lst [V.str "is", .str "not"]) = H2 at kq eq ⊢
      refine ⟨(by show 2 ≤ sizeLine; decide), fun q2 hq2 => ?_⟩
      have kq2 : Keep [] H2 (upd H2 q2 (.lst [.str "is", .str "not"])) := Keep.new hq2
      have eq2 : upd H2 q2 (.lst [.str "is", .str "not"]) q2 = some (.lst [.str "is", .str "not"]) := upd_same
      generalize upd H2 q2 (.lst [V.str "is", .str "not"]) = H3 at kq2 eq2 ⊢
      have kk := kp.trans (kq.trans kq2)
      have ep3 := kq2.to (kq.to ep)
      have ix : ∀ (i : Int) (v : V) {Q' : VK}, atI [V.str s1, .str "is", .str "not", .str s2] i = some v → Q' v H3 → rIx K (.ref p) (.int i) H3 Q' := fun i v Q' e q => .inl ⟨p, _, i, v, rfl, rfl, SqL.of ep3, e, q⟩
      refine ⟨.list [.str "is", .str "not"], .list [.str "is", .str "not"], .lst (SqL.of (kq2.to eq)) (.cons (.str _) (.cons (.str _) .nil)), .lst (SqL.of eq2) (.cons (.str _) (.cons (.str _) .nil)), (by decide +kernel), (by decide +kernel), _, rfl, ?_⟩
      rw [show PyData.eqv (.list [.str "is", .str "not"]) (.list [.str "is", .str "not"]) = true by decide +kernel]
      refine iteT ⟨_, rfl, ix 0 _ (at0 _ _) ⟨_, rfl, ix 3 _ (at_of (j := 3) rfl rfl) ⟨(by show 3 ≤ sizeLine; decide), fun q3 hq3 => ?_⟩⟩⟩
      exact k _ _ (kk.trans (Keep.new hq3)) (.tup (SqT.of upd_same) (.cons (.str _) (.cons (.str _) (.cons (.bl _) .nil))))
end
end La
set_option Elab.async false
set_option linter.all false
set_option maxRecDepth 100000
set_option maxHeartbeats 4000000
namespace La
open PySem PySem.Spec PyProof.Rows L2 SM
def spStepsText (K : PySem.W.Frag) : Sp := fun vs H Q _ => ∃ v l, vs = [v] ∧ Dt K H v (stepsD l) ∧ l.length ≤ 4 ∧ (∀ s ∈ l, StepOk s) ∧ ∀ H', Keep [] H H' → Q (.str (stepsT l)) H'
def spTestsText (K : PySem.W.Frag) : Sp := fun vs H Q _ => ∃ v l, vs = [v] ∧ Dt K H v (testsD l) ∧ l.length ≤ 4 ∧ (∀ s ∈ l, TestOk s) ∧ ∀ H', Keep [] H H' → Q (.str (testsT l)) H'
theorem map_get {α β : Type} {f : α → β} {l : List α} {i : Nat} {d : β} (h : (l.map f)[i]? = some d) : ∃ a, l[i]? = some a ∧ d = f a := by
  rw [List.getElem?_map] at h
  cases e : l[i]? with
  | none =>
    rw [e] at h
    cases h
  | some a =>
    rw [e] at h
    exact ⟨a, rfl, (Option.some.inj h).symm⟩
theorem sum4 {ps : List Str} {m : Nat} (h : ∀ p ∈ ps, p.length ≤ m) (n : ps.length ≤ 10) (hm : m ≤ 1000) (y : Str) (hy : y.length ≤ 10) : (ps.map (·.length)).sum + ps.length * y.length ≤ 16777216 := by
  have a := sum_len h
  have b : ps.length * m ≤ 10 * 1000 := Nat.mul_le_mul n hm
  have c : ps.length * y.length ≤ 10 * 10 := Nat.mul_le_mul n hy
  omega
section
variable {P : Program} {w : World} {K : PySem.W.Frag} {mg : Str → Option Value} {base : Heap}
abbrev s_steps_text : Stmt := (top 27)
abbrev N_steps_text : List Str := ["steps", "target", "source"]
abbrev P_steps_text : List Str := ["steps"]
theorem sc_steps_text : FnScope N_steps_text P_steps_text (defScope s_steps_text) := ⟨rfl, rfl, rfl, by decide +kernel, rfl, by decide +kernel, by decide +kernel⟩
theorem Dsteps_text (W : Cw fas fns K mg) : DefOk P w K mg base CX0 1 "steps_text" P_steps_text (spStepsText K) := by
  refine DefOk.of W 19 21 (st := s_steps_text) rfl rfl sc_steps_text (fun _ _ _ _ _ _ us hl => match us, hl with | [_], _ => rfl) (fun vs H Q E h => ?_) (fun cdv A outer s H vs Q E hr h => ?_)
  · obtain ⟨v, l, rfl, _⟩ := h
    rfl
  · obtain ⟨v, l, rfl, dv, l4, ok, k⟩ := h
    refine ⟨_, PSs.nox (pss_one (ps_ret (pe_ifExp (pt_truth (pv 0) (by intro _; rfl)) (pe_join pe_str (pe_lc (own := [("target", 1), ("source", 2)]) (g := gTup K 2 ((gCons (gName 1) (gCons (gName 2) gNil)))) (tt := tYes) (by rfl) sc_steps_text.nd (pi_tup (pv 0)) (blkOk_by (own := [("target", 1), ("source", 2)]) (N := N_steps_text) (sc := defScope s_steps_text) (by decide +kernel)) (fun _ _ _ _ _ => pg_tup (by rfl) (pgs_cons (pg_name (i := 1) sc_steps_text.nd rfl (Or.inl rfl)) (pgs_cons (pg_name (i := 2) sc_steps_text.nd rfl (Or.inl rfl)) pgs_nil))) (fun _ _ _ _ _ => pts_nil) (fun _ _ _ _ _ => (pe_op op_add_str (pe_op op_add_str (pv 1) pe_str) (pv 2))))) pe_str))), ?_⟩
    obtain ⟨a, xs, rfl, sq, dx⟩ := dv.items
    have lx : xs.length = l.length := by rw [dx.length, List.length_map]
    refine ⟨_, rfl, _, .inr (.inl ⟨xs, sq, rfl⟩), ?_⟩
    cases l with
    | nil =>
      cases dx
      exact iteF (k H Keep.refl)
    | cons s0 l =>
      cases dx with
      | @cons x0 xr _ _ h0 dr =>
      refine iteT ⟨⟨_, rfl⟩, ?_⟩
      refine tupLs (K := K) (H0 := H) (xs := x0 :: xr) (rs := ((s0 :: l).map stepT).map .str) Keep.refl (by omega) (by rw [List.length_map, List.length_map, lx]) (fun H1 k1 Q1 q1 => ⟨_, rfl, q1 a H1 Keep.refl (seqT_keep k1 Soft.nil sq)⟩) (fun i x r H2 hx hr2 k2 Q' q' => ?_) fun D ys H' k' eD dy => ?_
      · obtain ⟨d, hd, dd⟩ := (DtAll.cons h0 dr).get hx
        obtain ⟨p', hp', rfl⟩ := map_get hr2
        obtain ⟨st, hst, rfl⟩ := map_get hp'
        obtain ⟨st', hst', rfl⟩ := map_get (show ((s0 :: l).map stepD)[i]? = some d from hd)
        rw [hst] at hst'
        cases hst'
        have okS := ok st (List.mem_of_getElem? hst)
        obtain ⟨p, us, rfl, sp, du⟩ := dd.items
        cases du with
        | @cons u0 r0 e0 f0 g0 du =>
        cases du with
        | @cons u1 r1 e1 f1 g1 du =>
        cases du
        cases g0
        cases g1
        refine ⟨p, _, rfl, seqT_keep k2 Soft.nil sp, rfl, _, _, rfl, _, _, rfl, rfl, rfl, ?_⟩
        have w1 := okS.1.few
        have w2 := okS.2.few
        have wf : (" from " : Str).length = 6 := by decide +kernel
        refine ⟨_, rfl, st.1, " from ", rfl, rfl, Nat.le_trans (show st.1.length + (" from " : Str).length ≤ 100 by omega) (by decide), _, rfl, st.1 ++ " from ", st.2, rfl, rfl, ?_, q' _ H2 Keep.refl (.str _)⟩
        have wl : (st.1 ++ (" from " : Str)).length = st.1.length + (" from " : Str).length := by rw [TL.len_tl, TL.tl_append, List.length_append, ← TL.len_tl, ← TL.len_tl]
        exact Nat.le_trans (show (st.1 ++ (" from " : Str)).length + st.2.length ≤ 100 by omega) (by decide)
      · rw [stepsT, if_neg (List.cons_ne_nil _ _)] at k
        rw [strs_of dy] at eD
        exact ⟨", ", D, (s0 :: l).map stepT, rfl, rfl, .inl (SqL.of eD), sum4 (m := 30) (fun p hp => by obtain ⟨z, hz, rfl⟩ := List.mem_map.mp hp; exact step_len (ok z hz)) (by rw [List.length_map]; omega) (by decide) _ (by decide +kernel), k H' k'⟩
abbrev s_tests_text : Stmt := (top 26)
abbrev N_tests_text : List Str := ["tests", "told", "one", "other", "same"]
abbrev P_tests_text : List Str := ["tests"]
theorem sc_tests_text : FnScope N_tests_text P_tests_text (defScope s_tests_text) := ⟨rfl, rfl, rfl, by decide +kernel, rfl, by decide +kernel, by decide +kernel⟩
theorem Dtests_text (W : Cw fas fns K mg) : DefOk P w K mg base CX0 1 "tests_text" P_tests_text (spTestsText K) := by
  refine DefOk.of W 18 20 (st := s_tests_text) rfl rfl sc_tests_text (fun _ _ _ _ _ _ us hl => match us, hl with | [_], _ => rfl) (fun vs H Q E h => ?_) (fun cdv A outer s H vs Q E hr h => ?_)
  · obtain ⟨v, l, rfl, _⟩ := h
    rfl
  · obtain ⟨v, l, rfl, dv, l4, ok, k⟩ := h
    refine ⟨_, PSs.nox (pss_cons (ps_setLc (i := 1) (own := [("one", 2), ("other", 3), ("same", 4)]) (g := gTup K 3 ((gCons (gName 2) (gCons (gName 3) (gCons (gName 4) gNil))))) (tt := tYes) (by rfl) sc_tests_text.nd rfl rfl (sw_true rfl rfl rfl (by decide +kernel)) (pi_tup (pv 0)) (blkOk_by (own := [("one", 2), ("other", 3), ("same", 4)]) (N := N_tests_text) (sc := defScope s_tests_text) (by decide +kernel)) (fun _ _ _ _ _ => pg_tup (by rfl) (pgs_cons (pg_name (i := 2) sc_tests_text.nd rfl (Or.inl rfl)) (pgs_cons (pg_name (i := 3) sc_tests_text.nd rfl (Or.inl rfl)) (pgs_cons (pg_name (i := 4) sc_tests_text.nd rfl (Or.inl rfl)) pgs_nil)))) (fun _ _ _ _ _ => pts_nil) (fun _ _ _ _ _ => (pe_op op_add_str (pe_op op_add_str (pv 2) (pe_ifExp (pt_val (pv 4)) pe_str pe_str)) (pv 3)))) (pss_one (ps_ret (pe_ifExp (pt_truth (pv 1) (by intro _; rfl)) (pe_join pe_str (pv 1)) pe_str)))), ?_⟩
    obtain ⟨a, xs, rfl, sq, dx⟩ := dv.items
    have lx : xs.length = l.length := by rw [dx.length, List.length_map]
    refine rd_asg (tupLs (K := K) (H0 := H) (xs := xs) (rs := (l.map testT).map .str) Keep.refl (by omega) (by rw [List.length_map, List.length_map, lx]) (fun H1 k1 Q1 q1 => ⟨_, rfl, q1 a H1 Keep.refl (seqT_keep k1 Soft.nil sq)⟩) (fun i x r H2 hx hr2 k2 Q' q' => ?_) fun D ys H' k' eD dy => ?_)
    · obtain ⟨d, hd, dd⟩ := dx.get hx
      obtain ⟨p', hp', rfl⟩ := map_get hr2
      obtain ⟨st, hst, rfl⟩ := map_get hp'
      obtain ⟨st', hst', rfl⟩ := map_get hd
      rw [hst] at hst'
      cases hst'
      have okS := ok st (List.mem_of_getElem? hst)
      obtain ⟨p, us, rfl, sp, du⟩ := dd.items
      cases du with
      | @cons u0 r0 e0 f0 g0 du =>
      cases du with
      | @cons u1 r1 e1 f1 g1 du =>
      cases du with
      | @cons u2 r2 e2 f2 g2 du =>
      cases du
      cases g0
      cases g1
      cases g2
      have w1 := okS.1.few
      have w2 := okS.2.few
      have wl : ∀ x y : Str, (x ++ y).length = x.length + y.length := fun x y => by rw [TL.len_tl, TL.tl_append, List.length_append, ← TL.len_tl, ← TL.len_tl]
      have w3 : ∀ b : Bool, (if b = true then (" is " : Str) else " is not ").length ≤ 10 := by decide +kernel
      obtain ⟨s1, s2, b⟩ := st
      have w1 : s1.length ≤ 8 := w1
      have w2 : s2.length ≤ 8 := w2
      refine ⟨p, _, rfl, seqT_keep k2 Soft.nil sp, rfl, _, _, rfl, _, _, rfl, _, _, rfl, rfl, rfl, ?_⟩
      have w3b := w3 b
      have go : ∀ m : Str, m = (if b = true then (" is " : Str) else " is not ") → ∃ i j, V.str s1 = V.str i ∧ V.str m = V.str j ∧ i.length + j.length ≤ sizeLine ∧ ∃ v, ([some (V.ref a), none, some (.str s1), some (.str s2), some (.bl b)] : L2.St)[3]? = some (some v) ∧ ∃ i' j', V.str (i ++ j) = V.str i' ∧ v = .str j' ∧ i'.length + j'.length ≤ sizeLine ∧ Q' (.str (i' ++ j')) H2 := by
        rintro m rfl
        have l1 := wl s1 (if b = true then (" is " : Str) else " is not ")
        exact ⟨s1, _, rfl, rfl, Nat.le_trans (show s1.length + (if b = true then (" is " : Str) else " is not ").length ≤ 100 by omega) (by decide), _, rfl, _, s2, rfl, rfl, Nat.le_trans (show (s1 ++ (if b = true then (" is " : Str) else " is not ")).length + s2.length ≤ 100 by omega) (by decide), q' _ H2 Keep.refl (.str _)⟩
      cases b with
      | true => exact ⟨_, rfl, _, rfl, true, rfl, iteT (go _ rfl)⟩
      | false => exact ⟨_, rfl, _, rfl, false, rfl, iteF (go _ rfl)⟩
    · rw [strs_of dy] at eD
      refine ⟨_, rfl, _, .inl ⟨_, SqL.of eD, rfl⟩, ?_⟩
      cases l with
      | nil => exact iteF (k H' k')
      | cons s0 l =>
        rw [testsT, if_neg (List.cons_ne_nil _ _)] at k
        exact iteT ⟨⟨_, rfl⟩, _, rfl, ", ", D, (s0 :: l).map testT, rfl, rfl, .inl (SqL.of eD), sum4 (m := 30) (fun p hp => by obtain ⟨z, hz, rfl⟩ := List.mem_map.mp hp; exact test_len (ok z hz)) (by rw [List.length_map]; omega) (by decide) _ (by decide +kernel), k H' k'⟩
end
end La
set_option Elab.async false
set_option linter.all false
set_option maxRecDepth 100000
set_option maxHeartbeats 4000000
namespace La
open PySem PySem.Spec PyProof.Rows L2 SM
def spLineText (K : PySem.W.Frag) : Sp := fun vs H Q _ => ∃ v l, vs = [v] ∧ Dt K H v (lnD l) ∧ LnOk l ∧ ∀ H', Keep [] H H' → Q (.str (lineT l)) H'
def spReadSteps (K : PySem.W.Frag) : Sp := fun vs H Q _ => ∃ l, vs = [.str (stepsT l)] ∧ l.length ≤ 4 ∧ (∀ s ∈ l, StepOk s) ∧ ∀ v H', Keep [] H H' → Dt K H' v (stepsD l) → Q v H'
def spReadLine (K : PySem.W.Frag) : Sp := fun vs H Q _ => ∃ l, vs = [.str (lineT l)] ∧ LnOk l ∧ ∀ v H', Keep [] H H' → Dt K H' v (lnD l) → Q v H'
theorem add_len (x y : Str) : (x ++ y).length = x.length + y.length := by rw [TL.len_tl, TL.tl_append, List.length_append, ← TL.len_tl, ← TL.len_tl]
def stepsOf (l : Ln) : List (List (Str × Str)) := l.steps :: (match l.keep with | some k => [k] | none => [])
theorem stepsOf_T (l : Ln) : listsT l = (stepsOf l).map stepsT := by
  unfold listsT stepsOf
  cases l.keep <;> rfl
theorem stepsOf_D (l : Ln) : stepsD l.steps :: keepD l.keep = (stepsOf l).map stepsD := by
  unfold stepsOf
  cases l.keep <;> rfl
theorem stepsOf_ok {l : Ln} (h : LnOk l) : ∀ k ∈ stepsOf l, k.length ≤ 4 ∧ ∀ s ∈ k, StepOk s := by
  intro k hk
  unfold stepsOf at hk
  rcases List.mem_cons.mp hk with rfl | hk
  · exact h.steps
  · cases e : l.keep with
    | none => rw [e] at hk; cases hk
    | some k' =>
      rw [e] at hk
      rw [List.mem_singleton.mp hk]
      exact h.keep k' e
theorem stepsOf_len (l : Ln) : (stepsOf l).length ≤ 2 ∧ 1 ≤ (stepsOf l).length := by
  unfold stepsOf
  cases l.keep with
  | none => exact ⟨Nat.le_of_ble_eq_true rfl, Nat.le_of_ble_eq_true rfl⟩
  | some k => exact ⟨Nat.le_of_ble_eq_true rfl, Nat.le_of_ble_eq_true rfl⟩
section
variable {P : Program} {w : World} {K : PySem.W.Frag} {mg : Str → Option Value} {base : Heap}
abbrev s_read_steps : Stmt := (top 30)
abbrev N_read_steps : List Str := ["text", "part"]
abbrev P_read_steps : List Str := ["text"]
theorem sc_read_steps : FnScope N_read_steps P_read_steps (defScope s_read_steps) := ⟨rfl, rfl, rfl, by decide +kernel, rfl, by decide +kernel, by decide +kernel⟩
theorem Dread_steps (W : Cw fas fns K mg) (Dread_step : DefOk P w K mg base CX0 1 "read_step" P_read_step (spReadStep K)) : DefOk P w K mg base CX0 2 "read_steps" P_read_steps (spReadSteps K) := by
  refine DefOk.of W 22 24 (st := s_read_steps) rfl rfl sc_read_steps (fun _ _ _ _ _ _ us hl => match us, hl with | [_], _ => rfl) (fun vs H Q E h => ?_) (fun cdv A outer s H vs Q E hr h => ?_)
  · obtain ⟨l, rfl, _⟩ := h
    rfl
  · obtain ⟨l, rfl, l4, ok, k⟩ := h
    refine ⟨_, PSs.nox (pss_one (ps_ret (pe_ifExp (pt_cmpR op_eq (pv 0) pe_str (nomark _)) (pe_tup pa_nil) (pe_callTy call_tuple_of (by rfl) (W.fre 54) (by decide +kernel) (pa_cons (pe_lc (own := [("part", 1)]) (g := gName 1) (tt := tYes) (te := tCall (spReadStep K) [] E0 (tCons (tVar 1) tNil)) (by rfl) sc_read_steps.nd (pi_list (pe_split (pv 0) pe_str)) (blkOk_by (own := [("part", 1)]) (N := N_read_steps) (sc := defScope s_read_steps) (by decide +kernel)) (fun _ _ _ _ _ => pg_name (i := 1) sc_read_steps.nd rfl (Or.inl rfl)) (fun _ _ _ _ _ => pts_nil) (fun _ _ _ _ _ => (SM.pe_callD Dread_step (hr.mono (by decide)) pass0 (pa_cons (pv 1) pa_nil)))) pa_nil))))), ?_⟩
    by_cases n : l = []
    · subst n
      refine ⟨_, rfl, rfl, _, rfl, yesS rfl ⟨Nat.zero_le _, fun q hq => ?_⟩⟩
      exact k _ _ (Keep.new hq) (.tup (SqT.of upd_same) .nil)
    · obtain ⟨ne, sp⟩ := split_steps n ok
      refine ⟨_, rfl, rfl, _, rfl, noS ne ?_⟩
      refine rd_cb1 (lstLs (K := K) (H0 := H) (xs := (l.map stepT).map .str) (rs := l.map stepD) Keep.refl (by rw [List.length_map, List.length_map]; omega) (by rw [List.length_map, List.length_map, List.length_map]) (fun H1 k1 Q1 q1 => ?_) (fun i x r H2 hx hr2 k2 Q' q' => ?_) fun D ys H' k' eD dy => ?_)
      · refine ⟨_, rfl, ⟨_, rfl⟩, stepsT l, ", ", rfl, rfl, ne0 _, big (Nat.le_trans (steps_len l4 ok) (by decide)), ?_⟩
        rw [sp]
        intro p hp
        exact q1 p _ (Keep.new hp) (SqL.of upd_same)
      · obtain ⟨p', hp', rfl⟩ := map_get hx
        obtain ⟨st, hst, rfl⟩ := map_get hp'
        obtain ⟨st', hst', rfl⟩ := map_get hr2
        rw [hst] at hst'
        cases hst'
        exact ⟨rfl, _, rfl, st, rfl, ok st (List.mem_of_getElem? hst), q'⟩
      · exact ⟨D, ys, rfl, .inl ⟨SqL.of eD, fun q hq => k _ _ (k'.trans (Keep.new hq)) (.tup (SqT.of upd_same) (dy.k0 (Keep.new hq)))⟩⟩
abbrev s_line_text : Stmt := (top 25)
abbrev N_line_text : List Str := ["line", "lists", "steps"]
abbrev P_line_text : List Str := ["line"]
theorem sc_line_text : FnScope N_line_text P_line_text (defScope s_line_text) := ⟨rfl, rfl, rfl, by decide +kernel, rfl, by decide +kernel, by decide +kernel⟩
theorem Dline_text (W : Cw fas fns K mg) (Dsteps_text : DefOk P w K mg base CX0 1 "steps_text" P_steps_text (spStepsText K)) (Dtests_text : DefOk P w K mg base CX0 1 "tests_text" P_tests_text (spTestsText K)) : DefOk P w K mg base CX0 2 "line_text" P_line_text (spLineText K) := by
  refine DefOk.of W 17 19 (st := s_line_text) rfl rfl sc_line_text (fun _ _ _ _ _ _ us hl => match us, hl with | [_], _ => rfl) (fun vs H Q E h => ?_) (fun cdv A outer s H vs Q E hr h => ?_)
  · obtain ⟨v, l, rfl, _⟩ := h
    rfl
  · obtain ⟨v, l, rfl, dv, ok, k⟩ := h
    refine ⟨_, PSs.nox (Evl.pss_cut (ps_set (i := 1) sc_line_text.nd rfl (by first | exact Or.inl rfl | exact Or.inr rfl) (pe_join pe_str (pe_lc (own := [("steps", 2)]) (g := gName 2) (tt := tYes) (te := tCall (spStepsText K) [] E0 (tCons (tVar 2) tNil)) (by rfl) sc_line_text.nd (pi_tup (pe_slice sl_tup (pv 0) (po_some pe_int) po_none)) (blkOk_by (own := [("steps", 2)]) (N := N_line_text) (sc := defScope s_line_text) (by decide +kernel)) (fun _ _ _ _ _ => pg_name (i := 2) sc_line_text.nd rfl (Or.inl rfl)) (fun _ _ _ _ _ => pts_nil) (fun _ _ _ _ _ => (SM.pe_callD Dsteps_text (hr.mono (by decide)) pass0 (pa_cons (pv 2) pa_nil)))))) (pss_one (ps_ret (pe_op op_add_str (pe_op op_add_str (pe_op op_add_str (SM.pe_callD Dtests_text (hr.mono (by decide)) pass0 (pa_cons (pe_ix ix_seq (pv 0) pe_int (fun _ _ => rfl)) pa_nil)) pe_str) (pe_ifExp (pt_cmpR op_eq (pe_callB call_len_seq (by rfl) (W.fre 46) (by decide +kernel) (pa_cons (pv 0) pa_nil)) pe_int (nomark _)) pe_str pe_str)) (pv 1))))), ?_⟩
    obtain ⟨a, xs, rfl, sq, dx⟩ := dv.items
    cases dx with
    | @cons x0 xr d0 dr h0 tr =>
    rw [stepsOf_D] at tr
    have lr : xr.length = (stepsOf l).length := by rw [tr.length, List.length_map]
    have l2 := stepsOf_len l
    have llen := lists_join_len ok
    refine ⟨fun σ' H' => σ' = [some (.ref a), some (.str (Txt.join " or " (listsT l))), none] ∧ Keep [] H H', ?_, ?_⟩
    · refine rd_asg ⟨⟨_, rfl⟩, ?_⟩
      refine tupLs (K := K) (H0 := H) (xs := xr) (rs := (listsT l).map .str) Keep.refl (by omega) (by rw [List.length_map, stepsOf_T, List.length_map, lr]) (fun H1 k1 Q1 q1 => ?_) (fun i x r H2 hx hr2 k2 Q' q' => ?_) fun D ys H' k' eD dy => ?_
      · refine ⟨_, rfl, 1, rfl, a, _, rfl, seqT_keep k1 Soft.nil sq, ?_, fun q nq => ?_⟩
        · intro z
          have : HT.sIx (x0 :: xr).length 0 (some 1) = 0 := z.1
          rw [show HT.sIx (x0 :: xr).length 0 (some 1) = min 1 (xr.length + 1) from rfl] at this
          omega
        · rw [cut1]
          exact q1 q _ (Keep.new nq) (SqT.of upd_same)
      · obtain ⟨d, hd, dd⟩ := tr.get hx
        rw [stepsOf_T] at hr2
        obtain ⟨p', hp', rfl⟩ := map_get hr2
        obtain ⟨st, hst, rfl⟩ := map_get hp'
        obtain ⟨st', hst', rfl⟩ := map_get hd
        rw [hst] at hst'
        cases hst'
        have okS := stepsOf_ok ok st (List.mem_of_getElem? hst)
        exact ⟨rfl, _, rfl, x, st, rfl, dd.k0 k2, okS.1, okS.2, fun H3 k3 => q' _ H3 k3 (.str _)⟩
      · rw [strs_of dy] at eD
        exact ⟨" or ", D, listsT l, rfl, rfl, .inl (SqL.of eD), sum4 (m := 200) (lists_len ok).2 (Nat.le_trans (lists_len ok).1 (by decide)) (by decide) _ (by decide +kernel), rfl, k'⟩
    rintro σ' H1 ⟨rfl, k1⟩
    have sq1 := seqT_keep k1 Soft.nil sq
    refine ⟨_, rfl, .inr (.inl ⟨a, _, 0, x0, rfl, rfl, sq1, at0 _ _, x0, l.tests, rfl, h0.k0 k1, ok.tests.1, ok.tests.2, fun H2 k2 => ?_⟩)⟩
    have tlen := tests_len ok.tests.1 ok.tests.2
    have c1 : (": " : Str).length = 2 := by decide +kernel
    have c2 : ("ask " : Str).length = 4 := by decide +kernel
    have c3 : ("" : Str).length = 0 := by decide +kernel
    have e1 := add_len (testsT l.tests) ": "
    refine ⟨_, _, rfl, rfl, Nat.le_trans (show (testsT l.tests).length + (": " : Str).length ≤ 1000 by omega) (by decide), ?_⟩
    have kk := k1.trans k2
    have fin : ∀ m : Str, m.length ≤ 4 → lineT l = testsT l.tests ++ (": " : Str) ++ m ++ Txt.join " or " (listsT l) → ∃ i j, V.str (testsT l.tests ++ (": " : Str)) = .str i ∧ V.str m = .str j ∧ i.length + j.length ≤ sizeLine ∧ ∃ v, ([some (V.ref a), some (.str (Txt.join " or " (listsT l))), none] : L2.St)[1]? = some (some v) ∧ ∃ i' j', V.str (i ++ j) = .str i' ∧ v = .str j' ∧ i'.length + j'.length ≤ sizeLine ∧ Q (.str (i' ++ j')) H2 := by
      intro m hm e
      have e2 := add_len (testsT l.tests ++ (": " : Str)) m
      refine ⟨_, _, rfl, rfl, Nat.le_trans (show (testsT l.tests ++ (": " : Str)).length + m.length ≤ 1000 by omega) (by decide), _, rfl, _, _, rfl, rfl, Nat.le_trans (show (testsT l.tests ++ (": " : Str) ++ m).length + (Txt.join " or " (listsT l)).length ≤ 2000 by omega) (by decide), ?_⟩
      rw [← e]
      exact k H2 kk
    refine ⟨_, rfl, a, _, rfl, .inr (seqT_keep k2 Soft.nil sq1), rfl, _, rfl, ?_⟩
    cases hk : l.keep with
    | none =>
      have l1 : xr.length = 1 := by rw [lr]; unfold stepsOf; rw [hk]; rfl
      exact noI (by show ((xr.length + 1 : Nat) : Int) ≠ 3; omega) (fin "" (by omega) (by rw [lineT, hk]; rfl))
    | some k' =>
      have l1 : xr.length = 2 := by rw [lr]; unfold stepsOf; rw [hk]; rfl
      exact yesI (by show ((xr.length + 1 : Nat) : Int) = 3; omega) (fin "ask " (by omega) (by rw [lineT, hk]; rfl))
abbrev s_read_line : Stmt := (top 28)
abbrev N_read_line : List Str := ["row", "before", "_", "behind", "lists", "tests", "part", "steps"]
abbrev P_read_line : List Str := ["row"]
theorem sc_read_line : FnScope N_read_line P_read_line (defScope s_read_line) := ⟨rfl, rfl, rfl, by decide +kernel, rfl, by decide +kernel, by decide +kernel⟩
theorem Dread_line (W : Cw fas fns K mg) (Dread_test : DefOk P w K mg base CX0 1 "read_test" P_read_test (spReadTest K)) (Dread_steps : DefOk P w K mg base CX0 2 "read_steps" P_read_steps (spReadSteps K)) : DefOk P w K mg base CX0 3 "read_line" P_read_line (spReadLine K) := by
  refine DefOk.of W 20 22 (st := s_read_line) rfl rfl sc_read_line (fun _ _ _ _ _ _ us hl => match us, hl with | [_], _ => rfl) (fun vs H Q E h => ?_) (fun cdv A outer s H vs Q E hr h => ?_)
  · obtain ⟨l, rfl, _⟩ := h
    rfl
  · obtain ⟨l, rfl, ok, k⟩ := h
    refine ⟨_, PSs.nox (Evl.pss_cut (ps_asg (pe_partition (pv 0) pe_str) (pg_tup (by rfl) (pgs_cons (pg_name (i := 1) sc_read_line.nd rfl (by first | exact Or.inl rfl | exact Or.inr rfl)) (pgs_cons (pg_name (i := 2) sc_read_line.nd rfl (by first | exact Or.inl rfl | exact Or.inr rfl)) (pgs_cons (pg_name (i := 3) sc_read_line.nd rfl (by first | exact Or.inl rfl | exact Or.inr rfl)) pgs_nil))))) (Evl.pss_cut (ps_set (i := 4) sc_read_line.nd rfl (by first | exact Or.inl rfl | exact Or.inr rfl) (pe_split (pe_m1 PySem.F.slot_str_removeprefix PySem.F.type_str_removeprefix mt_removeprefix (pv 3) pe_str) pe_str)) (Evl.pss_cut (ps_set (i := 5) sc_read_line.nd rfl (by first | exact Or.inl rfl | exact Or.inr rfl) (pe_ifExp (pt_cmpR op_eq (pv 1) pe_str (nomark _)) (pe_lst pa_nil) (pe_lc (own := [("part", 6)]) (g := gName 6) (tt := tYes) (te := tCall (spReadTest K) [] E0 (tCons (tVar 6) tNil)) (by rfl) sc_read_line.nd (pi_list (pe_split (pv 1) pe_str)) (blkOk_by (own := [("part", 6)]) (N := N_read_line) (sc := defScope s_read_line) (by decide +kernel)) (fun _ _ _ _ _ => pg_name (i := 6) sc_read_line.nd rfl (Or.inl rfl)) (fun _ _ _ _ _ => pts_nil) (fun _ _ _ _ _ => (SM.pe_callD Dread_test (hr.mono (by decide)) pass0 (pa_cons (pv 6) pa_nil)))))) (pss_one (ps_ret (pe_op op_catA (pe_tup (pa_cons (pe_callTy call_tuple_of (by rfl) (W.fre 54) (by decide +kernel) (pa_cons (pv 5) pa_nil)) pa_nil)) (pe_callTy call_tuple_of (by rfl) (W.fre 54) (by decide +kernel) (pa_cons (pe_lc (own := [("steps", 7)]) (g := gName 7) (tt := tYes) (te := tCall (spReadSteps K) [] E0 (tCons (tVar 7) tNil)) (by rfl) sc_read_line.nd (pi_list (pv 4)) (blkOk_by (own := [("steps", 7)]) (N := N_read_line) (sc := defScope s_read_line) (by decide +kernel)) (fun _ _ _ _ _ => pg_name (i := 7) sc_read_line.nd rfl (Or.inl rfl)) (fun _ _ _ _ _ => pts_nil) (fun _ _ _ _ _ => (SM.pe_callD Dread_steps (hr.mono (by decide)) pass0 (pa_cons (pv 7) pa_nil)))) pa_nil)))))))), ?_⟩
    let T : Option V → Option V → Option V → Option V → Option V → L2.St := fun x1 x2 x3 x4 x5 => [some (.str (lineT l)), x1, x2, x3, x4, x5, none, none]
    refine ⟨fun σ' H' => σ' = T (some (.str (testsT l.tests))) (some (.str ": ")) (some (.str (behindT l))) none none ∧ Keep [] H H', ?_, ?_⟩
    · refine ⟨_, rfl, ⟨_, rfl⟩, lineT l, ": ", rfl, rfl, ne0 _, Nat.le_trans (line_len ok) (by decide), ?_⟩
      rw [part_line ok]
      intro p hp
      exact ⟨p, _, rfl, SqT.of upd_same, rfl, _, _, rfl, _, _, rfl, _, _, rfl, rfl, rfl, Keep.new hp⟩
    rintro σ' H1 ⟨rfl, k1⟩
    have ll := lists_len ok
    have lj := lists_join_len ok
    have bl : (behindT l).length ≤ 600 := by
      have := add_len (if l.keep.isSome = true then ("ask " : Str) else "") (Txt.join " or " (listsT l))
      have h4 : ∀ b : Bool, (if b = true then ("ask " : Str) else "").length ≤ 4 := by decide +kernel
      have := h4 l.keep.isSome
      unfold behindT
      omega
    refine ⟨fun σ' H' => ∃ la, σ' = T (some (.str (testsT l.tests))) (some (.str ": ")) (some (.str (behindT l))) (some (.ref la)) none ∧ Keep [] H1 H' ∧ H' la = some (.lst ((listsT l).map V.str)), ?_, ?_⟩
    · refine ⟨_, rfl, ⟨_, rfl⟩, behindT l, "ask ", rfl, rfl, Nat.le_trans bl (by decide), ?_⟩
      rw [rp_line ok]
      refine ⟨⟨_, rfl⟩, Txt.join " or " (listsT l), " or ", rfl, rfl, ne0 _, big (Nat.le_trans lj (by decide)), ?_⟩
      rw [split_lists ok]
      intro p hp
      exact ⟨p, rfl, Keep.new hp, upd_same⟩
    rintro σ' H2 ⟨la, rfl, k2, ela⟩
    refine ⟨fun σ' H' => ∃ ta ts, σ' = T (some (.str (testsT l.tests))) (some (.str ": ")) (some (.str (behindT l))) (some (.ref la)) (some (.ref ta)) ∧ Keep [] H2 H' ∧ H' ta = some (.lst ts) ∧ DtAll K H' ts (l.tests.map testD), ?_, ?_⟩
    · by_cases n : l.tests = []
      · refine rd_asg (rd_ife ⟨_, rfl, rfl, _, rfl, yesS (by rw [testsT, if_pos n]) ⟨Nat.zero_le _, fun q hq => ?_⟩⟩)
        exact ⟨q, [], rfl, Keep.new hq, upd_same, by rw [n]; exact .nil⟩
      · obtain ⟨ne, sp⟩ := split_tests n ok.tests.2
        refine rd_asg (rd_ife ⟨_, rfl, rfl, _, rfl, noS ne ?_⟩)
        refine lstLs (K := K) (H0 := H2) (xs := (l.tests.map testT).map .str) (rs := l.tests.map testD) Keep.refl (by rw [List.length_map, List.length_map]; have := ok.tests.1; omega) (by rw [List.length_map, List.length_map, List.length_map]) (fun H1 k1 Q1 q1 => ?_) (fun i x r H2 hx hr2 k2 Q' q' => ?_) fun D ys H' k' eD dy => ⟨D, ys, rfl, k', eD, dy⟩
        · refine ⟨_, rfl, ⟨_, rfl⟩, testsT l.tests, ", ", rfl, rfl, ne0 _, big (Nat.le_trans (tests_len ok.tests.1 ok.tests.2) (by decide)), ?_⟩
          rw [sp]
          intro p hp
          exact q1 p _ (Keep.new hp) (SqL.of upd_same)
        · obtain ⟨p', hp', rfl⟩ := map_get hx
          obtain ⟨st, hst, rfl⟩ := map_get hp'
          obtain ⟨st', hst', rfl⟩ := map_get hr2
          rw [hst] at hst'
          cases hst'
          exact ⟨rfl, _, rfl, st, rfl, ok.tests.2 st (List.mem_of_getElem? hst), q'⟩
    rintro σ' H3 ⟨ta, ts, rfl, k3, eta, dts⟩
    refine ⟨_, rfl, ta, ts, rfl, .inl ⟨SqL.of eta, fun q hq => ⟨(by show 1 ≤ sizeLine; decide), fun q2 hq2 => ?_⟩⟩⟩
    have kq : Keep [] H3 (upd H3 q (.tup ts)) := Keep.new hq
    have kq2 : Keep [] (upd H3 q (.tup ts)) (upd (upd H3 q (.tup ts)) q2 (.tup [.ref q])) := Keep.new hq2
    have eq1 : upd (upd H3 q (.tup ts)) q2 (.tup [.ref q]) q = some (.tup ts) := kq2.to upd_same
    have eq2 : upd (upd H3 q (.tup ts)) q2 (.tup [.ref q]) q2 = some (.tup [.ref q]) := upd_same
    have k34 := kq.trans kq2
    generalize upd (upd H3 q (.tup ts)) q2 (.tup [V.ref q]) = H4 at eq1 eq2 k34 ⊢
    have dT : Dt K H4 (.ref q) (testsD l.tests) := .tup (SqT.of eq1) (dts.k0 k34)
    refine rd_cb1 (lstLs (K := K) (H0 := H4) (xs := (listsT l).map .str) (rs := (stepsOf l).map stepsD) Keep.refl (by rw [List.length_map]; have := ll.1; omega) (by rw [List.length_map, List.length_map, stepsOf_T, List.length_map]) (fun H5 k5 Q1 q1 => ?_) (fun i x r H5 hx hr2 k5 Q' q' => ?_) fun D ys H5 k5 eD dy => ?_)
    · exact ⟨_, rfl, q1 la H5 Keep.refl (SqL.of (k5.to (k34.to (k3.to ela))))⟩
    · rw [stepsOf_T] at hx
      obtain ⟨p', hp', rfl⟩ := map_get hx
      obtain ⟨st, hst, rfl⟩ := map_get hp'
      obtain ⟨st', hst', rfl⟩ := map_get hr2
      rw [hst] at hst'
      cases hst'
      have okS := stepsOf_ok ok st (List.mem_of_getElem? hst)
      exact ⟨rfl, _, rfl, st, rfl, okS.1, okS.2, q'⟩
    · refine ⟨D, ys, rfl, .inl ⟨SqL.of eD, fun q3 hq3 => ?_⟩⟩
      have kq3 : Keep [] H5 (upd H5 q3 (.tup ys)) := Keep.new hq3
      have ly : ys.length = (stepsOf l).length := by rw [dy.length, List.length_map]
      have l12 := stepsOf_len l
      refine ⟨q2, q3, [.ref q], ys, rfl, rfl, seqT_keep (k5.trans kq3) Soft.nil (SqT.of eq2), SqT.of upd_same, Nat.le_trans (show 1 + ys.length ≤ 100 by omega) (by decide), (fun e => by cases e), fun _ e => ?_, fun _ _ p hp => ?_⟩
      · rw [e] at ly
        simp at ly
        omega
      · have kp : Keep [] (upd H5 q3 (.tup ys)) (upd (upd H5 q3 (.tup ys)) p (.tup ([.ref q] ++ ys))) := Keep.new hp
        refine k (.ref p) _ (k1.trans (k2.trans (k3.trans (k34.trans (k5.trans (kq3.trans kp)))))) ?_
        rw [lnD, stepsOf_D]
        exact .tup (SqT.of upd_same) (.cons (dT.k0 (k5.trans (kq3.trans kp))) (dy.k0 (kq3.trans kp)))
end
end La
set_option Elab.async false
set_option linter.all false
set_option maxRecDepth 100000
set_option maxHeartbeats 4000000
namespace La
open PySem PySem.Spec PyProof.Rows L2 SM
theorem word_new : WordT "new" ∧ WordT "here" ∧ WordT "nothing" :=
  ⟨⟨by decide +kernel, by decide +kernel, by decide +kernel⟩, ⟨by decide +kernel, by decide +kernel, by decide +kernel⟩, ⟨by decide +kernel, by decide +kernel, by decide +kernel⟩⟩
theorem VRule.words {ns : List Str} {ls : List Ln} (h : VRule ns ls) : ∀ n ∈ ns, WordT n := by
  intro n hn
  have hd := h.regs
  rw [regsD, Bool.and_eq_true, Bool.and_eq_true] at hd
  have h1 := List.all_eq_true.mp hd.2.1 _ (List.mem_map_of_mem hn)
  rw [isName, Bool.and_eq_true, Bool.not_eq_true'] at h1
  obtain ⟨hw, hm⟩ := h1
  rw [isWord, Bool.and_eq_true, Bool.and_eq_true, decide_eq_true_eq, decide_eq_true_eq] at hw
  have no : n ∉ words01 := by
    have e : memS words01 (.str n) = decide (n ∈ words01) := any_str n words01
    rw [e] at hm
    exact of_decide_eq_false hm
  refine ⟨fun c hc => ?_, hw.1.2, fun z => no (by rw [z]; decide +kernel), fun z => no (by rw [z]; decide +kernel)⟩
  have := List.all_eq_true.mp hw.2 c hc
  rw [Bool.and_eq_true, decide_eq_true_eq, decide_eq_true_eq] at this
  exact this
theorem VRule.lnOk {ns : List Str} {ls : List Ln} (h : VRule ns ls) : ∀ l ∈ ls, LnOk l := by
  intro l hl
  have g := h.good l hl
  have wo := h.words
  have step : ∀ s : Str × Str, GoodS ns s → StepOk s := fun s gs => by
    refine ⟨?_, ?_⟩
    · rcases gs.1 with z | z
      · rw [z]; exact word_new.2.1
      · exact wo _ z
    · rcases gs.2 with z | z | z | z
      · rw [z]; exact word_new.1
      · rw [z]; exact word_new.2.1
      · rw [z]; exact word_new.2.2
      · exact wo _ z
  have test : ∀ s : Str × Str × Bool, GoodT ns s → TestOk s := fun s gs => by
    refine ⟨?_, ?_⟩
    · rcases gs.1 with z | z | z
      · rw [z]; exact word_new.2.1
      · rw [z]; exact word_new.1
      · exact wo _ z
    · rcases gs.2 with z | z | z | z
      · rw [z]; exact word_new.1
      · rw [z]; exact word_new.2.1
      · rw [z]; exact word_new.2.2
      · exact wo _ z
  exact ⟨⟨g.tests.1, fun t z => test t (g.tests.2 t z)⟩, ⟨g.steps.1, fun t z => step t (g.steps.2 t z)⟩, fun k hk => ⟨(g.keep k hk).1, fun t z => step t ((g.keep k hk).2 t z)⟩⟩
def spRuleText (K : PySem.W.Frag) : Sp := fun vs H Q _ => ∃ (x : Addr) (ns : List Str) (ls : List Ln), vs = [.ref x] ∧ RuleIs K H x ns ls ∧ VRule ns ls ∧ ∀ H', Keep [] H H' → Q (.str (ruleT ns ls)) H'
section
variable {P : Program} {w : World} {K : PySem.W.Frag} {mg : Str → Option Value} {base : Heap}
abbrev s_Rule_lines : Stmt := (inClass (top 13) 2)
abbrev N_Rule_lines : List Str := ["self"]
abbrev P_Rule_lines : List Str := ["self"]
theorem sc_Rule_lines : FnScope N_Rule_lines P_Rule_lines (defScope s_Rule_lines) := ⟨rfl, rfl, rfl, by decide +kernel, rfl, by decide +kernel, by decide +kernel⟩
theorem I_lines (PP : PropAt K q_Rule_lines) (W : Cw fas fns K mg) :
    ∃ fd, FnOk P w K mg base CX0 1 (pga K "Rule" "lines") fd ["self"] (spSlot K fun _ l => .ref l) ∧ Binds K fd ["self"] [] := by
  obtain ⟨fd, F⟩ := PP.fn
  refine ⟨fd, FunD.ok F sc_Rule_lines (fun vs H Q E h => ?_) (fun cdv A outer s H vs Q E hr h => ?_), FunD.bindsN F (fun _ _ _ _ _ _ us hl => match us, hl with | [_], _ => rfl)⟩
  · obtain ⟨x, dx, t, l, y, rfl, _⟩ := h
    rfl
  · obtain ⟨x, dx, t, l, y, rfl, hx, k⟩ := h
    have CR : Cls K (He.ga K "Rule") := He.cls_ok (W.fact 57)
    have N1 : NoAttr K (He.ga K "Rule") "_lines" := He.noat_ok (W.fact 59)
    refine ⟨_, PSs.nox (pss_one (ps_ret (pe_fld (pv 0) rfl))), ?_⟩
    exact ⟨_, rfl, x, _, dx, _, _, rfl, hx, CR, N1, rfl, k⟩
abbrev s_rule_text : Stmt := (top 23)
abbrev N_rule_text : List Str := ["rule", "line"]
abbrev P_rule_text : List Str := ["rule"]
theorem sc_rule_text : FnScope N_rule_text P_rule_text (defScope s_rule_text) := ⟨rfl, rfl, rfl, by decide +kernel, rfl, by decide +kernel, by decide +kernel⟩
theorem Drule_text (PG : PropAt K q_Rule_registers) (PL : PropAt K q_Rule_lines) (W : Cw fas fns K mg) (Dline_text : DefOk P w K mg base CX0 2 "line_text" P_line_text (spLineText K)) : DefB P w K mg base CX0 3 "rule_text" P_rule_text (spRuleText K) := by
  refine DefB.of W 15 17 (st := s_rule_text) rfl rfl sc_rule_text (fun _ _ _ _ _ _ us hl => match us, hl with | [_], _ => rfl) (fun _ _ _ _ _ _ ws hl => match ws, hl with | [_], _ => rfl) (fun vs H Q E h => ?_) (fun cdv A outer s H vs Q E hr h => ?_)
  · obtain ⟨x, ns, ls, rfl, _⟩ := h
    rfl
  · obtain ⟨x, ns, ls, rfl, ri, hv, k⟩ := h
    have CR : Cls K (He.ga K "Rule") := He.cls_ok (W.fact 57)
    obtain ⟨fdPg, FPg, bPg⟩ := I_registers (P := P) (w := w) (base := base) PG W
    obtain ⟨fdPl, FPl, bPl⟩ := I_lines (P := P) (w := w) (base := base) PL W
    refine ⟨_, PSs.nox (pss_one (ps_ret (pe_join pe_str (pe_op op_cat (pe_lst (pa_cons (pe_join pe_str (pe_op op_cat (pe_lst (pa_cons pe_str pa_nil)) (pe_callTy call_list_of (by rfl) (W.fre 47) (by decide +kernel) (pa_cons (pe_prop (pv 0) CR PG.of FPg (hr.mono (by decide)) bPg .nil pass0 rfl) pa_nil)))) pa_nil)) (pe_lc (own := [("line", 1)]) (g := gName 1) (tt := tYes) (te := tCall (spLineText K) [] E0 (tCons (tVar 1) tNil)) (by rfl) sc_rule_text.nd (pi_tup (pe_prop (pv 0) CR PL.of FPl (hr.mono (by decide)) bPl .nil pass0 rfl)) (blkOk_by (own := [("line", 1)]) (N := N_rule_text) (sc := defScope s_rule_text) (by decide +kernel)) (fun _ _ _ _ _ => pg_name (i := 1) sc_rule_text.nd rfl (Or.inl rfl)) (fun _ _ _ _ _ => pts_nil) (fun _ _ _ _ _ => (SM.pe_callD Dline_text (hr.mono (by decide)) pass0 (pa_cons (pv 1) pa_nil)))))))), ?_⟩
    obtain ⟨dx, t, l, y, xs, ex, st, sl, dl⟩ := ri
    have n3 := hv.okN.1
    have l8 := hv.few
    have lx : xs.length = ls.length := by rw [dl.length, List.length_map]
    have wo := hv.words
    have lo := hv.lnOk
    have c9 : ("registers" : Str).length = 9 := by decide +kernel
    refine ⟨⟨_, rfl⟩, ⟨_, rfl⟩, (by show 1 ≤ sizeLine; decide), fun p hp => ?_⟩
    have kp : Keep [] H (upd H p (.lst [.str "registers"])) := Keep.new hp
    refine ⟨_, rfl, x, dx, _, rfl, kp.to ex, x, dx, t, l, y, rfl, kp.to ex, t, ns.map V.str, rfl, .inr (seqT_keep kp Soft.nil st), fun p2 hp2 => ?_⟩
    have kp2 : Keep [] (upd H p (.lst [.str "registers"])) (upd (upd H p (.lst [.str "registers"])) p2 (.lst (ns.map V.str))) := Keep.new hp2
    have ep : upd (upd H p (.lst [.str "registers"])) p2 (.lst (ns.map V.str)) p = some (.lst [.str "registers"]) := kp2.to upd_same
    have ep2 : upd (upd H p (.lst [.str "registers"])) p2 (.lst (ns.map V.str)) p2 = some (.lst (ns.map V.str)) := upd_same
    have k2 := kp.trans kp2
    generalize upd (upd H p (.lst [V.str "registers"])) p2 (.lst (ns.map V.str)) = H2 at ep ep2 k2 ⊢
    refine ⟨p, p2, _, _, rfl, rfl, ep, ep2, by rw [List.length_map]; exact Nat.le_trans (show 1 + ns.length ≤ 100 by omega) (by decide), fun p3 hp3 => ?_⟩
    have k3 : Keep [] H2 (upd H2 p3 (.lst ([V.str "registers"] ++ ns.map V.str))) := Keep.new hp3
    have e3 : upd H2 p3 (.lst ([V.str "registers"] ++ ns.map V.str)) p3 = some (.lst ((("registers" : Str) :: ns).map V.str)) := upd_same
    have k23 := k2.trans k3
    generalize upd H2 p3 (.lst ([V.str "registers"] ++ ns.map V.str)) = H3 at e3 k23 ⊢
    refine ⟨" ", p3, ("registers" : Str) :: ns, rfl, rfl, .inl (SqL.of e3), sum4 (m := 9) (fun q hq => ?_) (by rw [List.length_cons]; omega) (by decide) _ (by decide +kernel), (by show 1 ≤ sizeLine; decide), fun p4 hp4 => ?_⟩
    · rcases List.mem_cons.mp hq with rfl | hq
      · omega
      · exact Nat.le_trans (wo q hq).few (by decide)
    have k4 : Keep [] H3 (upd H3 p4 (.lst [.str (Txt.join " " (("registers" : Str) :: ns))])) := Keep.new hp4
    have e4 : upd H3 p4 (.lst [.str (Txt.join " " (("registers" : Str) :: ns))]) p4 = some (.lst [.str (Txt.join " " (("registers" : Str) :: ns))]) := upd_same
    have k24 := k23.trans k4
    generalize upd H3 p4 (.lst [V.str (Txt.join " " (("registers" : Str) :: ns))]) = H4 at e4 k24 ⊢
    refine tupLs (K := K) (H0 := H4) (xs := xs) (rs := (ls.map lineT).map .str) Keep.refl (by omega) (by rw [List.length_map, List.length_map, lx]) (fun H1 k1 Q1 q1 => ⟨_, rfl, x, dx, _, rfl, (k24.trans k1).to ex, x, dx, t, l, y, rfl, (k24.trans k1).to ex, q1 l H1 Keep.refl (seqT_keep (k24.trans k1) Soft.nil sl)⟩) (fun i z r H5 hz hr2 k5 Q' q' => ?_) fun D ys H5 k5 eD dy => ?_
    · obtain ⟨d, hd, dd⟩ := dl.get hz
      obtain ⟨p', hp', rfl⟩ := map_get hr2
      obtain ⟨ln, hln, rfl⟩ := map_get hp'
      obtain ⟨ln', hln', rfl⟩ := map_get hd
      rw [hln] at hln'
      cases hln'
      exact ⟨rfl, _, rfl, z, ln, rfl, dd.k0 (k24.trans k5), lo ln (List.mem_of_getElem? hln), fun H6 k6 => q' _ H6 k6 (.str _)⟩
    · rw [strs_of dy] at eD
      refine ⟨p4, D, _, _, rfl, rfl, k5.to e4, eD, by rw [List.length_map, List.length_map]; exact Nat.le_trans (show 1 + ls.length ≤ 100 by omega) (by decide), fun p6 hp6 => ?_⟩
      have k6 : Keep [] H5 (upd H5 p6 (.lst ([V.str (Txt.join " " (("registers" : Str) :: ns))] ++ (ls.map lineT).map V.str))) := Keep.new hp6
      refine ⟨"\n", p6, Txt.join " " (("registers" : Str) :: ns) :: ls.map lineT, rfl, rfl, .inl (SqL.of upd_same), sum4 (m := 800) (fun q hq => ?_) (by rw [List.length_cons, List.length_map]; omega) (by decide) _ (by decide +kernel), k _ (k24.trans (k5.trans k6))⟩
      rcases List.mem_cons.mp hq with rfl | hq
      · exact Nat.le_trans (head_len n3 wo) (by decide)
      · obtain ⟨z, hz, rfl⟩ := List.mem_map.mp hq
        exact line_len (lo z hz)
end
end La
set_option Elab.async false
set_option linter.all false
set_option maxRecDepth 100000
set_option maxHeartbeats 4000000
namespace La
open PySem PySem.Spec PyProof.Rows L2 SM
theorem at_negL {α : Type} {xs : List α} {v : α} (h : xs[xs.length - 1]? = some v) : atI xs (-1) = some v := by
  have hn : xs.length - 1 < xs.length := by
    rcases Nat.lt_or_ge (xs.length - 1) xs.length with z | z
    · exact z
    · rw [List.getElem?_eq_none z] at h
      cases h
  have e : (-(xs.length : Int)) ≤ -1 := by omega
  unfold atI ixN
  rw [if_neg (by decide), if_pos e, Option.bind_some]
  rw [show ((-1 : Int) + (xs.length : Int)).toNat = xs.length - 1 by omega]
  exact h
def spReadRule (K : PySem.W.Frag) : Sp := fun vs H Q _ => ∃ (ns : List Str) (ls : List Ln), vs = [.str (ruleT ns ls)] ∧ VRule ns ls ∧ ∀ x H', Keep [] H H' → H x = none → RuleIs K H' x ns ls → Q (.ref x) H'
section
variable {P : Program} {w : World} {K : PySem.W.Frag} {mg : Str → Option Value} {base : Heap}
abbrev s_read_rule : Stmt := (top 24)
abbrev N_read_rule : List Str := ["text", "first", "others", "word", "names", "lines", "row", "line", "too_much"]
abbrev P_read_rule : List Str := ["text"]
theorem sc_read_rule : FnScope N_read_rule P_read_rule (defScope s_read_rule) := ⟨rfl, rfl, rfl, by decide +kernel, rfl, by decide +kernel, by decide +kernel⟩
theorem Dread_rule (W : Cw fas fns K mg) (IR : ∃ fd, FnOk P w K mg base (CX P w) 5 (He.ma K (He.ga K "Rule") "__init__") fd ["self", "registers", "lines"] (spMakeRule K) ∧ Binds K fd ["self", "registers", "lines"] [])
    (Dare_registers : DefOk P w K mg base CX0 2 "are_registers" P_are_registers (fun vs H Q _ => ∃ v d, vs = [v] ∧ Dq K H v d ∧ (∀ e ∈ itemsOf d, ∀ x, e = .str x → x.length ≤ 1000) ∧ ∀ H', Keep [] H H' → Q (.bl (isRegs d)) H'))
    (Dread_line : DefOk P w K mg base CX0 3 "read_line" P_read_line (spReadLine K)) (Dis_line : DefOk P w K mg base CX0 3 "is_line" P_is_line (spCheckL K LayL isLine)) (Dline_text : DefOk P w K mg base CX0 2 "line_text" P_line_text (spLineText K)) : DefB P w K mg base CX0 7 "read_rule" P_read_rule (spReadRule K) := by
  refine DefB.of W 16 18 (st := s_read_rule) rfl rfl sc_read_rule (fun _ _ _ _ _ _ us hl => match us, hl with | [_], _ => rfl) (fun _ _ _ _ _ _ ws hl => match ws, hl with | [_], _ => rfl) (fun vs H Q E h => ?_) (fun cdv A outer s H vs Q E hr h => ?_)
  · obtain ⟨ns, ls, rfl, _⟩ := h
    rfl
  · obtain ⟨ns, ls, rfl, hv, k⟩ := h
    obtain ⟨fdR, FR, bR⟩ := IR
    have MR : Mk K (He.ga K "Rule") (He.ma K (He.ga K "Rule") "__init__") := He.mkr_ok (W.fact 61)
    have gR := W.glo 8
    refine ⟨_, PSs.nox (Evl.pss_cut (ps_if (pt_not (pt_val (pe_callB call_isi (by rfl) (W.fre 45) (by decide +kernel) (pa_cons (pv 0) (pa_cons (pe_bltn (v := .ty "str") (by rfl) (W.fre 53) (show bootBuiltins "str" = some (.type "str") by decide +kernel) rfl) pa_nil))))) (pss_one SM.ps_never) pss_nil) (Evl.pss_cut (ps_asg (pe_split (pv 0) pe_str) (SM.pg_star1 (by rfl) (pgs_cons (pg_name (i := 1) sc_read_rule.nd rfl (by first | exact Or.inl rfl | exact Or.inr rfl)) (SM.pgs_consS (pg_name (i := 2) sc_read_rule.nd rfl (by first | exact Or.inl rfl | exact Or.inr rfl)) pgs_nil)))) (Evl.pss_cut (ps_asg (pe_split (pv 1) pe_str) (SM.pg_star1 (by rfl) (pgs_cons (pg_name (i := 3) sc_read_rule.nd rfl (by first | exact Or.inl rfl | exact Or.inr rfl)) (SM.pgs_consS (pg_name (i := 4) sc_read_rule.nd rfl (by first | exact Or.inl rfl | exact Or.inr rfl)) pgs_nil)))) (Evl.pss_cut (ps_if (PW.pt (pw_or (pt_cmpR op_ne (pv 3) pe_str (nomark _)) (pw_or1 (pt_not (pt_val (SM.pe_callD Dare_registers (hr.mono (by decide)) pass0 (pa_cons (pv 4) pa_nil))))))) (pss_one SM.ps_never) pss_nil) (Evl.pss_cut (ps_set (i := 5) sc_read_rule.nd rfl (by first | exact Or.inl rfl | exact Or.inr rfl) (pe_lst pa_nil)) (Evl.pss_cut (ps_for PassesOwn.never rfl (pi_list (pv 2)) (pg_name (i := 6) sc_read_rule.nd rfl (by first | exact Or.inl rfl | exact Or.inr rfl)) (Evl.pss_cut (ps_set (i := 7) sc_read_rule.nd rfl (by first | exact Or.inl rfl | exact Or.inr rfl) (SM.pe_callD Dread_line (hr.mono (by decide)) pass0 (pa_cons (pv 6) pa_nil))) (Evl.pss_cut (ps_set (i := 8) sc_read_rule.nd rfl (by first | exact Or.inl rfl | exact Or.inr rfl) (pe_or (pe_cmpR op_eq (pe_callB call_len_seq (by rfl) (W.fre 46) (by decide +kernel) (pa_cons (pv 5) pa_nil)) pe_int (nomark _)) (pe_one (pe_and (pe_cmpR op_eq (pe_callB call_len_seq (by rfl) (W.fre 46) (by decide +kernel) (pa_cons (pv 5) pa_nil)) pe_int (nomark _)) (pe_one (pe_cmpR (op_neD hr.units) (pe_ix ix_seq (pv 7) pe_int (fun _ _ => rfl)) (pe_tup pa_nil) (nomark _))))))) (Evl.pss_cut (ps_if (PW.pt (pw_or (pt_val (pv 8)) (pw_or (pt_not (pt_val (SM.pe_callD Dis_line (hr.mono (by decide)) pass0 (pa_cons (pv 7) (pa_cons (pe_callTy call_tuple_of (by rfl) (W.fre 54) (by decide +kernel) (pa_cons (pv 4) pa_nil)) pa_nil))))) (pw_or1 (pt_cmpR op_ne (SM.pe_callD Dline_text (hr.mono (by decide)) pass0 (pa_cons (pv 7) pa_nil)) (pv 6) (nomark _)))))) (pss_one SM.ps_never) pss_nil) (pss_one (ps_expr (pe_bm PySem.F.plainAttrs_list PySem.F.slot_list_append PySem.F.type_list_append mt_append (pv 5) (pa_cons (pv 7) pa_nil)))))))) (Evl.pss_cut (ps_if (PW.pt (pw_or (pt_not (pt_truth (pv 5) (by intro _; rfl))) (pw_or1 (pt_cmpR (op_neD hr.units) (pe_ix ix_seq (pe_ix ix_seq (pv 5) (pe_un un_neg pe_int) (fun _ _ => rfl)) pe_int (fun _ _ => rfl)) (pe_tup pa_nil) (nomark _))))) (pss_one SM.ps_never) pss_nil) (pss_one (ps_ret (pe_make MR FR (hr.mono (by decide)) (by rfl) gR bR .nil (passes_call (W := fun _ _ _ _ => False) (E := E0) takes0 (fun _ _ _ _ h => h)) (pa_cons (pv 4) (pa_cons (pv 5) pa_nil)))))))))))), ?_⟩
    have n3 := hv.okN.1
    have l8 := hv.few
    have wo := hv.words
    have lo := hv.lnOk
    let T : Option V → Option V → Option V → Option V → Option V → Option V → Option V → Option V → L2.St := fun x1 x2 x3 x4 x5 x6 x7 x8 => [some (.str (ruleT ns ls)), x1, x2, x3, x4, x5, x6, x7, x8]
    refine ⟨fun σ' H' => σ' = T none none none none none none none none ∧ H' = H, ?_, ?_⟩
    · exact ⟨_, rfl, _, _, _, _, _, rfl, .ty _, .base (.str _), kit_str (.str (ruleT ns ls)), _, rfl, iteF ⟨rfl, rfl⟩⟩
    rintro σ' H1 ⟨rfl, rfl⟩
    let F : Str := Txt.join " " (("registers" : Str) :: ns)
    refine ⟨fun σ' H' => ∃ oa, σ' = T (some (.str F)) (some (.ref oa)) none none none none none none ∧ Keep [] H1 H' ∧ H' oa = some (.lst ((ls.map lineT).map V.str)), ?_, ?_⟩
    · refine ⟨_, rfl, ⟨_, rfl⟩, ruleT ns ls, "\n", rfl, rfl, ne0 _, big (Nat.le_trans (rule_len n3 wo l8.2 lo) (by decide)), ?_⟩
      rw [split_rule wo lo]
      intro p hp
      have kp : Keep [] H1 (upd H1 p (.lst ((F :: ls.map lineT).map V.str))) := Keep.new hp
      exact ⟨p, .str F, (ls.map lineT).map V.str, rfl, SqL.of upd_same, fun q hq => ⟨_, _, rfl, _, _, rfl, rfl, q, rfl, kp.trans (Keep.new hq), upd_same⟩⟩
    rintro σ' H2 ⟨oa, rfl, k2, eoa⟩
    refine ⟨fun σ' H' => ∃ na, σ' = T (some (.str F)) (some (.ref oa)) (some (.str "registers")) (some (.ref na)) none none none none ∧ Keep [] H2 H' ∧ H' na = some (.lst (ns.map V.str)), ?_, ?_⟩
    · refine ⟨_, rfl, ⟨_, rfl⟩, F, " ", rfl, rfl, ne0 _, big (Nat.le_trans (head_len n3 wo) (by decide)), ?_⟩
      rw [split_head wo]
      intro p hp
      have kp : Keep [] H2 (upd H2 p (.lst ((("registers" : Str) :: ns).map V.str))) := Keep.new hp
      exact ⟨p, .str "registers", ns.map V.str, rfl, SqL.of upd_same, fun q hq => ⟨_, _, rfl, _, _, rfl, rfl, q, rfl, kp.trans (Keep.new hq), upd_same⟩⟩
    rintro σ' H3 ⟨na, rfl, k3, ena⟩
    have short : ∀ e ∈ itemsOf (.list (ns.map .str)), ∀ x, e = .str x → x.length ≤ 1000 := fun e he x q => by
      obtain ⟨z, hz, rfl⟩ := List.mem_map.mp he
      cases q
      exact Nat.le_trans (hv.okN.2.2 _ hz) (by decide)
    let S : Option V → Option V → Option V → Option V → L2.St := fun x5 x6 x7 x8 => T (some (.str F)) (some (.ref oa)) (some (.str "registers")) (some (.ref na)) x5 x6 x7 x8
    refine ⟨fun σ' H' => σ' = S none none none none ∧ Keep [] H3 H', ?_, ?_⟩
    · refine ⟨_, rfl, rfl, _, rfl, ite2 (fun h => absurd h (by simp)) (fun _ => ?_)⟩
      refine ⟨_, rfl, .ref na, .list (ns.map .str), rfl, .lst (SqL.of ena) (DqAll.strs ns), short, fun H4 k4 => ⟨_, rfl, ?_⟩⟩
      rw [hv.regs2.1]
      exact iteF ⟨rfl, k4⟩
    rintro σ' H4 ⟨rfl, k4⟩
    refine ⟨fun σ' H' => ∃ fa, σ' = S (some (.ref fa)) none none none ∧ Keep [] H4 H' ∧ H' fa = some (.lst []) ∧ H4 fa = none, ?_, ?_⟩
    · exact ⟨Nat.zero_le _, fun q hq => ⟨q, rfl, Keep.new hq, upd_same, hq⟩⟩
    rintro σ' H5 ⟨fa, rfl, k5, efa, hfa⟩
    have k25 : Keep [] H2 H5 := k3.trans (k4.trans k5)
    let Pv : Nat → L2.St → Hp → Prop := fun i σ' H' => ∃ xs x6 x7 x8, σ' = S (some (.ref fa)) x6 x7 x8 ∧ Keep [] H4 H' ∧ H' fa = some (.lst xs) ∧ DtAll K H' xs ((ls.take i).map lnD)
    refine ⟨Pv ls.length, ?_, ?_⟩
    · have llen : ((ls.map lineT).map V.str).length = ls.length := by rw [List.length_map, List.length_map]
      refine ⟨_, rfl, oa, rfl, ⟨_, SqL.of (k25.to eoa)⟩, for_list (K := K) (a := oa) (xs := (ls.map lineT).map V.str) Pv ⟨[], none, none, none, rfl, k5, efa, .nil⟩ (fun i σ H _ z => by obtain ⟨_, _, _, _, _, kk, _⟩ := z; exact SqL.of (kk.to (k4.to (k3.to eoa)))) ?_ (fun σ' H' z => by rw [llen] at z; exact z)⟩
      rintro i y σ' H6 hy ⟨xs, x6, x7, x8, rfl, k6, exs, dxs⟩
      obtain ⟨p', hp', rfl⟩ := map_get hy
      obtain ⟨ln, hln, rfl⟩ := map_get hp'
      have okl := lo ln (List.mem_of_getElem? hln)
      have gl := hv.good ln (List.mem_of_getElem? hln)
      have hi : i < ls.length := (List.getElem?_eq_some_iff.mp hln).1
      have lxs : xs.length = i := by rw [dxs.length, List.length_map, List.length_take]; omega
      have fao : ∀ {H'}, Keep [] H6 H' → H' fa = some (.lst xs) := fun kk => kk.to exs
      refine ⟨fun σ' H' => ∃ lv, σ' = S (some (.ref fa)) (some (.str (lineT ln))) (some lv) x8 ∧ Keep [] H6 H' ∧ Dt K H' lv (lnD ln), ?_, ?_⟩
      · exact ⟨_, rfl, ln, rfl, okl, fun v H' k' d => ⟨v, rfl, k', d⟩⟩
      rintro σ' H7 ⟨lv, rfl, k7, dlv⟩
      obtain ⟨la, lxs', rfl, sla, dla⟩ := dlv.items
      cases dla with
      | @cons t0 tr _ _ dt0 dtr =>
      refine ⟨fun σ' H' => σ' = S (some (.ref fa)) (some (.str (lineT ln))) (some (.ref la)) (some (.bl false)) ∧ Keep [] H7 H', ?_, ?_⟩
      · refine ⟨_, rfl, fa, _, rfl, .inl (SqL.of (k7.to exs)), rfl, false, ?_, iteF ?_⟩
        · rw [lxs, decide_eq_false fun z => by have := V.int.inj z; omega]
        · refine ⟨_, rfl, fa, _, rfl, .inl (SqL.of (k7.to exs)), rfl, _, rfl, ?_⟩
          by_cases i7 : i = 7
          · refine yesI (by omega) ?_
            have te : ln.tests = [] := hv.lastAt hln (by omega)
            refine ⟨_, rfl, .inr (.inl ⟨la, _, 0, t0, rfl, rfl, sla, at0 _ _, Nat.zero_le _, fun q hq => ?_⟩)⟩
            have kq : Keep [] H7 (upd H7 q (.tup [])) := Keep.new hq
            refine ⟨testsD ln.tests, .tuple [], (dt0.k0 kq).dp, .tup (SqT.of upd_same) .nil, by rw [te]; decide +kernel, by decide +kernel, ?_⟩
            rw [te, show PyData.eqv (testsD []) (.tuple []) = true by decide +kernel]
            exact ⟨rfl, kq⟩
          · exact noI (by omega) ⟨rfl, Keep.refl⟩
      rintro σ' H8 ⟨rfl, k8⟩
      have k48 : Keep [] H4 H8 := k6.trans (k7.trans k8)
      refine ⟨fun σ' H' => σ' = S (some (.ref fa)) (some (.str (lineT ln))) (some (.ref la)) (some (.bl false)) ∧ Keep [] H8 H', ?_, ?_⟩
      · refine ⟨_, rfl, false, rfl, iteF ⟨_, rfl, _, rfl, na, _, rfl, .inl ⟨SqL.of (k48.to (k4.to ena)), fun q hq => ?_⟩⟩⟩
        have kq : Keep [] H8 (upd H8 q (.tup (ns.map V.str))) := Keep.new hq
        refine ⟨.ref la, q, lnD ln, ns, rfl, (dlv.k0 (k8.trans kq)).dq, goodL_lay hv.okN.2.1 gl, ⟨SqT.of upd_same, n3, hv.okN.2.1⟩, fun H9 k9 => ⟨_, rfl, ?_⟩⟩
        rw [good_isLine gl]
        refine iteF ⟨_, rfl, .ref la, ln, rfl, dlv.k0 (k8.trans (kq.trans k9)), okl, fun H10 k10 => ⟨_, rfl, rfl, _, rfl, ite2 (fun h => absurd h (by simp)) (fun _ => ⟨rfl, kq.trans (k9.trans k10)⟩)⟩⟩
      rintro σ' H9 ⟨rfl, k9⟩
      have k69 : Keep [] H6 H9 := k7.trans (k8.trans k9)
      refine ⟨_, rfl, .inl ⟨rfl, _, SqL.of (k69.to exs)⟩, _, rfl, fa, xs, .ref la, rfl, rfl, k69.to exs, ?_, xs ++ [.ref la], _, _, _, rfl, Keep.own (k6.trans k69) hfa, upd_same, ?_⟩
      · rw [lxs]
        exact Nat.lt_of_lt_of_le (show i < 100 by omega) (by decide)
      · rw [List.take_succ, hln, Option.toList_some, List.map_append]
        exact ((dxs.k0 k69).append (.cons (dlv.k0 (k8.trans k9)) .nil)).keep (Keep.at_ (m := [fa]) (by simp)) (Soft.lst (k69.to exs))
    rintro σ' H6 ⟨xs, x6, x7, x8, rfl, k6, exs, dxs⟩
    rw [List.take_length] at dxs
    have lxs : xs.length = ls.length := by rw [dxs.length, List.length_map]
    refine ⟨fun σ' H' => σ' = S (some (.ref fa)) x6 x7 x8 ∧ Keep [] H6 H', ?_, ?_⟩
    · have hl : ls.length - 1 < ls.length := by omega
      have el : ls[ls.length - 1]? = some ls[ls.length - 1] := List.getElem?_eq_getElem hl
      have te := hv.last _ el
      obtain ⟨v, hv', dv⟩ := dxs.getD (i := ls.length - 1) (d := lnD ls[ls.length - 1]) (by rw [List.getElem?_map, el]; rfl)
      have av : atI xs (-1) = some v := at_negL (by rw [lxs]; exact hv')
      obtain ⟨la, us, rfl, sla, dla⟩ := dv.items
      cases dla with
      | @cons t0 tr _ _ dt0 dtr =>
      have ne : xs.isEmpty = false := by
        cases xs with
        | nil => simp at lxs; omega
        | cons _ _ => rfl
      refine ⟨_, rfl, _, .inl ⟨xs, SqL.of exs, rfl⟩, ?_⟩
      rw [ne]
      refine iteF ⟨_, rfl, 1, rfl, .inl ⟨fa, xs, -1, _, rfl, rfl, SqL.of exs, av, .inr (.inl ⟨la, _, 0, t0, rfl, rfl, sla, at0 _ _, Nat.zero_le _, fun q hq => ?_⟩)⟩⟩
      have kq : Keep [] H6 (upd H6 q (.tup [])) := Keep.new hq
      refine ⟨testsD _, .tuple [], (dt0.k0 kq).dp, .tup (SqT.of upd_same) .nil, by rw [te]; decide +kernel, by decide +kernel, _, rfl, ?_⟩
      rw [te, show PyData.eqv (testsD []) (.tuple []) = true by decide +kernel]
      exact iteF ⟨rfl, kq⟩
    rintro σ' H7 ⟨rfl, k7⟩
    have k17 : Keep [] H1 H7 := k2.trans (k3.trans (k4.trans (k6.trans k7)))
    refine ⟨_, rfl, _, rfl, ?_⟩
    show ∀ x dx, _
    intro x dx nx ndx ne
    have ka : Keep [] H7 (upd H7 dx (.own x)) := Keep.new ndx
    have kb : Keep [] (upd H7 dx (.own x)) (upd (upd H7 dx (.own x)) x (.ins (He.ga K "Rule") dx [])) := Keep.new (by rw [upd_ne ne.symm]; exact nx)
    have kab := ka.trans kb
    refine make_rule upd_same (dr := .list (ns.map .str)) (dl := .list (ls.map lnD)) ?_ ?_ hv rfl rfl hv.regs2.1 hv.regs2.2.2.1 fun H' k' ri => ⟨rfl, ?_⟩
    · exact .lst (SqL.of (kab.to (k7.to (k6.to (k4.to ena))))) (DqAll.strs ns)
    · exact .lst (SqL.of (kab.to (k7.to exs))) ((dxs.k0 (k7.trans kab)).dq)
    · exact k x H' (k17.trans (kab.offNew k' nx)) (k17.free (by simp) nx) ri
end
end La
set_option Elab.async false
set_option linter.all false
set_option maxRecDepth 100000
set_option maxHeartbeats 4000000
namespace La
open PySem PySem.Spec PyProof.Rows L2 SM
def spLines (K : PySem.W.Frag) : Sp := fun vs H Q _ => ∃ v ns ls, vs = [v] ∧ Dt K H v (planD ns ls) ∧ VRule ns ls ∧ ∀ p H', Keep [] H H' → H' p = some (.lst ((Txt.join " " (("registers" : Str) :: ns) :: ls.map lineT).map V.str)) → Q (.ref p) H'
theorem eqv_tnil2 (ds : List PyData) : PyData.eqv (.tuple ds) (.tuple []) = ds.isEmpty := by
  cases ds <;> rw [PyData.eqv, PyData.eqvAll] <;> rfl
theorem eqv_lnil2 (ds : List PyData) : PyData.eqv (.list ds) (.list []) = ds.isEmpty := by
  cases ds <;> rw [PyData.eqv, PyData.eqvAll] <;> rfl
theorem word_okS {w : Str} (h : WordT w) : PyData.strOk w = true := by
  show (w.cps.all (· < 0x110000)) = true
  rw [Array.all_eq_true']
  intro d hd
  have := (h.let_ d (Array.mem_toList_iff.mpr hd)).2
  exact decide_eq_true (by omega)
theorem testT_ok {t : Str × Str × Bool} (h : TestOk t) : PyData.strOk (testT t) = true := by
  show ((testT t).cps.all (· < 0x110000)) = true
  rw [Array.all_eq_true']
  intro d hd
  have hd : d ∈ TL.tl (testT t) := Array.mem_toList_iff.mpr hd
  rw [tl_testT] at hd
  simp only [List.mem_append] at hd
  refine decide_eq_true ?_
  rcases hd with hd | hd | hd
  · have := (h.1.let_ d hd).2
    omega
  · split at hd <;> simp only [List.mem_cons, List.not_mem_nil, or_false] at hd <;> omega
  · have := (h.2.let_ d hd).2
    omega
section
variable {P : Program} {w : World} {K : PySem.W.Frag} {mg : Str → Option Value} {base : Heap}
abbrev s__law_written : Stmt := (top 43)
abbrev N__law_written : List Str := ["steps", "step"]
abbrev P__law_written : List Str := ["steps"]
theorem sc__law_written : FnScope N__law_written P__law_written (defScope s__law_written) := ⟨rfl, rfl, rfl, by decide +kernel, rfl, by decide +kernel, by decide +kernel⟩
theorem D_law_written (W : Cw fas fns K mg) : DefOk P w K mg base CX0 1 "_law_written" P__law_written (spStepsText K) := by
  refine DefOk.of W 34 36 (st := s__law_written) rfl rfl sc__law_written (fun _ _ _ _ _ _ us hl => match us, hl with | [_], _ => rfl) (fun vs H Q E h => ?_) (fun cdv A outer s H vs Q E hr h => ?_)
  · obtain ⟨v, l, rfl, _⟩ := h
    rfl
  · obtain ⟨v, l, rfl, dv, l4, ok, k⟩ := h
    refine ⟨_, PSs.nox (Evl.pss_cut (ps_if (pt_cmpR (op_eqD hr.units) (pv 0) (pe_tup pa_nil) (nomark _)) (pss_one (ps_ret pe_str)) pss_nil) (pss_one (ps_ret (pe_join pe_str (pe_lc (own := [("step", 1)]) (g := gName 1) (tt := tYes) (te := tOp (fun x y H Q => ∃ i j, x = .str i ∧ y = .str j ∧ i.length + j.length ≤ sizeLine ∧ Q (.str (i ++ j)) H) (tOp (fun x y H Q => ∃ i j, x = .str i ∧ y = .str j ∧ i.length + j.length ≤ sizeLine ∧ Q (.str (i ++ j)) H) (tOp (rIx K) (tVar 1) (tC (.int 0))) (tC (.str " from "))) (tOp (rIx K) (tVar 1) (tC (.int 1)))) (by rfl) sc__law_written.nd (pi_tup (pv 0)) (blkOk_by (own := [("step", 1)]) (N := N__law_written) (sc := defScope s__law_written) (by decide +kernel)) (fun _ _ _ _ _ => pg_name (i := 1) sc__law_written.nd rfl (Or.inl rfl)) (fun _ _ _ _ _ => pts_nil) (fun _ _ _ _ _ => (pe_op op_add_str (pe_op op_add_str (pe_ix ix_seq (pv 1) pe_int (fun _ _ => rfl)) pe_str) (pe_ix ix_seq (pv 1) pe_int (fun _ _ => rfl))))))))), ?_⟩
    obtain ⟨a, xs, rfl, sq, dx⟩ := dv.items
    have lx : xs.length = l.length := by rw [dx.length, List.length_map]
    have sh : SeqAt.shaped (stepsD l) = true := by
      refine (Lay.tuple (n := 1) fun d hd => ?_).shaped (by decide)
      obtain ⟨z, hz, rfl⟩ := List.mem_map.mp hd
      have o := ok z hz
      refine Lay.tuple (n := 0) fun e he => ?_
      simp only [List.mem_cons, List.not_mem_nil, or_false] at he
      rcases he with rfl | rfl
      · exact .str (word_okS o.1)
      · exact .str (word_okS o.2)
    refine ⟨fun σ' H' => σ' = [some (.ref a), none] ∧ Keep [] H H' ∧ l ≠ [], ?_, ?_⟩
    · refine ⟨_, rfl, Nat.zero_le _, fun q hq => ?_⟩
      have kq : Keep [] H (upd H q (.tup [])) := Keep.new hq
      refine ⟨stepsD l, .tuple [], (dv.k0 kq).dp, .tup (SqT.of upd_same) .nil, sh, by decide +kernel, _, rfl, ?_⟩
      rw [stepsD, eqv_tnil2]
      cases l with
      | nil => exact iteT (k _ kq)
      | cons s0 l => exact iteF ⟨rfl, kq, List.cons_ne_nil _ _⟩
    rintro σ' H1 ⟨rfl, k1, nl⟩
    refine ⟨⟨_, rfl⟩, ?_⟩
    refine tupLs (K := K) (H0 := H1) (xs := xs) (rs := (l.map stepT).map .str) Keep.refl (by omega) (by rw [List.length_map, List.length_map, lx]) (fun H2 k2 Q1 q1 => ⟨_, rfl, q1 a H2 Keep.refl (seqT_keep (k1.trans k2) Soft.nil sq)⟩) (fun i x r H2 hx hr2 k2 Q' q' => ?_) fun D ys H' k' eD dy => ?_
    · obtain ⟨d, hd, dd⟩ := dx.get hx
      obtain ⟨p', hp', rfl⟩ := map_get hr2
      obtain ⟨st, hst, rfl⟩ := map_get hp'
      obtain ⟨st', hst', rfl⟩ := map_get hd
      rw [hst] at hst'
      cases hst'
      have okS := ok st (List.mem_of_getElem? hst)
      obtain ⟨p, us, rfl, sp, du⟩ := dd.items
      cases du with
      | @cons u0 r0 e0 f0 g0 du =>
      cases du with
      | @cons u1 r1 e1 f1 g1 du =>
      cases du
      cases g0
      cases g1
      have w1 := okS.1.few
      have w2 := okS.2.few
      have wf : (" from " : Str).length = 6 := by decide +kernel
      have wl := add_len st.1 " from "
      have sp2 := seqT_keep (k1.trans k2) Soft.nil sp
      refine ⟨rfl, _, rfl, .inr (.inl ⟨p, _, 0, _, rfl, rfl, sp2, at0 _ _, st.1, " from ", rfl, rfl, Nat.le_trans (show st.1.length + (" from " : Str).length ≤ 100 by omega) (by decide), _, rfl, .inr (.inl ⟨p, _, 1, _, rfl, rfl, sp2, at1 _ _ _, st.1 ++ " from ", st.2, rfl, rfl, ?_, q' _ H2 Keep.refl (.str _)⟩)⟩)⟩
      exact Nat.le_trans (show (st.1 ++ (" from " : Str)).length + st.2.length ≤ 100 by omega) (by decide)
    · rw [stepsT, if_neg nl] at k
      rw [strs_of dy] at eD
      exact ⟨", ", D, l.map stepT, rfl, rfl, .inl (SqL.of eD), sum4 (m := 30) (fun p hp => by obtain ⟨z, hz, rfl⟩ := List.mem_map.mp hp; exact step_len (ok z hz)) (by rw [List.length_map]; omega) (by decide) _ (by decide +kernel), k H' (k1.trans k')⟩
abbrev s__law_lines : Stmt := (top 44)
abbrev N__law_lines : List Str := ["plan", "found", "line", "tests", "test", "head", "lists", "steps"]
abbrev P__law_lines : List Str := ["plan"]
theorem sc__law_lines : FnScope N__law_lines P__law_lines (defScope s__law_lines) := ⟨rfl, rfl, rfl, by decide +kernel, rfl, by decide +kernel, by decide +kernel⟩
theorem D_law_lines (W : Cw fas fns K mg) (D_law_written : DefOk P w K mg base CX0 1 "_law_written" P__law_written (spStepsText K)) : DefOk P w K mg base CX0 2 "_law_lines" P__law_lines (spLines K) := by
  refine DefOk.of W 35 37 (st := s__law_lines) rfl rfl sc__law_lines (fun _ _ _ _ _ _ us hl => match us, hl with | [_], _ => rfl) (fun vs H Q E h => ?_) (fun cdv A outer s H vs Q E hr h => ?_)
  · obtain ⟨v, ns, ls, rfl, _⟩ := h
    rfl
  · obtain ⟨v, ns, ls, rfl, dv, hv, k⟩ := h
    refine ⟨_, PSs.nox (Evl.pss_cut (ps_set (i := 1) sc__law_lines.nd rfl (by first | exact Or.inl rfl | exact Or.inr rfl) (pe_lst (pa_cons (pe_join pe_str (pe_op op_cat (pe_lst (pa_cons pe_str pa_nil)) (pe_callTy call_list_of (by rfl) (W.fre 47) (by decide +kernel) (pa_cons (pe_ix ix_seq (pv 0) pe_int (fun _ _ => rfl)) pa_nil)))) pa_nil))) (Evl.pss_cut (ps_for PassesOwn.never rfl (pi_tup (pe_ix ix_seq (pv 0) pe_int (fun _ _ => rfl))) (pg_name (i := 2) sc__law_lines.nd rfl (by first | exact Or.inl rfl | exact Or.inr rfl)) (Evl.pss_cut (ps_setLc (i := 3) (own := [("test", 4)]) (g := gName 4) (tt := tYes) (te := tOp (fun x y H Q => ∃ i j, x = .str i ∧ y = .str j ∧ i.length + j.length ≤ sizeLine ∧ Q (.str (i ++ j)) H) (tOp (fun x y H Q => ∃ i j, x = .str i ∧ y = .str j ∧ i.length + j.length ≤ sizeLine ∧ Q (.str (i ++ j)) H) (tOp (rIx K) (tVar 4) (tC (.int 0))) (tIf (tB (tOp (rIx K) (tVar 4) (tC (.int 2)))) (tC (.str " is ")) (tC (.str " is not ")))) (tOp (rIx K) (tVar 4) (tC (.int 1)))) (by rfl) sc__law_lines.nd rfl rfl (sw_true rfl rfl rfl (by decide +kernel)) (pi_tup (pe_ix ix_seq (pv 2) pe_int (fun _ _ => rfl))) (blkOk_by (own := [("test", 4)]) (N := N__law_lines) (sc := defScope s__law_lines) (by decide +kernel)) (fun _ _ _ _ _ => pg_name (i := 4) sc__law_lines.nd rfl (Or.inl rfl)) (fun _ _ _ _ _ => pts_nil) (fun _ _ _ _ _ => (pe_op op_add_str (pe_op op_add_str (pe_ix ix_seq (pv 4) pe_int (fun _ _ => rfl)) (pe_ifExp (pt_val (pe_ix ix_seq (pv 4) pe_int (fun _ _ => rfl))) pe_str pe_str)) (pe_ix ix_seq (pv 4) pe_int (fun _ _ => rfl))))) (Evl.pss_cut (ps_set (i := 5) sc__law_lines.nd rfl (by first | exact Or.inl rfl | exact Or.inr rfl) (pe_ifExp (pt_cmpR (op_neD hr.units) (pv 3) (pe_lst pa_nil) (nomark _)) (pe_join pe_str (pv 3)) pe_str)) (Evl.pss_cut (ps_setLc (i := 6) (own := [("steps", 7)]) (g := gName 7) (tt := tYes) (te := tCall (spStepsText K) [] E0 (tCons (tVar 7) tNil)) (by rfl) sc__law_lines.nd rfl rfl (sw_true rfl rfl rfl (by decide +kernel)) (pi_tup (pe_slice sl_tup (pv 2) (po_some pe_int) po_none)) (blkOk_by (own := [("steps", 7)]) (N := N__law_lines) (sc := defScope s__law_lines) (by decide +kernel)) (fun _ _ _ _ _ => pg_name (i := 7) sc__law_lines.nd rfl (Or.inl rfl)) (fun _ _ _ _ _ => pts_nil) (fun _ _ _ _ _ => (SM.pe_callD D_law_written (hr.mono (by decide)) pass0 (pa_cons (pv 7) pa_nil)))) (pss_one (ps_expr (pe_bm PySem.F.plainAttrs_list PySem.F.slot_list_append PySem.F.type_list_append mt_append (pv 1) (pa_cons (pe_op op_add_str (pe_op op_add_str (pv 5) pe_str) (pe_ifExp (pt_cmpR op_eq (pe_callB call_len_seq (by rfl) (W.fre 46) (by decide +kernel) (pa_cons (pv 6) pa_nil)) pe_int (nomark _)) (pe_ix ix_seq (pv 6) pe_int (fun _ _ => rfl)) (pe_op op_add_str (pe_op op_add_str (pe_op op_add_str pe_str (pe_ix ix_seq (pv 6) pe_int (fun _ _ => rfl))) pe_str) (pe_ix ix_seq (pv 6) pe_int (fun _ _ => rfl))))) pa_nil)))))))) (pss_one (ps_ret (pv 1))))), ?_⟩
    have n3 := hv.okN.1
    have l8 := hv.few
    have wo := hv.words
    have lo := hv.lnOk
    have c9 : ("registers" : Str).length = 9 := by decide +kernel
    obtain ⟨va, us, rfl, sva, dus⟩ := dv.items
    cases dus with
    | @cons u0 _ _ _ d0 dus =>
    cases dus with
    | @cons u1 _ _ _ d1 dus =>
    cases dus
    obtain ⟨na, nsv, rfl, sna, dns⟩ := d0.items
    rw [strs_of dns] at sna
    obtain ⟨lna, lsv, rfl, slna, dls⟩ := d1.items
    have lx : lsv.length = ls.length := by rw [dls.length, linesD, List.length_map]
    let F : Str := Txt.join " " (("registers" : Str) :: ns)
    let T : Option V → Option V → Option V → Option V → Option V → L2.St := fun x1 x2 x3 x5 x6 => [some (.ref va), x1, x2, x3, none, x5, x6, none]
    refine ⟨fun σ' H' => ∃ fa, σ' = T (some (.ref fa)) none none none none ∧ Keep [] H H' ∧ H' fa = some (.lst [.str F]) ∧ H fa = none, ?_, ?_⟩
    · refine ⟨⟨_, rfl⟩, (by show 1 ≤ sizeLine; decide), fun p hp => ?_⟩
      have kp : Keep [] H (upd H p (.lst [.str "registers"])) := Keep.new hp
      refine ⟨_, rfl, .inr (.inl ⟨va, _, 0, _, rfl, rfl, seqT_keep kp Soft.nil sva, at0 _ _, na, _, rfl, .inr (seqT_keep kp Soft.nil sna), fun p2 hp2 => ?_⟩)⟩
      have kp2 : Keep [] (upd H p (.lst [.str "registers"])) (upd (upd H p (.lst [.str "registers"])) p2 (.lst (ns.map V.str))) := Keep.new hp2
      have ep : upd (upd H p (.lst [.str "registers"])) p2 (.lst (ns.map V.str)) p = some (.lst [.str "registers"]) := kp2.to upd_same
      have ep2 : upd (upd H p (.lst [.str "registers"])) p2 (.lst (ns.map V.str)) p2 = some (.lst (ns.map V.str)) := upd_same
      have k2 := kp.trans kp2
      generalize upd (upd H p (.lst [V.str "registers"])) p2 (.lst (ns.map V.str)) = H2 at ep ep2 k2 ⊢
      refine ⟨p, p2, _, _, rfl, rfl, ep, ep2, by rw [List.length_map]; exact Nat.le_trans (show 1 + ns.length ≤ 100 by omega) (by decide), fun p3 hp3 => ?_⟩
      have k3 : Keep [] H2 (upd H2 p3 (.lst ([V.str "registers"] ++ ns.map V.str))) := Keep.new hp3
      have e3 : upd H2 p3 (.lst ([V.str "registers"] ++ ns.map V.str)) p3 = some (.lst ((("registers" : Str) :: ns).map V.str)) := upd_same
      have k23 := k2.trans k3
      generalize upd H2 p3 (.lst ([V.str "registers"] ++ ns.map V.str)) = H3 at e3 k23 ⊢
      refine ⟨" ", p3, ("registers" : Str) :: ns, rfl, rfl, .inl (SqL.of e3), sum4 (m := 9) (fun q hq => ?_) (by rw [List.length_cons]; omega) (by decide) _ (by decide +kernel), (by show 1 ≤ sizeLine; decide), fun p4 hp4 => ?_⟩
      · rcases List.mem_cons.mp hq with rfl | hq
        · omega
        · exact Nat.le_trans (wo q hq).few (by decide)
      exact ⟨p4, rfl, k23.trans (Keep.new hp4), upd_same, k23.free (by simp) hp4⟩
    rintro σ' H1 ⟨fa, rfl, k1, efa, hfa⟩
    let Pv : Nat → L2.St → Hp → Prop := fun i σ' H' => ∃ x2 x3 x5 x6, σ' = T (some (.ref fa)) x2 x3 x5 x6 ∧ Keep [] H H' ∧ H' fa = some (.lst ((F :: (ls.take i).map lineT).map V.str))
    refine ⟨Pv ls.length, ?_, ?_⟩
    · refine ⟨_, rfl, .inr (.inl ⟨va, _, 1, _, rfl, rfl, seqT_keep k1 Soft.nil sva, at1 _ _ _, lna, rfl, ⟨_, seqT_keep k1 Soft.nil slna⟩, for_tup (xs := lsv) Pv ⟨none, none, none, none, rfl, k1, efa⟩ (fun i σ' H' _ z => by obtain ⟨_, _, _, _, _, kk, _⟩ := z; exact seqT_keep kk Soft.nil slna) ?_ (fun σ' H' z => by rw [lx] at z; exact z)⟩)⟩
      rintro i y σ' H2 hy ⟨x2, x3, x5, x6, rfl, k2, ef2⟩
      obtain ⟨d, hd, dd⟩ := dls.get hy
      obtain ⟨ln, hln, rfl⟩ := map_get (show (ls.map lnD)[i]? = some d from hd)
      have okl := lo ln (List.mem_of_getElem? hln)
      have hi : i < ls.length := (List.getElem?_eq_some_iff.mp hln).1
      obtain ⟨la, xs, rfl, sq', dx⟩ := dd.items
      have sq := seqT_keep k2 Soft.nil sq'
      cases dx with
      | @cons x0 xr _ _ h0' tr' =>
      have h0 := h0'.k0 k2
      have tr := tr'.k0 k2
      rw [stepsOf_D] at tr
      have lr : xr.length = (stepsOf ln).length := by rw [tr.length, List.length_map]
      have l2 := stepsOf_len ln
      obtain ⟨ta, txs, rfl, st, dt⟩ := h0.items
      have lt : txs.length = ln.tests.length := by rw [dt.length, List.length_map]
      have t4 := okl.tests.1
      -- tests
      refine ⟨fun σ' H' => ∃ da, σ' = T (some (.ref fa)) (some (.ref la)) (some (.ref da)) x5 x6 ∧ Keep [] H2 H' ∧ H' da = some (.lst ((ln.tests.map testT).map V.str)), ?_, ?_⟩
      · refine rd_asg (tupLs (K := K) (H0 := H2) (xs := txs) (rs := (ln.tests.map testT).map .str) Keep.refl (by omega) (by rw [List.length_map, List.length_map, lt]) (fun H3 k3 Q1 q1 => ⟨_, rfl, .inr (.inl ⟨la, _, 0, _, rfl, rfl, seqT_keep k3 Soft.nil sq, at0 _ _, q1 ta H3 Keep.refl (seqT_keep k3 Soft.nil st)⟩)⟩) (fun j x r H3 hx hr2 k3 Q' q' => ?_) fun D ys H' k' eD dy => ?_)
        · obtain ⟨d, hd, dd⟩ := dt.get hx
          obtain ⟨p', hp', rfl⟩ := map_get hr2
          obtain ⟨t, ht, rfl⟩ := map_get hp'
          obtain ⟨t', ht', rfl⟩ := map_get hd
          rw [ht] at ht'
          cases ht'
          have okS := okl.tests.2 t (List.mem_of_getElem? ht)
          obtain ⟨p, us, rfl, sp, du⟩ := dd.items
          cases du with
          | @cons u0 r0 e0 f0 g0 du =>
          cases du with
          | @cons u1 r1 e1 f1 g1 du =>
          cases du with
          | @cons u2 r2 e2 f2 g2 du =>
          cases du
          cases g0
          cases g1
          cases g2
          have w3 : ∀ b : Bool, (if b = true then (" is " : Str) else " is not ").length ≤ 10 := by decide +kernel
          obtain ⟨s1, s2, b⟩ := t
          have w1 : s1.length ≤ 8 := okS.1.few
          have w2 : s2.length ≤ 8 := okS.2.few
          have w3b := w3 b
          have sp3 := seqT_keep k3 Soft.nil sp
          refine ⟨rfl, ?_⟩
          have go : ∀ m : Str, m = (if b = true then (" is " : Str) else " is not ") → ∃ i j, V.str s1 = V.str i ∧ V.str m = V.str j ∧ i.length + j.length ≤ sizeLine ∧ tOp (rIx K) (tVar 4) (tC (.int 1)) ((wipe (T (some (.ref fa)) (some (.ref la)) x3 x5 x6) [4]).set 4 (some (.ref p))) H3 (fun y H5 => ∃ i' j', V.str (i ++ j) = V.str i' ∧ y = .str j' ∧ i'.length + j'.length ≤ sizeLine ∧ Q' (.str (i' ++ j')) H5) := by
            rintro m rfl
            have l1 := add_len s1 (if b = true then (" is " : Str) else " is not ")
            exact ⟨s1, _, rfl, rfl, Nat.le_trans (show s1.length + (if b = true then (" is " : Str) else " is not ").length ≤ 100 by omega) (by decide), _, rfl, .inr (.inl ⟨p, _, 1, _, rfl, rfl, sp3, at1 _ _ _, _, s2, rfl, rfl, Nat.le_trans (show (s1 ++ (if b = true then (" is " : Str) else " is not ")).length + s2.length ≤ 100 by omega) (by decide), q' _ H3 Keep.refl (.str _)⟩)⟩
          cases b with
          | true => exact ⟨_, rfl, .inr (.inl ⟨p, _, 0, _, rfl, rfl, sp3, at0 _ _, _, rfl, .inr (.inl ⟨p, _, 2, _, rfl, rfl, sp3, at_of (j := 2) rfl rfl, true, rfl, iteT (go _ rfl)⟩)⟩)⟩
          | false => exact ⟨_, rfl, .inr (.inl ⟨p, _, 0, _, rfl, rfl, sp3, at0 _ _, _, rfl, .inr (.inl ⟨p, _, 2, _, rfl, rfl, sp3, at_of (j := 2) rfl rfl, false, rfl, iteF (go _ rfl)⟩)⟩)⟩
        · rw [strs_of dy] at eD
          exact ⟨D, rfl, k', eD⟩
      rintro σ' H3 ⟨da, rfl, k3, eda⟩
      -- head
      refine ⟨fun σ' H' => σ' = T (some (.ref fa)) (some (.ref la)) (some (.ref da)) (some (.str (testsT ln.tests))) x6 ∧ Keep [] H3 H', ?_, ?_⟩
      · refine rd_asg (rd_ife ⟨_, rfl, Nat.zero_le _, fun q hq => ?_⟩)
        have kq : Keep [] H3 (upd H3 q (.lst [])) := Keep.new hq
        have shp : SeqAt.shaped (.list ((ln.tests.map testT).map PyData.str)) = true := by
          refine (Lay.list (n := 0) fun d hd => ?_).shaped (by decide)
          obtain ⟨z, hz, rfl⟩ := List.mem_map.mp hd
          obtain ⟨t, ht, rfl⟩ := List.mem_map.mp hz
          exact .str (testT_ok (okl.tests.2 t ht))
        refine ⟨.list ((ln.tests.map testT).map .str), .list [], .lst (SqL.of (kq.to eda)) (dpStrs _), .lst (SqL.of upd_same) .nil, shp, by decide +kernel, _, rfl, ?_⟩
        rw [eqv_lnil2]
        by_cases n : ln.tests = []
        · rw [n]
          exact iteF ⟨by rw [testsT, if_pos rfl]; rfl, kq⟩
        · have ne : ((ln.tests.map testT).map PyData.str).isEmpty = false := by
            cases ht : ln.tests with
            | nil => exact absurd ht n
            | cons _ _ => rfl
          rw [ne]
          exact iteT ⟨⟨_, rfl⟩, _, rfl, ", ", da, ln.tests.map testT, rfl, rfl, .inl (SqL.of (kq.to eda)), sum4 (m := 30) (fun p hp => by obtain ⟨z, hz, rfl⟩ := List.mem_map.mp hp; exact test_len (okl.tests.2 z hz)) (by rw [List.length_map]; omega) (by decide) _ (by decide +kernel), by rw [testsT, if_neg n]; rfl, kq⟩
      rintro σ' H4 ⟨rfl, k4⟩
      have k24 : Keep [] H2 H4 := k3.trans k4
      -- lists
      refine ⟨fun σ' H' => ∃ ya, σ' = T (some (.ref fa)) (some (.ref la)) (some (.ref da)) (some (.str (testsT ln.tests))) (some (.ref ya)) ∧ Keep [] H4 H' ∧ H' ya = some (.lst ((listsT ln).map V.str)), ?_, ?_⟩
      · refine rd_asg (tupLs (K := K) (H0 := H4) (xs := xr) (rs := (listsT ln).map .str) Keep.refl (by omega) (by rw [List.length_map, stepsOf_T, List.length_map, lr]) (fun H5 k5 Q1 q1 => ?_) (fun j x r H5 hx hr2 k5 Q' q' => ?_) fun D ys H' k' eD dy => ?_)
        · refine ⟨_, rfl, 1, rfl, la, _, rfl, seqT_keep (k24.trans k5) Soft.nil sq, ?_, fun q nq => ?_⟩
          · intro z
            have : HT.sIx (V.ref ta :: xr).length 0 (some 1) = 0 := z.1
            rw [show HT.sIx (V.ref ta :: xr).length 0 (some 1) = min 1 (xr.length + 1) from rfl] at this
            omega
          · rw [cut1]
            exact q1 q _ (Keep.new nq) (SqT.of upd_same)
        · obtain ⟨d, hd, dd⟩ := tr.get hx
          rw [stepsOf_T] at hr2
          obtain ⟨p', hp', rfl⟩ := map_get hr2
          obtain ⟨st, hst, rfl⟩ := map_get hp'
          obtain ⟨st', hst', rfl⟩ := map_get hd
          rw [hst] at hst'
          cases hst'
          have okS := stepsOf_ok okl st (List.mem_of_getElem? hst)
          exact ⟨rfl, _, rfl, x, st, rfl, dd.k0 (k24.trans k5), okS.1, okS.2, fun H6 k6 => q' _ H6 k6 (.str _)⟩
        · rw [strs_of dy] at eD
          exact ⟨D, rfl, k', eD⟩
      rintro σ' H5 ⟨ya, rfl, k5, eya⟩
      have k25 : Keep [] H2 H5 := k24.trans k5
      have tlen := tests_len okl.tests.1 okl.tests.2
      have ll := lists_len okl
      have c1 : (": " : Str).length = 2 := by decide +kernel
      have c2 : ("ask " : Str).length = 4 := by decide +kernel
      have c4 : (" or " : Str).length = 4 := by decide +kernel
      have e1 := add_len (testsT ln.tests) ": "
      have ef5 := k25.to ef2
      have fin : ∀ m : Str, m.length ≤ 500 → lineT ln = testsT ln.tests ++ (": " : Str) ++ m → ∃ i' j', V.str (testsT ln.tests ++ (": " : Str)) = V.str i' ∧ V.str m = .str j' ∧ i'.length + j'.length ≤ sizeLine ∧ ∃ l xs y, V.ref fa = V.ref l ∧ [V.str (i' ++ j')] = [y] ∧ H5 l = some (.lst xs) ∧ xs.length < sizeLine ∧ Pv (i + 1) (T (some (.ref fa)) (some (.ref la)) (some (.ref da)) (some (.str (testsT ln.tests))) (some (.ref ya))) (upd H5 l (.lst (xs ++ [y]))) := by
        intro m hm e
        refine ⟨_, _, rfl, rfl, Nat.le_trans (show (testsT ln.tests ++ (": " : Str)).length + m.length ≤ 1000 by omega) (by decide), fa, _, _, rfl, rfl, ef5, ?_, _, _, _, _, rfl, Keep.own (k2.trans k25) hfa, ?_⟩
        · rw [List.length_map, List.length_cons, List.length_map, List.length_take]
          exact Nat.lt_of_lt_of_le (show min i ls.length + 1 < 100 by omega) (by decide)
        · rw [List.take_succ, hln, Option.toList_some, List.map_append, ← e]
          show upd H5 fa _ fa = some (.lst ((F :: ((ls.take i).map lineT ++ [lineT ln])).map V.str))
          rw [← List.cons_append, List.map_append]
          exact upd_same
      refine ⟨_, rfl, .inl ⟨rfl, _, SqL.of ef5⟩, _, rfl, _, _, rfl, rfl, Nat.le_trans (show (testsT ln.tests).length + (": " : Str).length ≤ 1000 by omega) (by decide), ?_⟩
      refine ⟨_, rfl, ya, _, rfl, .inl (SqL.of eya), rfl, _, rfl, ?_⟩
      cases hk : ln.keep with
      | none =>
        have eL : listsT ln = [stepsT ln.steps] := by unfold listsT; rw [hk]
        rw [eL] at eya ⊢
        refine yesI rfl ⟨_, rfl, .inl ⟨ya, _, 0, _, rfl, rfl, SqL.of eya, at0 _ _, fin _ (by have := steps_len okl.steps.1 okl.steps.2; omega) (TL.ext_tl (by rw [lineT, hk, eL]; simp only [TL.tl_append, tl_txtjoin, List.map_cons, List.map_nil, TL.joinL, Option.isSome_none, Bool.false_eq_true, if_false, List.append_assoc]; rfl))⟩⟩
      | some kk =>
        have eL : listsT ln = [stepsT ln.steps, stepsT kk] := by unfold listsT; rw [hk]
        rw [eL] at eya ⊢
        have okk := okl.keep kk hk
        have s1 := steps_len okl.steps.1 okl.steps.2
        have s2 := steps_len okk.1 okk.2
        have a1 := add_len ("ask " : Str) (stepsT ln.steps)
        have a2 := add_len (("ask " : Str) ++ stepsT ln.steps) (" or " : Str)
        have a3 := add_len (("ask " : Str) ++ stepsT ln.steps ++ (" or " : Str)) (stepsT kk)
        refine noI (by show ((2 : Nat) : Int) ≠ 1; decide) ⟨_, rfl, .inl ⟨ya, _, 0, _, rfl, rfl, SqL.of eya, at0 _ _, "ask ", _, rfl, rfl, Nat.le_trans (show ("ask " : Str).length + (stepsT ln.steps).length ≤ 1000 by omega) (by decide), _, _, rfl, rfl, Nat.le_trans (show (("ask " : Str) ++ stepsT ln.steps).length + (" or " : Str).length ≤ 1000 by omega) (by decide), _, rfl, .inl ⟨ya, _, 1, _, rfl, rfl, SqL.of eya, at1 _ _ _, _, _, rfl, rfl, Nat.le_trans (show (("ask " : Str) ++ stepsT ln.steps ++ (" or " : Str)).length + (stepsT kk).length ≤ 1000 by omega) (by decide), fin _ (by omega) ?_⟩⟩⟩
        refine TL.ext_tl ?_
        rw [lineT, hk, eL]
        simp only [TL.tl_append, tl_txtjoin, List.map_cons, List.map_nil, TL.joinL, Option.isSome_some, if_true, List.append_assoc]
    rintro σ' H2 ⟨x2, x3, x5, x6, rfl, k2, ef2⟩
    rw [List.take_length] at ef2
    exact ⟨_, rfl, k fa H2 k2 ef2⟩
end
end La
set_option Elab.async false
set_option linter.all false
set_option maxRecDepth 100000
set_option maxHeartbeats 4000000
namespace La
open PySem PySem.Spec PyProof.Rows L2 SM
def six : List Str := ["abcdefgh", "isnt", "asks", "beside", "elder", "ora"]
theorem six_nodup : six.Nodup := by decide +kernel
theorem six_regs : six.all (fun a => six.all fun b => six.all fun c => (decide (a = b) || (decide (a = c) || decide (b = c))) || regsD (([a, b, c] : List Str).map .str)) = true := by decide +kernel
theorem six_ok : six.all (fun a => PyData.strOk a) = true := by decide +kernel
theorem take3 {us : List Str} (h : us.Perm six) : ∃ a b c r, us = a :: b :: c :: r ∧ regsD (([a, b, c] : List Str).map .str) = true := by
  have l := h.length_eq
  have nd := h.nodup_iff.mpr six_nodup
  match us, l, h, nd with
  | a :: b :: c :: r, _, h, nd =>
    refine ⟨a, b, c, r, rfl, ?_⟩
    have ma : a ∈ six := h.subset List.mem_cons_self
    have mb : b ∈ six := h.subset (List.mem_cons_of_mem _ List.mem_cons_self)
    have mc : c ∈ six := h.subset (List.mem_cons_of_mem _ (List.mem_cons_of_mem _ List.mem_cons_self))
    have := List.all_eq_true.mp (List.all_eq_true.mp (List.all_eq_true.mp six_regs a ma) b mb) c mc
    simp only [List.nodup_cons, List.mem_cons, not_or] at nd
    rw [decide_eq_false nd.1.1, decide_eq_false nd.1.2.1, decide_eq_false nd.2.1.1, Bool.false_or, Bool.false_or, Bool.false_or] at this
    exact this
  | [], l, _, _ => simp [six] at l
  | [_], l, _, _ => simp [six] at l
  | [_, _], l, _, _ => simp [six] at l
theorem perm_erase {α : Type} : ∀ (l : List α) (j : Nat) (h : j < l.length), (l[j] :: l.eraseIdx j).Perm l
  | _ :: _, 0, _ => List.Perm.refl _
  | a :: l, j + 1, h => (List.Perm.swap a (l[j]'(Nat.lt_of_succ_lt_succ h)) (l.eraseIdx j)).trans ((perm_erase l j (Nat.lt_of_succ_lt_succ h)).cons a)
def spMixedS (K : PySem.W.Frag) : Sp := fun vs H Q _ => ∃ (a l : Addr), vs = [.ref a, .ref l] ∧ Src H a ∧ SqL K H l (six.map V.str) ∧
  ∀ (q : Addr) (ms : List Str) (H' : Hp), Keep [a] H H' → H q = none → Src H' a → H' q = some (.lst (ms.map V.str)) → ms.Perm six → Q (.ref q) H'
section
variable {P : Program} {w : World} {K : PySem.W.Frag} {mg : Str → Option Value} {base : Heap}
theorem D_law_mixedS (W : Cw fas fns K mg) (D_law_draw : DefOk P w K mg base CX0 1 "_law_draw" P__law_draw spDraw) : DefOk P w K mg base CX0 2 "_law_mixed" P__law_mixed (spMixedS K) := by
  refine DefOk.of W 27 29 (st := s__law_mixed) rfl rfl sc__law_mixed (fun _ _ _ _ _ _ us hl => match us, hl with | [_, _], _ => rfl) (fun vs H Q E h => ?_) (fun cdv A outer s H vs Q E hr h => ?_)
  · obtain ⟨a, l, rfl, _⟩ := h
    rfl
  · obtain ⟨a, l, rfl, hs, hl, k⟩ := h
    refine ⟨_, PSs.nox (Evl.pss_cut (ps_par (i := 2) (j := 3) (by rfl) sc__law_mixed.nd rfl rfl (by decide) rfl rfl (pa_cons (pe_callTy call_list_of (by rfl) (W.fre 47) (by decide +kernel) (pa_cons (pv 1) pa_nil)) (pa_cons (pe_lst pa_nil) pa_nil)) (by rfl)) (Evl.pss_cut (ps_while PassesOwn.never (pt_cmpR (op_neD hr.units) (pv 2) (pe_lst pa_nil) (nomark _)) (pss_one (ps_expr (pe_bm PySem.F.plainAttrs_list PySem.F.slot_list_append PySem.F.type_list_append mt_append (pv 3) (pa_cons (pe_bm PySem.F.plainAttrs_list PySem.F.slot_list_pop PySem.F.type_list_pop mt_popAt (pv 2) (pa_cons (SM.pe_callD D_law_draw (hr.mono (by decide)) pass0 (pa_cons (pv 0) (pa_cons (pe_callB call_len_seq (by rfl) (W.fre 46) (by decide +kernel) (pa_cons (pv 2) pa_nil)) pa_nil))) pa_nil)) pa_nil))))) (pss_one (ps_ret (pv 3))))), ?_⟩
    refine ⟨fun σ' H' => ∃ p q, σ' = [some (.ref a), some (.ref l), some (.ref p), some (.ref q)] ∧ H p = none ∧ H q = none ∧ p ≠ q ∧ Keep [] H H' ∧ H' p = some (.lst (six.map V.str)) ∧ H' q = some (.lst []), ?_, ?_⟩
    · refine ⟨_, rfl, l, _, rfl, .inl hl, fun p hp => ⟨Nat.zero_le _, fun q hq => ?_⟩⟩
      have k1 : Keep [] H (upd H p (.lst (six.map V.str))) := Keep.new hp
      have k2 : Keep [] (upd H p (.lst (six.map V.str))) (upd (upd H p (.lst (six.map V.str))) q (.lst [])) := Keep.new hq
      exact ⟨.ref p, .ref q, rfl, p, q, rfl, hp, k1.free (by simp) hq, ne_of_none upd_same hq, k1.trans k2, k2.to upd_same, upd_same⟩
    rintro σ' H1 ⟨p, q, rfl, np, nq, pq, k1, lp, lq⟩
    refine ⟨fun σ' H' => ∃ ms : List Str, σ' = [some (.ref a), some (.ref l), some (.ref p), some (.ref q)] ∧ Keep [a] H H' ∧ Src H' a ∧ H' q = some (.lst (ms.map V.str)) ∧ ms.Perm six, ?_, ?_⟩
    · refine ⟨fun m σ' H' => ∃ (ms us : List Str), σ' = [some (.ref a), some (.ref l), some (.ref p), some (.ref q)] ∧ Keep [a] H H' ∧ Src H' a ∧ H' p = some (.lst (us.map V.str)) ∧ H' q = some (.lst (ms.map V.str)) ∧ us.length = m ∧ (ms ++ us).Perm six, ⟨6, [], six, rfl, Keep.of_nil k1, hs.keep k1 (by simp), lp, lq, rfl, List.Perm.refl _⟩, ?_⟩
      rintro m σ' H2 ⟨ms, us, rfl, k2, s2, lp2, lq2, hm, hpm⟩
      refine ⟨_, rfl, Nat.zero_le _, fun r hr1 => ?_⟩
      have kR : Keep [] H2 (upd H2 r (.lst [])) := Keep.new hr1
      have okU : ∀ u ∈ us, PyData.strOk u = true := fun u hu => List.all_eq_true.mp six_ok u (hpm.subset (List.mem_append_right _ hu))
      refine ⟨.list (us.map .str), .list [], .lst (SqL.of (kR.to lp2)) (dpStrs us), .lst (SqL.of upd_same) .nil, (Lay.list (n := 0) fun d z => by obtain ⟨u, hu, rfl⟩ := List.mem_map.mp z; exact .str (okU u hu)).shaped (by decide), by decide +kernel, _, rfl, ?_⟩
      rw [eqv_lnil2]
      have s2' := s2.keep kR (by simp)
      cases us with
      | nil => exact ⟨ms, rfl, k2.trans (Keep.of_nil kR), s2', kR.to lq2, by rw [List.append_nil] at hpm; exact hpm⟩
      | cons o os =>
        have lo : ms.length + (os.length + 1) = 6 := by
          have := hpm.length_eq
          simpa [six] using this
        have lu : ((o :: os).map V.str).length = os.length + 1 := by simp
        refine ⟨_, fun _ _ z => z, ?_⟩
        refine ⟨_, rfl, .inl ⟨rfl, _, SqL.of (kR.to lq2)⟩, _, rfl, .inl ⟨rfl, _, SqL.of (kR.to lp2)⟩, _, rfl, _, rfl, p, _, rfl, .inl (SqL.of (kR.to lp2)), a, _, rfl, s2', by rw [lu]; omega, by rw [lu]; omega, fun n H3 n0 n1 k3 s3 => ?_⟩
        obtain ⟨j, rfl⟩ := Int.eq_ofNat_of_zero_le n0
        have hj : j < (o :: os).length := by rw [lu] at n1; simp only [List.length_cons]; omega
        have pa : p ≠ a := (ne_of_none (show H a = _ from hs.choose_spec.choose_spec.1) np).symm
        have qa : q ≠ a := (ne_of_none (show H a = _ from hs.choose_spec.choose_spec.1) nq).symm
        have lp3 := k3 _ _ (by simpa using pa) (kR.to lp2)
        have lq3 := k3 _ _ (by simpa using qa) (kR.to lq2)
        have hz : (o :: os)[j]? = some (o :: os)[j] := List.getElem?_eq_getElem hj
        have hzv : ((o :: os).map V.str)[j]? = some (V.str (o :: os)[j]) := by rw [List.getElem?_map, hz]; rfl
        refine ⟨p, _, j, j, V.str (o :: os)[j], rfl, rfl, lp3, by omega, by simp only [List.length_map, List.length_cons] at hj ⊢; omega, seqIndex_nat (by rw [List.length_map]; exact hj), hzv, ?_⟩
        have kp : Keep [p] H3 (upd H3 p (.lst (((o :: os).map V.str).eraseIdx j))) := Keep.at_ (by simp)
        have lq4 : upd H3 p (.lst (((o :: os).map V.str).eraseIdx j)) q = some (.lst (ms.map V.str)) := kp _ _ (by simpa using pq.symm) lq3
        refine ⟨q, _, _, rfl, rfl, lq4, ?_, ?_⟩
        · rw [List.length_map]
          exact Nat.lt_of_lt_of_le (show ms.length < 100 by omega) (by decide)
        · have kq : Keep [q] (upd H3 p (.lst (((o :: os).map V.str).eraseIdx j))) (upd (upd H3 p (.lst (((o :: os).map V.str).eraseIdx j))) q (.lst (ms.map V.str ++ [V.str (o :: os)[j]]))) := Keep.at_ (by simp)
          refine ⟨m - 1, by simp only [List.length_cons] at hm; omega, ms ++ [(o :: os)[j]], (o :: os).eraseIdx j, rfl, ?_, ?_, ?_, ?_, ?_, ?_⟩
          · exact Keep.own (Keep.own (k2.trans ((Keep.of_nil kR).trans k3)) np) nq
          · exact (s3.keep kp (by simpa using pa.symm)).keep kq (by simpa using qa.symm)
          · rw [← map_erase]
            exact kq _ _ (by simpa using pq) upd_same
          · rw [List.map_append]
            exact upd_same
          · rw [List.length_eraseIdx]
            simp only [List.length_cons] at hm hj ⊢
            simp only [hj, if_true]
            omega
          · rw [List.append_assoc]
            exact ((perm_erase (o :: os) j hj).append_left ms).trans hpm
    rintro σ' H2 ⟨ms, rfl, k2, s2, lq2, hpm⟩
    exact ⟨_, rfl, k q ms H2 k2 nq s2 lq2 hpm⟩
end
end La
set_option Elab.async false
set_option linter.all false
set_option maxRecDepth 100000
set_option maxHeartbeats 4000000
namespace La
open PySem PySem.Spec PyProof.Rows L2 SM
theorem pkW {K : PySem.W.Frag} {σ : L2.St} {H : Hp} {p wa : Addr} {ws : List Str} {Q : VK} (h0 : σ[0]? = some (some (.ref p))) (h3 : σ[3]? = some (some (.ref wa))) (s : Src H p) (ew : H wa = some (.lst (ws.map V.str))) (wp : wa ≠ p) (n1 : 0 < ws.length) (n2 : ws.length ≤ 10)
    (k : ∀ x H', x ∈ ws → Keep [p] H H' → Src H' p → Q (.str x) H') : tCall (spPick K) [] E0 (tCons (tVar 0) (tCons (tVar 3) tNil)) σ H Q := by
  refine ⟨_, h0, _, h3, p, wa, _, rfl, s, .inl (SqL.of ew), wp, by rw [List.length_map]; omega, by rw [List.length_map]; omega, fun j v H' hv kk ss => ?_⟩
  obtain ⟨x, hx, rfl⟩ := map_get hv
  exact k x H' (List.mem_of_getElem? hx) kk ss
theorem pkN {K : PySem.W.Frag} {σ : L2.St} {H : Hp} {p wa : Addr} {ws : List Str} {e : Str} {Q : VK} (h0 : σ[0]? = some (some (.ref p))) (h3 : σ[3]? = some (some (.ref wa))) (s : Src H p) (ew : H wa = some (.lst (ws.map V.str))) (n2 : ws.length ≤ 10)
    (k : ∀ x H', (x ∈ ws ∨ x = e) → Keep [p] H H' → Src H' p → Q (.str x) H') : tCall (spPick K) [] E0 (tCons (tVar 0) (tCons (tOp rCat (tVar 3) (tLst (tCons (tC (.str e)) tNil))) tNil)) σ H Q := by
  refine ⟨_, h0, _, h3, (by show 1 ≤ sizeLine; decide), fun q hq => ?_⟩
  have kq : Keep [] H (upd H q (.lst [.str e])) := Keep.new hq
  refine ⟨wa, q, _, _, rfl, rfl, kq.to ew, upd_same, by rw [List.length_map]; exact Nat.le_trans (show ws.length + 1 ≤ 100 by omega) (by decide), fun q2 hq2 => ?_⟩
  have kq2 : Keep [] (upd H q (.lst [.str e])) (upd (upd H q (.lst [.str e])) q2 (.lst (ws.map V.str ++ [.str e]))) := Keep.new hq2
  have e2 : upd (upd H q (.lst [.str e])) q2 (.lst (ws.map V.str ++ [.str e])) q2 = some (.lst ((ws ++ [e]).map V.str)) := by
    rw [List.map_append]
    exact upd_same
  have s1 := s.keep kq (by simp)
  have q2p : q2 ≠ p := (ne_of_none s1.choose_spec.choose_spec.1 hq2).symm
  refine ⟨p, q2, _, rfl, s1.keep kq2 (by simp), .inl (SqL.of e2), q2p, by rw [List.length_map, List.length_append]; show 0 < ws.length + 1; omega, by rw [List.length_map, List.length_append]; show ws.length + 1 < 100000; omega, fun j v H' hv kk ss => ?_⟩
  obtain ⟨x, hx, rfl⟩ := map_get hv
  refine k x H' ?_ ((Keep.of_nil (kq.trans kq2)).trans kk) ss
  rcases List.mem_append.mp (List.mem_of_getElem? hx) with h | h
  · exact .inl h
  · exact .inr (List.mem_singleton.mp h)
theorem rd_yesC {σ : L2.St} {H : Hp} {te : TE} {Q' : VK} {R : Hp → Prop} (h : te σ H Q') : tYes σ H (fun b H3 => if b = true then te σ H3 Q' else R H3) := by
  show if true = true then te σ H Q' else R H
  rw [if_pos rfl]
  exact h
theorem rd_tupC {ta : TA} {σ : L2.St} {H : Hp} {Q : VK} (h : ta σ H fun xs H1 => xs.length ≤ sizeLine ∧ ∀ p, H1 p = none → Q (.ref p) (upd H1 p (.tup xs))) : tTup ta σ H Q := h
def spGreat (K : PySem.W.Frag) : Sp := fun vs H Q _ => ∃ a : Addr, vs = [.ref a] ∧ Src H a ∧ ∀ v H' ns ls, Keep [a] H H' → Src H' a → Dt K H' v (planD ns ls) → VRule ns ls → Q v H'
section
variable {P : Program} {w : World} {K : PySem.W.Frag} {mg : Str → Option Value} {base : Heap}
abbrev s__law_great : Stmt := (top 45)
abbrev N__law_great : List Str := ["source", "names", "lines", "words", "at", "tests", "turn", "steps"]
abbrev P__law_great : List Str := ["source"]
theorem sc__law_great : FnScope N__law_great P__law_great (defScope s__law_great) := ⟨rfl, rfl, rfl, by decide +kernel, rfl, by decide +kernel, by decide +kernel⟩
theorem D_law_great (W : Cw fas fns K mg) (D_law_pick : DefOk P w K mg base CX0 2 "_law_pick" P__law_pick (spPick K)) (D_law_mixed : DefOk P w K mg base CX0 2 "_law_mixed" P__law_mixed (spMixedS K)) : DefOk P w K mg base CX0 3 "_law_great" P__law_great (spGreat K) := by
  refine DefOk.of W 36 38 (st := s__law_great) rfl rfl sc__law_great (fun _ _ _ _ _ _ us hl => match us, hl with | [_], _ => rfl) (fun vs H Q E h => ?_) (fun cdv A outer s H vs Q E hr h => ?_)
  · obtain ⟨a, rfl, _⟩ := h
    rfl
  · obtain ⟨p, rfl, s0, k⟩ := h
    refine ⟨_, PSs.nox (Evl.pss_cut (ps_par (i := 1) (j := 2) (by rfl) sc__law_great.nd rfl rfl (by decide) rfl rfl (pa_cons (pe_slice sl_list (SM.pe_callD D_law_mixed (hr.mono (by decide)) pass0 (pa_cons (pv 0) (pa_cons (pe_lst (pa_cons pe_str (pa_cons pe_str (pa_cons pe_str (pa_cons pe_str (pa_cons pe_str (pa_cons pe_str pa_nil))))))) pa_nil))) po_none (po_some pe_int)) (pa_cons (pe_lst pa_nil) pa_nil)) (by rfl)) (Evl.pss_cut (ps_set (i := 3) sc__law_great.nd rfl (by first | exact Or.inl rfl | exact Or.inr rfl) (pe_op op_cat (pe_lst (pa_cons pe_str pa_nil)) (pv 1))) (Evl.pss_cut (ps_for PassesOwn.never rfl (pi_range1 (by rfl) (W.fre 51) (pa_cons pe_int pa_nil)) (pg_name (i := 4) sc__law_great.nd rfl (by first | exact Or.inl rfl | exact Or.inr rfl)) (Evl.pss_cut (ps_set (i := 5) sc__law_great.nd rfl (by first | exact Or.inl rfl | exact Or.inr rfl) (pe_callTy call_tuple_of (by rfl) (W.fre 54) (by decide +kernel) (pa_cons (pe_lc (own := [("turn", 6)]) (g := gName 6) (tt := tYes) (te := tTup (tCons (tCall (spPick K) [] E0 (tCons (tVar 0) (tCons (tVar 3) tNil))) (tCons (tCall (spPick K) [] E0 (tCons (tVar 0) (tCons (tOp rCat (tVar 3) (tLst (tCons (tC (.str "new")) tNil))) tNil))) (tCons (tOp (rI0 fun i j => V.bl (decide (j < i))) (tVar 4) (tC (.int 3))) tNil)))) (by rfl) sc__law_great.nd (pi_range1 (by rfl) (W.fre 51) (pa_cons pe_int pa_nil)) (blkOk_by (own := [("turn", 6)]) (N := N__law_great) (sc := defScope s__law_great) (by decide +kernel)) (fun _ _ _ _ _ => pg_name (i := 6) sc__law_great.nd rfl (Or.inl rfl)) (fun _ _ _ _ _ => pts_nil) (fun _ _ _ _ _ => (pe_tup (pa_cons (SM.pe_callD D_law_pick (hr.mono (by decide)) pass0 (pa_cons (pv 0) (pa_cons (pv 3) pa_nil))) (pa_cons (SM.pe_callD D_law_pick (hr.mono (by decide)) pass0 (pa_cons (pv 0) (pa_cons (pe_op op_cat (pv 3) (pe_lst (pa_cons pe_str pa_nil))) pa_nil))) (pa_cons (pe_cmpR op_gt (pv 4) pe_int (nomark _)) pa_nil)))))) pa_nil))) (Evl.pss_cut (ps_set (i := 7) sc__law_great.nd rfl (by first | exact Or.inl rfl | exact Or.inr rfl) (pe_callTy call_tuple_of (by rfl) (W.fre 54) (by decide +kernel) (pa_cons (pe_lc (own := [("turn", 6)]) (g := gName 6) (tt := tYes) (te := tTup (tCons (tCall (spPick K) [] E0 (tCons (tVar 0) (tCons (tVar 3) tNil))) (tCons (tCall (spPick K) [] E0 (tCons (tVar 0) (tCons (tOp rCat (tVar 3) (tLst (tCons (tC (.str "nothing")) tNil))) tNil))) tNil))) (by rfl) sc__law_great.nd (pi_range1 (by rfl) (W.fre 51) (pa_cons pe_int pa_nil)) (blkOk_by (own := [("turn", 6)]) (N := N__law_great) (sc := defScope s__law_great) (by decide +kernel)) (fun _ _ _ _ _ => pg_name (i := 6) sc__law_great.nd rfl (Or.inl rfl)) (fun _ _ _ _ _ => pts_nil) (fun _ _ _ _ _ => (pe_tup (pa_cons (SM.pe_callD D_law_pick (hr.mono (by decide)) pass0 (pa_cons (pv 0) (pa_cons (pv 3) pa_nil))) (pa_cons (SM.pe_callD D_law_pick (hr.mono (by decide)) pass0 (pa_cons (pv 0) (pa_cons (pe_op op_cat (pv 3) (pe_lst (pa_cons pe_str pa_nil))) pa_nil))) pa_nil))))) pa_nil))) (pss_one (ps_expr (pe_bm PySem.F.plainAttrs_list PySem.F.slot_list_append PySem.F.type_list_append mt_append (pv 2) (pa_cons (pe_op op_catA (pe_tup (pa_cons (pe_ifExp (pt_cmpR op_lt (pv 4) pe_int (nomark _)) (pv 5) (pe_tup pa_nil)) (pa_cons (pv 7) pa_nil))) (pe_op SM.op_rep01 (pe_tup (pa_cons (SM.pe_revT (pv 7)) pa_nil)) (pe_callTy call_int1 (by rfl) (W.fre 44) (by decide +kernel) (pa_cons (pe_cmpR op_gt (pv 4) pe_int (nomark _)) pa_nil)))) pa_nil))))))) (pss_one (ps_ret (pe_tup (pa_cons (pe_callTy call_tuple_of (by rfl) (W.fre 54) (by decide +kernel) (pa_cons (pv 1) pa_nil)) (pa_cons (pe_callTy call_tuple_of (by rfl) (W.fre 54) (by decide +kernel) (pa_cons (pv 2) pa_nil)) pa_nil)))))))), ?_⟩
    let T : Option V → Option V → Option V → Option V → Option V → Option V → L2.St := fun x1 x2 x3 x4 x5 x7 => [some (.ref p), x1, x2, x3, x4, x5, none, x7]
    refine ⟨fun σ' H' => ∃ na fa a b c, σ' = T (some (.ref na)) (some (.ref fa)) none none none none ∧ Keep [p] H H' ∧ Src H' p ∧ H' na = some (.lst (([a, b, c] : List Str).map V.str)) ∧ H' fa = some (.lst []) ∧ regsD (([a, b, c] : List Str).map .str) = true ∧ H fa = none ∧ na ≠ p ∧ na ≠ fa, ?_, ?_⟩
    · refine ⟨_, rfl, (by show 6 ≤ sizeLine; decide), fun q hq => ?_⟩
      have kq : Keep [] H (upd H q (.lst (six.map V.str))) := Keep.new hq
      refine ⟨p, q, rfl, s0.keep kq (by simp), SqL.of (show upd H q (.lst (six.map V.str)) q = _ from upd_same), fun r ms H2 k2 _ s2 er pm => ?_⟩
      obtain ⟨a, b, c, rs, rfl, hreg⟩ := take3 pm
      refine ⟨3, rfl, r, _, rfl, SqL.of er, fun na hna => ⟨Nat.zero_le _, fun fa hfa => ?_⟩⟩
      have ec : cutV ((a :: b :: c :: rs).map V.str) none (some 3) = ([a, b, c] : List Str).map V.str := by
        have hl : rs.length = 3 := by
          have := pm.length_eq
          simpa [six] using this
        unfold cutV
        rw [HT.sIx_none, List.drop_zero, Nat.sub_zero, show HT.sIx ((a :: b :: c :: rs).map V.str).length ((a :: b :: c :: rs).map V.str).length (some 3) = min 3 ((a :: b :: c :: rs).map V.str).length from HT.sIx_nat _ _ 3, List.length_map]
        rw [show min 3 (a :: b :: c :: rs).length = 3 by simp only [List.length_cons]; omega]
        rfl
      rw [ec] at hfa ⊢
      have k3 : Keep [] H2 (upd H2 na (.lst (([a, b, c] : List Str).map V.str))) := Keep.new hna
      have s3 := s2.keep k3 (by simp)
      have k4 : Keep [] (upd H2 na (.lst (([a, b, c] : List Str).map V.str))) (upd (upd H2 na (.lst (([a, b, c] : List Str).map V.str))) fa (.lst [])) := Keep.new hfa
      have np : na ≠ p := (ne_of_none s2.choose_spec.choose_spec.1 hna).symm
      have kk : Keep [p] H (upd H2 na (.lst (([a, b, c] : List Str).map V.str))) := (Keep.of_nil kq).trans (k2.trans (Keep.of_nil k3))
      refine ⟨_, _, rfl, na, fa, a, b, c, rfl, kk.trans (Keep.of_nil k4), s3.keep k4 (by simp), k4.to upd_same, upd_same, hreg, kk.free ?_ hfa, np, ne_of_none upd_same hfa⟩
      have := ne_of_none s3.choose_spec.choose_spec.1 hfa
      simpa using this.symm
    rintro σ' H1 ⟨na, fa, a, b, c, rfl, k1, s1, ena, efa, hreg, hfa, np, nf⟩
    let ns : List Str := [a, b, c]
    let ws : List Str := "here" :: ns
    have fap : fa ≠ p := (ne_of_none s0.choose_spec.choose_spec.1 hfa).symm
    refine ⟨fun σ' H' => ∃ wa, σ' = T (some (.ref na)) (some (.ref fa)) (some (.ref wa)) none none none ∧ Keep [] H1 H' ∧ H' wa = some (.lst (ws.map V.str)) ∧ wa ≠ p ∧ wa ≠ fa, ?_, ?_⟩
    · refine ⟨(by show 1 ≤ sizeLine; decide), fun q hq => ?_⟩
      have kq : Keep [] H1 (upd H1 q (.lst [.str "here"])) := Keep.new hq
      refine ⟨_, rfl, q, na, _, _, rfl, rfl, upd_same, kq.to ena, by rw [List.length_map]; exact Nat.le_trans (show 1 + 3 ≤ 100 by decide) (by decide), fun q2 hq2 => ?_⟩
      have kq2 : Keep [] (upd H1 q (.lst [.str "here"])) (upd (upd H1 q (.lst [.str "here"])) q2 (.lst ([.str "here"] ++ ns.map V.str))) := Keep.new hq2
      exact ⟨q2, rfl, kq.trans kq2, upd_same, (ne_of_none (s1.keep kq (by simp)).choose_spec.choose_spec.1 hq2).symm, (ne_of_none (kq.to efa) hq2).symm⟩
    rintro σ' H2 ⟨wa, rfl, k2, ewa, wp, wf⟩
    have s2 := s1.keep k2 (by simp)
    have wsl : ws.length = 4 := rfl
    let S : Option V → Option V → Option V → L2.St := fun x4 x5 x7 => T (some (.ref na)) (some (.ref fa)) (some (.ref wa)) x4 x5 x7
    have gw : ∀ x ∈ ws, x = "here" ∨ x ∈ ns := fun x hx => List.mem_cons.mp hx
    let Pv : Nat → L2.St → Hp → Prop := fun i σ' H' => ∃ (xs : List V) (zs : List Ln) (x4 x5 x7 : Option V), σ' = S x4 x5 x7 ∧ Keep [p] H H' ∧ Src H' p ∧ H' wa = some (.lst (ws.map V.str)) ∧ H' na = some (.lst (ns.map V.str)) ∧ H' fa = some (.lst xs) ∧ DtAll K H' xs (zs.map lnD) ∧ zs.length = i ∧ (∀ z ∈ zs, GoodL ns z) ∧ ∀ z, zs[7]? = some z → z.tests = []
    refine ⟨Pv 8, ?_, ?_⟩
    · refine ⟨8, rfl, by decide, by decide, for_range (lo := 0) Pv ⟨[], [], none, none, none, rfl, k1.trans (Keep.of_nil k2), s2, ewa, k2.to ena, k2.to efa, .nil, rfl, (fun z y => by cases y), fun z e => by cases e⟩ ?_ (fun σ' H' z => z)⟩
      rintro i σ' H3 hi ⟨xs, zs, x4, x5, x7, rfl, k3, s3, ew3, en3, ef3, dx, lz, gz, tz⟩
      have hi8 : i < 8 := hi
      have ss3 := s3.soft
      -- tests
      refine ⟨fun σ' H' => ∃ tt ts, σ' = S (some (.int (0 + (i : Int)))) (some tt) x7 ∧ Keep [p] H3 H' ∧ Src H' p ∧ Dt K H' tt (testsD ts) ∧ ts.length = 4 ∧ ∀ t ∈ ts, GoodT ns t, ?_, ?_⟩
      · refine rd_asg (rd_cb1 ⟨4, rfl, by decide, by decide, fun D hD => ?_⟩)
        have Dp : D ≠ p := (ne_of_none s3.choose_spec.choose_spec.1 hD).symm
        refine lc_range (lo := 0) (n := 4) (fun j H' => ∃ (ys : List V) (ts : List (Str × Str × Bool)), H' D = some (.lst ys) ∧ DtAll K H' ys (ts.map testD) ∧ ts.length = j ∧ Keep [p] H3 H' ∧ Src H' p ∧ ∀ t ∈ ts, GoodT ns t) ⟨[], [], upd_same, .nil, rfl, Keep.new hD, s3.keep (Keep.new (m := []) hD) (by simp), fun z y => by cases y⟩ ?_ ?_
        · rintro j H' hj ⟨ys, ts, e', dy, lt, k', s', gt⟩
          refine ⟨rfl, ?_⟩
          refine rd_yesC (rd_tupC (rd_cons (pkW rfl rfl s' (k' _ _ (by simpa using wp) ew3) wp (by rw [wsl]; decide) (by rw [wsl]; decide) fun x HA hx kA sA => rd_cons (pkN rfl rfl sA (kA _ _ (by simpa using wp) (k' _ _ (by simpa using wp) ew3)) (by rw [wsl]; decide) fun y HB hy kB sB => ⟨_, rfl, _, _, rfl, rfl, (by show 3 ≤ sizeLine; decide), fun q hq => ?_⟩))))
          have kAB := kA.trans kB
          have eB := kAB _ _ (by simpa using Dp) e'
          have kq : Keep [] HB (upd HB q (.tup [.str x, .str y, .bl (decide (3 < 0 + (i : Int)))])) := Keep.new hq
          refine ⟨ys, kq.to eB, ?_, ys ++ [.ref q], ts ++ [(x, y, decide (3 < 0 + (i : Int)))], upd_same, ?_, by rw [List.length_append, lt]; rfl, ?_, ?_, ?_⟩
          · rw [dy.length, List.length_map, lt]
            exact Nat.lt_of_lt_of_le (show j < 100 by omega) (by decide)
          · rw [List.map_append]
            exact (((dy.keep kAB s'.soft).k0 kq).append (.cons (.tup (SqT.of upd_same) (.cons (.str _) (.cons (.str _) (.cons (.bl _) .nil)))) .nil)).keep (Keep.at_ (m := [D]) (by simp)) (Soft.lst (kq.to eB))
          · exact Keep.own (k'.trans (kAB.trans (Keep.of_nil kq))) hD
          · exact (sB.keep kq (by simp)).keep (Keep.at_ (m := [D]) (by simp)) (by simpa using Dp.symm)
          · intro z hz
            rcases List.mem_append.mp hz with hz | hz
            · exact gt z hz
            · rw [List.mem_singleton.mp hz]
              refine ⟨(gw x hx).imp id .inr, ?_⟩
              rcases hy with hy | rfl
              · rcases gw y hy with h | h
                · exact .inr (.inl h)
                · exact .inr (.inr (.inr h))
              · exact .inl rfl
        · rintro H' ⟨ys, ts, e', dy, lt, k', s', gt⟩
          refine ⟨D, ys, rfl, .inl ⟨SqL.of e', fun q hq => ?_⟩⟩
          have kq : Keep [] H' (upd H' q (.tup ys)) := Keep.new hq
          exact ⟨.ref q, ts, rfl, k'.trans (Keep.of_nil kq), s'.keep kq (by simp), .tup (SqT.of upd_same) (dy.k0 kq), lt, gt⟩
      rintro σ' H4 ⟨tt, ts, rfl, k4, s4, dtt, ltn, gts⟩
      have ew4 := k4 _ _ (by simpa using wp) ew3
      -- steps
      refine ⟨fun σ' H' => ∃ sv ss, σ' = S (some (.int (0 + (i : Int)))) (some tt) (some sv) ∧ Keep [p] H4 H' ∧ Src H' p ∧ Dt K H' sv (stepsD ss) ∧ ss.length = 4 ∧ ∀ t ∈ ss, GoodS ns t, ?_, ?_⟩
      · refine rd_asg (rd_cb1 ⟨4, rfl, by decide, by decide, fun D hD => ?_⟩)
        have Dp : D ≠ p := (ne_of_none s4.choose_spec.choose_spec.1 hD).symm
        refine lc_range (lo := 0) (n := 4) (fun j H' => ∃ (ys : List V) (ts : List (Str × Str)), H' D = some (.lst ys) ∧ DtAll K H' ys (ts.map stepD) ∧ ts.length = j ∧ Keep [p] H4 H' ∧ Src H' p ∧ ∀ t ∈ ts, GoodS ns t) ⟨[], [], upd_same, .nil, rfl, Keep.new hD, s4.keep (Keep.new (m := []) hD) (by simp), fun z y => by cases y⟩ ?_ ?_
        · rintro j H' hj ⟨ys, ts, e', dy, lt, k', s', gt⟩
          refine ⟨rfl, ?_⟩
          refine rd_yesC (rd_tupC (rd_cons (pkW rfl rfl s' (k' _ _ (by simpa using wp) ew4) wp (by rw [wsl]; decide) (by rw [wsl]; decide) fun x HA hx kA sA => rd_cons (pkN rfl rfl sA (kA _ _ (by simpa using wp) (k' _ _ (by simpa using wp) ew4)) (by rw [wsl]; decide) fun y HB hy kB sB => ⟨(by show 2 ≤ sizeLine; decide), fun q hq => ?_⟩))))
          have kAB := kA.trans kB
          have eB := kAB _ _ (by simpa using Dp) e'
          have kq : Keep [] HB (upd HB q (.tup [.str x, .str y])) := Keep.new hq
          refine ⟨ys, kq.to eB, ?_, ys ++ [.ref q], ts ++ [(x, y)], upd_same, ?_, by rw [List.length_append, lt]; rfl, ?_, ?_, ?_⟩
          · rw [dy.length, List.length_map, lt]
            exact Nat.lt_of_lt_of_le (show j < 100 by omega) (by decide)
          · rw [List.map_append]
            exact (((dy.keep kAB s'.soft).k0 kq).append (.cons (.tup (SqT.of upd_same) (.cons (.str _) (.cons (.str _) .nil))) .nil)).keep (Keep.at_ (m := [D]) (by simp)) (Soft.lst (kq.to eB))
          · exact Keep.own (k'.trans (kAB.trans (Keep.of_nil kq))) hD
          · exact (sB.keep kq (by simp)).keep (Keep.at_ (m := [D]) (by simp)) (by simpa using Dp.symm)
          · intro z hz
            rcases List.mem_append.mp hz with hz | hz
            · exact gt z hz
            · rw [List.mem_singleton.mp hz]
              refine ⟨gw x hx, ?_⟩
              rcases hy with hy | rfl
              · rcases gw y hy with h | h
                · exact .inr (.inl h)
                · exact .inr (.inr (.inr h))
              · exact .inr (.inr (.inl rfl))
        · rintro H' ⟨ys, ts, e', dy, lt, k', s', gt⟩
          refine ⟨D, ys, rfl, .inl ⟨SqL.of e', fun q hq => ?_⟩⟩
          have kq : Keep [] H' (upd H' q (.tup ys)) := Keep.new hq
          exact ⟨.ref q, ts, rfl, k'.trans (Keep.of_nil kq), s'.keep kq (by simp), .tup (SqT.of upd_same) (dy.k0 kq), lt, gt⟩
      rintro σ' H5 ⟨sv, ss, rfl, k5, s5, dsv, lss, gss⟩
      obtain ⟨sa, sxs, rfl, sqs, dss⟩ := dsv.items
      have dtt5 := dtt.keep k5 s4.soft
      have k35 : Keep [p] H3 H5 := k4.trans k5
      have ef5 := k35 _ _ (by simpa using fap) ef3
      have lxs : xs.length = i := by rw [dx.length, List.length_map, lz]
      -- the line is appended
      have app : ∀ (v : V) (z : Ln) (H6 : Hp), Keep [] H5 H6 → Dt K H6 v (lnD z) → GoodL ns z → (i = 7 → z.tests = []) → ∃ l ys y, V.ref fa = V.ref l ∧ [v] = [y] ∧ H6 l = some (.lst ys) ∧ ys.length < sizeLine ∧ Pv (i + 1) (S (some (.int (0 + (i : Int)))) (some tt) (some (.ref sa))) (upd H6 l (.lst (ys ++ [y]))) := by
        intro v z H6 k6 dz gz6 tz6
        have ef6 := k6.to ef5
        have k36 : Keep [p] H3 H6 := k35.trans (Keep.of_nil k6)
        have ka : Keep [fa] H6 (upd H6 fa (.lst (xs ++ [v]))) := Keep.at_ (by simp)
        have _u := ()
        refine ⟨fa, xs, v, rfl, rfl, ef6, by rw [lxs]; exact Nat.lt_of_lt_of_le (show i < 100 by omega) (by decide), xs ++ [v], zs ++ [z], _, _, _, rfl, Keep.own (k3.trans k36) hfa, (s5.keep k6 (by simp)).keep ka (by simpa using fap.symm), ?_, ?_, upd_same, ?_, by rw [List.length_append, lz]; rfl, ?_, ?_⟩
        · exact ka _ _ (by simpa using wf) (k36 _ _ (by simpa using wp) ew3)
        · exact ka _ _ (by simpa using nf) (k36 _ _ (by simpa using np) en3)
        · rw [List.map_append]
          exact ((dx.keep k36 s3.soft).append (.cons dz .nil)).keep ka (Soft.lst ef6)
        · intro y hy
          rcases List.mem_append.mp hy with hy | hy
          · exact gz y hy
          · rw [List.mem_singleton.mp hy]
            exact gz6
        · intro y hy
          rcases Nat.lt_or_ge 7 zs.length with h | h
          · omega
          · rcases Nat.lt_or_ge zs.length 7 with h2 | h2
            · rw [List.getElem?_eq_none (by rw [List.length_append]; show zs.length + 1 ≤ 7; omega)] at hy
              cases hy
            · have e : zs.length = 7 := by omega
              rw [List.getElem?_append_right (by omega), e] at hy
              cases hy
              exact tz6 (by omega)
      have revOk : ∀ t ∈ ss.reverse, GoodS ns t := fun t ht => gss t (List.mem_reverse.mp ht)
      have tail : ∀ (v0 : V) (ts' : List (Str × Str × Bool)) (q : Addr) (H6 : Hp), Keep [] H5 H6 → H6 q = some (.tup [v0, .ref sa]) → Dt K H6 v0 (testsD ts') → (ts'.length ≤ 4 ∧ ∀ t ∈ ts', GoodT ns t) → (i = 7 → ts' = []) →
          tOp (SM.rRep01 K) (tTup (tCons (tRevT K (tVar 7)) tNil)) (tCB (fun xs H Q => (∃ i, xs = [V.int i] ∧ Q (.int i) H) ∨ ∃ k, xs = [V.bl k] ∧ Q (.int (if k then 1 else 0)) H) (tCons (tOp (rI0 fun i j => V.bl (decide (j < i))) (tVar 4) (tC (.int 5))) tNil)) (S (some (.int (0 + (i : Int)))) (some tt) (some (.ref sa))) H6 (fun y H8 => rCatA K (.ref q) y H8 (fun v H9 => ∃ l ys y, V.ref fa = V.ref l ∧ [v] = [y] ∧ H9 l = some (.lst ys) ∧ ys.length < sizeLine ∧ Pv (i + 1) (S (some (.int (0 + (i : Int)))) (some tt) (some (.ref sa))) (upd H9 l (.lst (ys ++ [y]))))) := by
        intro v0 ts' q H6 k6 eq6 d0 g0 t7
        have sq6 := seqT_keep k6 Soft.nil sqs
        have d6 := dss.k0 k6
        refine ⟨_, rfl, sa, sxs, rfl, sq6, fun r hr2 => ⟨(by show 1 ≤ sizeLine; decide), fun r2 hr3 => ?_⟩⟩
        have k7 : Keep [] H6 (upd H6 r (.tup sxs.reverse)) := Keep.new hr2
        have k8 : Keep [] (upd H6 r (.tup sxs.reverse)) (upd (upd H6 r (.tup sxs.reverse)) r2 (.tup [.ref r])) := Keep.new hr3
        have er : upd (upd H6 r (.tup sxs.reverse)) r2 (.tup [.ref r]) r = some (.tup sxs.reverse) := k8.to upd_same
        have er2 : upd (upd H6 r (.tup sxs.reverse)) r2 (.tup [.ref r]) r2 = some (.tup [.ref r]) := upd_same
        have k68 := k7.trans k8
        generalize upd (upd H6 r (.tup sxs.reverse)) r2 (.tup [.ref r]) = H8 at er er2 k68 ⊢
        have k58 := k6.trans k68
        have dS : Dt K H8 (.ref sa) (stepsD ss) := .tup (seqT_keep k58 Soft.nil sqs) (dss.k0 k58)
        have dR : Dt K H8 (.ref r) (stepsD ss.reverse) := .tup (SqT.of er) (by rw [List.map_reverse]; exact (dss.k0 k58).rev)
        refine ⟨_, rfl, _, _, rfl, rfl, .inr ⟨_, rfl, ?_⟩⟩
        by_cases c : i ≤ 5
        · rw [decide_eq_false (show ¬ (5 : Int) < 0 + (i : Int) by omega)]
          refine .inl ⟨r2, .ref r, rfl, rfl, SqT.of er2, fun r3 hr4 => ?_⟩
          have k9 : Keep [] H8 (upd H8 r3 (.tup [])) := Keep.new hr4
          refine ⟨q, r3, [v0, .ref sa], [], rfl, rfl, SqT.of (k9.to (k68.to eq6)), SqT.of upd_same, (by show 2 ≤ sizeLine; decide), (fun e => by cases e), fun _ _ => ?_, fun _ ne => absurd rfl ne⟩
          exact app (.ref q) ⟨ts', ss, none⟩ _ (k58.trans k9) (.tup (SqT.of (k9.to (k68.to eq6))) (.cons (d0.k0 (k68.trans k9)) (.cons (dS.k0 k9) .nil))) ⟨g0, ⟨by show ss.length ≤ 4; omega, gss⟩, fun z hz => by cases hz⟩ t7
        · rw [decide_eq_true (show (5 : Int) < 0 + (i : Int) by omega)]
          refine .inr ⟨r2, [.ref r], rfl, rfl, SqT.of er2, ?_⟩
          refine ⟨q, r2, [v0, .ref sa], [.ref r], rfl, rfl, SqT.of (k68.to eq6), SqT.of er2, (by show 3 ≤ sizeLine; decide), (fun e => by cases e), (fun _ e => by cases e), fun _ _ r3 hr4 => ?_⟩
          have k9 : Keep [] H8 (upd H8 r3 (.tup ([v0, .ref sa] ++ [.ref r]))) := Keep.new hr4
          exact app (.ref r3) ⟨ts', ss, some ss.reverse⟩ _ (k58.trans k9) (.tup (SqT.of upd_same) (.cons (d0.k0 (k68.trans k9)) (.cons (dS.k0 k9) (.cons (dR.k0 k9) .nil)))) ⟨g0, ⟨by show ss.length ≤ 4; omega, gss⟩, fun z hz => by cases hz; exact ⟨by rw [List.length_reverse]; omega, revOk⟩⟩ t7
      refine ⟨_, rfl, .inl ⟨rfl, _, SqL.of ef5⟩, _, rfl, _, _, rfl, rfl, _, rfl, ?_⟩
      by_cases c : i < 7
      · rw [decide_eq_true (show (0 + (i : Int)) < 7 by omega)]
        refine iteT ⟨_, rfl, _, rfl, (by show 2 ≤ sizeLine; decide), fun q hq => ?_⟩
        have kq : Keep [] H5 (upd H5 q (.tup [tt, .ref sa])) := Keep.new hq
        exact tail tt ts q _ kq upd_same (dtt5.k0 kq) ⟨by omega, gts⟩ (fun z => by omega)
      · rw [decide_eq_false (show ¬ (0 + (i : Int)) < 7 by omega)]
        refine iteF ⟨Nat.zero_le _, fun q0 hq0 => ⟨_, rfl, (by show 2 ≤ sizeLine; decide), fun q hq => ?_⟩⟩
        have k0 : Keep [] H5 (upd H5 q0 (.tup [])) := Keep.new hq0
        have kq : Keep [] (upd H5 q0 (.tup [])) (upd (upd H5 q0 (.tup [])) q (.tup [.ref q0, .ref sa])) := Keep.new hq
        exact tail (.ref q0) [] q _ (k0.trans kq) upd_same (.tup (SqT.of (kq.to upd_same)) .nil) ⟨by decide, fun z y => by cases y⟩ (fun _ => rfl)
    rintro σ' H3 ⟨xs, zs, x4, x5, x7, rfl, k3, s3, ew3, en3, ef3, dx, lz, gz, tz⟩
    refine ⟨_, rfl, na, _, rfl, .inl ⟨SqL.of en3, fun q hq => ?_⟩⟩
    have kq : Keep [] H3 (upd H3 q (.tup (ns.map V.str))) := Keep.new hq
    refine ⟨_, rfl, fa, _, rfl, .inl ⟨SqL.of (kq.to ef3), fun q2 hq2 => ⟨(by show 2 ≤ sizeLine; decide), fun q3 hq3 => ?_⟩⟩⟩
    have kq2 : Keep [] (upd H3 q (.tup (ns.map V.str))) (upd (upd H3 q (.tup (ns.map V.str))) q2 (.tup xs)) := Keep.new hq2
    have eq1 : upd (upd H3 q (.tup (ns.map V.str))) q2 (.tup xs) q = some (.tup (ns.map V.str)) := kq2.to upd_same
    have eq2 : upd (upd H3 q (.tup (ns.map V.str))) q2 (.tup xs) q2 = some (.tup xs) := upd_same
    have k34 := kq.trans kq2
    generalize upd (upd H3 q (.tup (ns.map V.str))) q2 (.tup xs) = H4 at eq1 eq2 k34 hq3 ⊢
    have k45 : Keep [] H4 (upd H4 q3 (.tup [.ref q, .ref q2])) := Keep.new hq3
    refine k (.ref q3) _ ns zs (k3.trans (Keep.of_nil (k34.trans k45))) ((s3.keep k34 (by simp)).keep k45 (by simp)) ?_ ⟨hreg, by omega, gz, fun z hz => tz z (by rw [lz] at hz; exact hz)⟩
    exact .tup (SqT.of upd_same) (.cons (.tup (SqT.of (k45.to eq1)) (DtAll.strs ns)) (.cons (.tup (SqT.of (k45.to eq2)) (dx.k0 (k34.trans k45))) .nil))
end
end La
set_option Elab.async false
set_option linter.all false
set_option maxRecDepth 100000
set_option maxHeartbeats 4000000
namespace La
open PySem PySem.Spec PyProof.Rows L2 SM
theorem ruleM80 {K : PySem.W.Frag} (h : exB K = true) : ClsF K "Rule" ∧ PySem.W.findIn K (.ref (He.ga K "Rule")) "__ne__" = some (some (.builtin "object.__ne__")) := by
  obtain ⟨_, h⟩ := He.ba (show (exA0 K && exM K) = true from h)
  obtain ⟨a, b⟩ := He.ba (show (clsM K "Rule" && ruleM K) = true from h)
  obtain ⟨d1, _⟩ := He.ba (show (_ && tys02.all _) = true from b)
  exact ⟨.of a, He.eqO_ok d1⟩
theorem nf_self (K : PySem.W.Frag) (C : Addr) : PySem.W.notFirst K C (.ref C) = true := by
  unfold PySem.W.notFirst
  rw [beq_self_eq_true]
  rfl
section
variable {K : PySem.W.Frag} {H : Hp} {x y : Addr} {ns ms : List Str} {ls ks : List Ln} {Q : VK}
/-- two rules compared -/
theorem eqR (cR : ClsF K "Rule") (CR : Cls K (He.ga K "Rule")) (hx : RuleIs K H x ns ls) (vx : VRule ns ls) (hy : RuleIs K H y ms ks) (vy : VRule ms ks) (q : ∀ b, (b = true ↔ ns = ms ∧ ls = ks) → Q (.bl b) H) : rEqOwn K (He.ga K "Rule") (spRuleEq K) E0 (.ref x) (.ref y) H Q := by
  obtain ⟨dx, _, _, _, _, ex, _⟩ := id hx
  obtain ⟨dy, _, _, _, _, ey, _⟩ := id hy
  exact ⟨x, dx, _, _, rfl, ex, cR.ty CR ey, nf_self K _, x, .ref y, ns, ls, rfl, hx, vx, .inl ⟨y, ms, ks, rfl, hy, vy, fun b hb => ⟨⟨b, rfl⟩, q b hb⟩⟩⟩
theorem neR (cR : ClsF K "Rule") (CR : Cls K (He.ga K "Rule")) (hx : RuleIs K H x ns ls) (vx : VRule ns ls) (hy : RuleIs K H y ms ks) (vy : VRule ms ks) (q : ∀ b, (b = true ↔ ns = ms ∧ ls = ks) → Q (.bl (!b)) H) : rNeOwn K (He.ga K "Rule") (spRuleEq K) E0 (.ref x) (.ref y) H Q := by
  obtain ⟨dx, _, _, _, _, ex, _⟩ := id hx
  obtain ⟨dy, _, _, _, _, ey, _⟩ := id hy
  exact ⟨x, dx, _, _, rfl, ex, cR.ty CR ey, nf_self K _, x, .ref y, ns, ls, rfl, hx, vx, .inl ⟨y, ms, ks, rfl, hy, vy, fun b hb => ⟨b, rfl, q b hb⟩⟩⟩
end
/-- the script as it stands: nobody changes it -/
def ScriptAt (K : PySem.W.Frag) (H : Hp) (a : Addr) (xs : List V) : Prop := (∃ o, H a = some (.frz o (.lst xs))) ∨ ∀ H', SqL K H' a xs
theorem ScriptAt.seq {K : PySem.W.Frag} {H : Hp} {a : Addr} {xs : List V} (h : ScriptAt K H a xs) : SqL K H a xs := h.elim (fun h => .inl (.inr h)) fun h => h H
theorem ScriptAt.keep {K : PySem.W.Frag} {m : List Addr} {H H' : Hp} {a : Addr} {xs : List V} (h : ScriptAt K H a xs) (k : Keep m H H') (n : ∀ b ∈ m, ∃ ys, H b = some (.lst ys)) : ScriptAt K H' a xs := by
  rcases h with ⟨o, h⟩ | h
  · refine .inl ⟨o, k _ _ (fun z => ?_) h⟩
    obtain ⟨ys, e⟩ := n _ z
    rw [h] at e
    cases e
  · exact .inr h
theorem Src.lsts {H : Hp} {p : Addr} (h : Src H p) : ∀ b ∈ [p], ∃ ys, H b = some (.lst ys) := fun b z => by
  obtain ⟨x, y, e, _⟩ := h
  rw [List.mem_singleton.mp z]
  exact ⟨_, e⟩
def spLaw (K : PySem.W.Frag) : Sp := fun vs H Q _ => ∃ (s : Addr) (ns : List Int), vs = [.ref s] ∧ ScriptAt K H s (ns.map V.int) ∧ ns.length ≤ 63 ∧ (∀ n ∈ ns, Builtin.Int.intBits n ≤ 1048576) ∧ ∀ H', Q (.bl true) H'
def plD (q : List Str × List Ln) : PyData := planD q.1 q.2
theorem v_small : VRule [] [⟨[], [], none⟩] ∧ VRule [] [⟨[], [], some []⟩] := by
  refine ⟨⟨by decide +kernel, ⟨by decide, by decide⟩, ?_, ?_⟩, ⟨by decide +kernel, ⟨by decide, by decide⟩, ?_, ?_⟩⟩
  · intro z hz
    rw [List.mem_singleton.mp hz]
    exact ⟨⟨by decide, fun t h => by cases h⟩, ⟨by decide, fun t h => by cases h⟩, fun k h => by cases h⟩
  · intro z hz
    cases hz
    rfl
  · intro z hz
    rw [List.mem_singleton.mp hz]
    exact ⟨⟨by decide, fun t h => by cases h⟩, ⟨by decide, fun t h => by cases h⟩, fun k h => by cases h; exact ⟨by decide, fun t h => by cases h⟩⟩
  · intro z hz
    cases hz
    rfl
section
variable {P : Program} {w : World} {K : PySem.W.Frag} {mg : Str → Option Value} {base : Heap}
abbrev s_law : Stmt := (top 46)
abbrev N_law : List Str := ["script", "start", "source", "some", "turn", "plan", "one", "due"]
abbrev P_law : List Str := ["script"]
theorem sc_law : FnScope N_law P_law (defScope s_law) := ⟨rfl, rfl, rfl, by decide +kernel, rfl, by decide +kernel, by decide +kernel⟩
theorem Dlaw (W : Cw fas fns K mg) (hx : exB K = true) (D_law_source : DefOk P w K mg base CX0 1 "_law_source" P__law_source (spSource K)) (D_law_plan : DefOk P w K mg base CX0 4 "_law_plan" P__law_plan (spPlan K)) (D_law_great : DefOk P w K mg base CX0 3 "_law_great" P__law_great (spGreat K))
    (D_law_rule : DefOk P w K mg base CX0 7 "_law_rule" P__law_rule (spRuleOf K)) (D_law_lines : DefOk P w K mg base CX0 2 "_law_lines" P__law_lines (spLines K)) (BRt : DefB P w K mg base CX0 3 "rule_text" P_rule_text (spRuleText K)) (BRr : DefB P w K mg base CX0 7 "read_rule" P_read_rule (spReadRule K))
    {f : Addr} {fd : FuncData} (F : FunD K "law" "law" (defArgs s_law) (defBody s_law) (defScope s_law) [] [] f fd) : FnG P w K mg base CX0 8 f fd P_law (spLaw K) := by
  refine FnG.ofF F sc_law (fun vs H Q E h => ?_) (fun cdv B up s H vs Q E gd hr h => ?_)
  · obtain ⟨a, ns, rfl, _⟩ := h
    rfl
  · obtain ⟨a, sc, rfl, hS, hl, hb, k⟩ := h
    obtain ⟨cR, cNe⟩ := ruleM80 hx
    have CR : Cls K (He.ga K "Rule") := He.cls_ok (W.fact 57)
    obtain ⟨fdRq, FRq, bRq⟩ := I_RuleEq (P := P) (w := w) (base := base) W cR
    have Drule_text := BRt.ok
    have Dread_rule := BRr.ok
    obtain ⟨⟨fdRt, FRt, _, bRt⟩, kRt, aRt⟩ := BRt
    obtain ⟨⟨fdRr, FRr, _, bRr⟩, kRr, aRr⟩ := BRr
    refine ⟨_, PSs.nox (Evl.pss_cut (ps_for PassesOwn.never rfl (pi_range1 (by rfl) (W.fre 51) (pa_cons (pe_callB (call_max2 rfl) (by rfl) (W.fre 48) (by decide +kernel) (pa_cons pe_int (pa_cons (pe_callB (call_min2 rfl) (by rfl) (W.fre 49) (by decide +kernel) (pa_cons pe_int (pa_cons (pe_callB call_len_seq (by rfl) (W.fre 46) (by decide +kernel) (pa_cons (pv 0) pa_nil)) pa_nil))) pa_nil))) pa_nil)) (pg_name (i := 1) sc_law.nd rfl (by first | exact Or.inl rfl | exact Or.inr rfl)) (Evl.pss_cut (ps_set (i := 2) sc_law.nd rfl (by first | exact Or.inl rfl | exact Or.inr rfl) (SM.pe_callD D_law_source (hr.mono (by decide)) pass0 (pa_cons (pv 0) (pa_cons (pv 1) pa_nil)))) (Evl.pss_cut (ps_set (i := 3) sc_law.nd rfl (by first | exact Or.inl rfl | exact Or.inr rfl) (pe_op op_cat (pe_lc (own := [("turn", 4)]) (g := gName 4) (tt := tYes) (te := tCall (spPlan K) [] E0 (tCons (tVar 2) tNil)) (by rfl) sc_law.nd (pi_range1 (by rfl) (W.fre 51) (pa_cons pe_int pa_nil)) (blkOk_by (own := [("turn", 4)]) (N := N_law) (sc := defScope s_law) (by decide +kernel)) (fun _ _ _ _ _ => pg_name (i := 4) sc_law.nd rfl (Or.inl rfl)) (fun _ _ _ _ _ => pts_nil) (fun _ _ _ _ _ => (SM.pe_callD D_law_plan (hr.mono (by decide)) pass0 (pa_cons (pv 2) pa_nil)))) (pe_lst (pa_cons (SM.pe_callD D_law_great (hr.mono (by decide)) pass0 (pa_cons (pv 2) pa_nil)) (pa_cons (pe_tup (pa_cons (pe_tup pa_nil) (pa_cons (pe_tup (pa_cons (pe_tup (pa_cons (pe_tup pa_nil) (pa_cons (pe_tup pa_nil) pa_nil))) pa_nil)) pa_nil))) (pa_cons (pe_tup (pa_cons (pe_tup pa_nil) (pa_cons (pe_tup (pa_cons (pe_tup (pa_cons (pe_tup pa_nil) (pa_cons (pe_tup pa_nil) (pa_cons (pe_tup pa_nil) pa_nil)))) pa_nil)) pa_nil))) pa_nil)))))) (pss_one (ps_for PassesOwn.never rfl (pi_list (pv 3)) (pg_name (i := 5) sc_law.nd rfl (by first | exact Or.inl rfl | exact Or.inr rfl)) (Evl.pss_cut (ps_par (i := 6) (j := 7) (by rfl) sc_law.nd rfl rfl (by decide) rfl rfl (pa_cons (SM.pe_callD D_law_rule (hr.mono (by decide)) pass0 (pa_cons (pv 5) pa_nil)) (pa_cons (pe_join pe_str (SM.pe_callD D_law_lines (hr.mono (by decide)) pass0 (pa_cons (pv 5) pa_nil))) pa_nil)) (by rfl)) (Evl.pss_cut (ps_if (PW.pt (pw_or (pt_cmpR op_ne (SM.pe_callD Drule_text (hr.mono (by decide)) pass0 (pa_cons (pv 6) pa_nil)) (pv 7) (nomark _)) (pw_or1 (pt_cmpR op_ne (SM.pe_callN0 FRt (hr.mono (by decide)) (by rfl) aRt kRt bRt pass0 (pk_cons (pv 6) pk_nil)) (pv 7) (nomark _))))) (pss_one (ps_ret pe_bl)) pss_nil) (pss_one (ps_if (PW.pt (pw_or (pt_cmpR (SM.op_neOwn FRq cR.at_ cR.mro cNe cR.fn bRq pass0 (hr.mono (by decide))) (SM.pe_callD Dread_rule (hr.mono (by decide)) pass0 (pa_cons (pv 7) pa_nil)) (pv 6) (nomark _)) (pw_or (pt_cmpR (SM.op_neOwn FRq cR.at_ cR.mro cNe cR.fn bRq pass0 (hr.mono (by decide))) (SM.pe_callN0 FRr (hr.mono (by decide)) (by rfl) aRr kRr bRr pass0 (pk_cons (pv 7) pk_nil)) (pv 6) (nomark _)) (pw_or1 (pt_cmpR op_ne (SM.pe_callD Drule_text (hr.mono (by decide)) pass0 (pa_cons (SM.pe_callD Dread_rule (hr.mono (by decide)) pass0 (pa_cons (pv 7) pa_nil)) pa_nil)) (pv 7) (nomark _)))))) (pss_one (ps_ret pe_bl)) pss_nil))))))))) (pss_one (ps_ret pe_bl))), ?_⟩
    refine ⟨fun _ _ => True, ?_, fun σ' H' _ => k H'⟩
    have bound : ∀ z : Int, (if (if z < 4 then z else 4) > 1 then (if z < 4 then z else 4) else 1) ≤ 4 ∧ 1 ≤ (if (if z < 4 then z else 4) > 1 then (if z < 4 then z else 4) else 1) := fun z => by
      split <;> split <;> omega
    have bd := bound ((sc.map V.int).length : Int)
    refine ⟨_, rfl, a, _, rfl, .inl hS.seq, _, _, rfl, _, _, rfl, _, rfl, by omega, by omega, for_range (lo := 0) (fun _ σ H' => ∃ b1 b2 b3 b4 b5 b6 b7, σ = [some (.ref a), b1, b2, b3, b4, b5, b6, b7] ∧ ScriptAt K H' a (sc.map V.int))
      ⟨_, _, _, _, _, _, _, rfl, hS⟩ ?_ (fun _ _ _ => trivial)⟩
    rintro i σ H0 hi ⟨b1, b2, b3, b4, b5, b6, b7, rfl, hS0⟩
    let τ : V → Option V → Option V → Option V → Option V → Option V → L2.St := fun p x3 x4 x5 x6 x7 => [some (.ref a), some (.int (0 + (i : Int))), some p, x3, x4, x5, x6, x7]
    -- source
    refine ⟨fun σ' H' => ∃ p, σ' = τ (.ref p) b3 b4 b5 b6 b7 ∧ ScriptAt K H' a (sc.map V.int) ∧ Src H' p, ?_, ?_⟩
    · refine ⟨_, rfl, _, rfl, a, sc, _, rfl, hS0.seq, hl, hb, by omega, by omega, fun p H' np kp sp => ?_⟩
      exact ⟨p, rfl, hS0.keep kp (fun b z => by cases z), sp⟩
    rintro σ' H1 ⟨p, rfl, hS1, s1⟩
    -- some
    refine ⟨fun σ' H' => ∃ (sa : Addr) (xs : List V) (pds : List (List Str × List Ln)), σ' = τ (.ref p) (some (.ref sa)) b4 b5 b6 b7 ∧ Keep [p] H1 H' ∧ Src H' p ∧ sa ≠ p ∧ H' sa = some (.lst xs) ∧ DtAll K H' xs (pds.map plD) ∧ ∀ q ∈ pds, VRule q.1 q.2, ?_, ?_⟩
    · refine rd_asg (rd_op ⟨5, rfl, by decide, by decide, fun D hD => ?_⟩)
      have Dp : D ≠ p := (ne_of_none s1.choose_spec.choose_spec.1 hD).symm
      refine lc_range (lo := 0) (n := 5) (fun j H' => ∃ (xs : List V) (pds : List (List Str × List Ln)), H' D = some (.lst xs) ∧ DtAll K H' xs (pds.map plD) ∧ pds.length = j ∧ Keep [p] H1 H' ∧ Src H' p ∧ ∀ q ∈ pds, VRule q.1 q.2) ⟨[], [], upd_same, .nil, rfl, Keep.new hD, s1.keep (Keep.new (m := []) hD) (by simp), fun z y => by cases y⟩ ?_ ?_
      · rintro j H' hj ⟨xs, pds, e', dx, lp, k', s', vp⟩
        refine ⟨rfl, ?_⟩
        refine ⟨_, rfl, p, rfl, s', fun v H2 ns ls k2 s2 dv po => ⟨xs, k2 _ _ (by simpa using Dp) e', ?_, xs ++ [v], pds ++ [(ns, ls)], upd_same, ?_, by rw [List.length_append, lp]; rfl, ?_, ?_, ?_⟩⟩
        · rw [dx.length, List.length_map, lp]
          exact Nat.lt_of_lt_of_le (show j < 100 by omega) (by decide)
        · rw [List.map_append]
          exact ((dx.keep k2 s'.soft).append (.cons dv .nil)).keep (Keep.at_ (m := [D]) (by simp)) (Soft.lst (k2 _ _ (by simpa using Dp) e'))
        · exact Keep.own (k'.trans k2) hD
        · exact s2.keep (Keep.at_ (m := [D]) (by simp)) (by simpa using Dp.symm)
        · intro z hz
          rcases List.mem_append.mp hz with hz | hz
          · exact vp z hz
          · rw [List.mem_singleton.mp hz]
            exact po.v
      · rintro H' ⟨xs, pds, e', dx, lp, k', s', vp⟩
        have lx : xs.length = 5 := by rw [dx.length, List.length_map, lp]
        refine ⟨_, rfl, p, rfl, s', fun v H2 ns ls k2 s2 dv vr => ?_⟩
        have e2 := k2 _ _ (by simpa using Dp) e'
        have dx2 := dx.keep k2 s'.soft
        let c1 : List Str × List Ln := ([], [⟨[], [], none⟩])
        let c2 : List Str × List Ln := ([], [⟨[], [], some []⟩])
        have nn : LtH K (tTup tNil) (τ (.ref p) b3 b4 b5 b6 b7) H2 (.tuple []) := LtH.disp .nil (Nat.le_of_ble_eq_true rfl)
        have L : LtL K (tCons (tTup (tCons (tTup tNil) (tCons (tTup (tCons (tTup (tCons (tTup tNil) (tCons (tTup tNil) tNil))) tNil)) tNil))) (tCons (tTup (tCons (tTup tNil) (tCons (tTup (tCons (tTup (tCons (tTup tNil) (tCons (tTup tNil) (tCons (tTup tNil) tNil)))) tNil)) tNil))) tNil)) (τ (.ref p) b3 b4 b5 b6 b7) H2 [plD c1, plD c2] :=
          .cons (LtH.disp (.cons nn (.cons (LtH.disp (.cons (LtH.disp (.cons nn (.cons nn .nil)) (Nat.le_of_ble_eq_true rfl)) .nil) (Nat.le_of_ble_eq_true rfl)) .nil)) (Nat.le_of_ble_eq_true rfl)) (.cons (LtH.disp (.cons nn (.cons (LtH.disp (.cons (LtH.disp (.cons nn (.cons nn (.cons nn .nil))) (Nat.le_of_ble_eq_true rfl)) .nil) (Nat.le_of_ble_eq_true rfl)) .nil)) (Nat.le_of_ble_eq_true rfl)) .nil)
        refine (show tCons _ _ _ _ _ from L H2 Keep.refl _ fun us H3 k3 du => ?_)
        have lu : us.length = 2 := du.length
        refine ⟨Nat.le_trans (show (v :: us).length ≤ 3 by rw [List.length_cons, lu]; exact Nat.le_refl 3) (by decide), fun q hq => ?_⟩
        have kq : Keep [] H3 (upd H3 q (.lst (v :: us))) := Keep.new hq
        have k3q := k3.trans kq
        refine ⟨D, q, xs, v :: us, rfl, rfl, k3q.to e2, upd_same, Nat.le_trans (show xs.length + (v :: us).length ≤ 100 by rw [List.length_cons]; omega) (by decide), fun r hr' => ?_⟩
        have kr : Keep [] (upd H3 q (.lst (v :: us))) (upd (upd H3 q (.lst (v :: us))) r (.lst (xs ++ v :: us))) := Keep.new hr'
        have s4 := (s2.keep k3q (by simp))
        refine ⟨r, xs ++ v :: us, pds ++ [(ns, ls), c1, c2], rfl, k'.trans (k2.trans (Keep.of_nil (k3q.trans kr))), s4.keep kr (by simp), (ne_of_none s4.choose_spec.choose_spec.1 hr').symm, upd_same, ?_, ?_⟩
        · rw [List.map_append]
          exact (dx2.k0 (k3q.trans kr)).append (.cons (dv.k0 (k3q.trans kr)) (du.k0 (kq.trans kr)))
        · intro z hz
          rcases List.mem_append.mp hz with hz | hz
          · exact vp z hz
          · simp only [List.mem_cons, List.not_mem_nil, or_false] at hz
            rcases hz with rfl | rfl | rfl
            · exact vr
            · exact v_small.1
            · exact v_small.2
    rintro σ' H2 ⟨sa, xs, pds, rfl, k2, s2, sap, esa, dxs, vp⟩
    have hS2 := hS1.keep k2 (Src.lsts s1)
    let Pv : Nat → L2.St → Hp → Prop := fun _ σ' H' => ∃ x4 x5 x6 x7, σ' = τ (.ref p) (some (.ref sa)) x4 x5 x6 x7 ∧ Keep [] H2 H'
    refine ⟨_, rfl, sa, rfl, ⟨_, SqL.of esa⟩, for_list (K := K) (a := sa) (xs := xs) Pv ⟨_, _, _, _, rfl, Keep.refl⟩ (fun i σ H _ z => by obtain ⟨_, _, _, _, _, kk⟩ := z; exact SqL.of (kk.to esa)) ?_ ?_⟩
    · rintro j v σ' H3 hv3 ⟨x4, x5, x6, x7, rfl, k3⟩
      obtain ⟨d, hd, dv⟩ := dxs.get hv3
      obtain ⟨q, hq, rfl⟩ := map_get hd
      obtain ⟨ns, ls⟩ := q
      have hv : VRule ns ls := vp _ (List.mem_of_getElem? hq)
      have dv3 : Dt K H3 v (planD ns ls) := dv.k0 k3
      have n3 := hv.okN.1
      have l8 := hv.few
      have wo := hv.words
      have lo := hv.lnOk
      -- one, due
      refine ⟨fun σ' H' => ∃ x, σ' = τ (.ref p) (some (.ref sa)) x4 (some v) (some (.ref x)) (some (.str (ruleT ns ls))) ∧ Keep [] H3 H' ∧ RuleIs K H' x ns ls, ?_, ?_⟩
      · refine ⟨_, rfl, v, ns, ls, rfl, dv3, hv, fun x H4 k4 nx ri => ⟨⟨_, rfl⟩, _, rfl, v, ns, ls, rfl, dv3.k0 k4, hv, fun pa H5 k5 ep => ?_⟩⟩
        refine ⟨"\n", pa, _, rfl, rfl, .inl (SqL.of ep), sum4 (m := 800) (fun z hz => ?_) (by rw [List.length_cons, List.length_map]; omega) (by decide) _ (by decide +kernel), _, _, rfl, x, rfl, k4.trans k5, ri.keep k5 (by simp) Soft.nil⟩
        rcases List.mem_cons.mp hz with rfl | hz
        · exact Nat.le_trans (head_len n3 wo) (by decide)
        · obtain ⟨y, hy, rfl⟩ := List.mem_map.mp hz
          exact line_len (lo y hy)
      rintro σ' H4 ⟨x, rfl, k4, ri4⟩
      let S : L2.St := τ (.ref p) (some (.ref sa)) x4 (some v) (some (.ref x)) (some (.str (ruleT ns ls)))
      refine ⟨fun σ' H' => σ' = S ∧ Keep [] H4 H', ?_, ?_⟩
      · refine ⟨_, rfl, x, ns, ls, rfl, ri4, hv, fun H5 k5 => ⟨_, rfl, rfl, _, rfl, ite2 (fun h => absurd h (by simp)) (fun _ => ?_)⟩⟩
        refine ⟨_, rfl, rfl, rfl, x, ns, ls, rfl, ri4.keep k5 (by simp) Soft.nil, hv, fun H6 k6 => ⟨_, rfl, rfl, _, rfl, ite2 (fun h => absurd h (by simp)) (fun _ => ⟨rfl, k5.trans k6⟩)⟩⟩
      rintro σ' H5 ⟨rfl, k5⟩
      have ri5 := ri4.keep k5 (by simp) Soft.nil
      have nex : ∀ {y : Addr} {H' : Hp} {Q' : VK}, RuleIs K H' y ns ls → RuleIs K H' x ns ls → Q' (.bl false) H' → rNeOwn K (He.ga K "Rule") (spRuleEq K) E0 (.ref y) (.ref x) H' Q' := by
        intro y H' Q' hy hx' q'
        refine neR cR CR hy hv hx' hv fun b hb => ?_
        have e : b = true := hb.mpr ⟨rfl, rfl⟩
        rw [e]
        exact q'
      refine ⟨_, rfl, ns, ls, rfl, hv, fun y H6 k6 _ ry => ⟨_, rfl, ?_⟩⟩
      refine nex ry (ri5.keep k6 (by simp) Soft.nil) ⟨_, rfl, iteF ?_⟩
      refine ⟨_, rfl, rfl, rfl, ns, ls, rfl, hv, fun y2 H7 k7 _ ry2 => ⟨_, rfl, ?_⟩⟩
      refine nex ry2 (ri5.keep (k6.trans k7) (by simp) Soft.nil) ⟨_, rfl, iteF ?_⟩
      refine ⟨_, rfl, ns, ls, rfl, hv, fun y3 H8 k8 _ ry3 => ⟨y3, ns, ls, rfl, ry3, hv, fun H9 k9 => ⟨_, rfl, rfl, _, rfl, ite2 (fun h => absurd h (by simp)) (fun _ => ?_)⟩⟩⟩
      exact ⟨_, _, _, _, rfl, k3.trans (k4.trans (k5.trans (k6.trans (k7.trans (k8.trans k9)))))⟩
    · rintro σ' H3 ⟨x4, x5, x6, x7, rfl, k3⟩
      exact ⟨_, _, _, _, _, _, _, rfl, hS2.keep k3 (fun b z => by cases z)⟩
end
end La
set_option Elab.async false
set_option linter.all false
set_option maxRecDepth 100000
set_option maxHeartbeats 4000000
namespace La
open PySem PySem.Spec PyProof.Rows L2 SM
theorem facts {w : World} {K : PySem.W.Frag} {h : Heap} {mg : Str → Option Value} {fa : Addr} (X : K.In h) (G : h.Ns mainGlobals mg) (hfa : mg ("law" : Str) = some (.ref fa)) (c : SaysP fas fns prs exB K) :
    ∃ fd : FuncData, (∀ (s : Shared) (v : Value), BindsTo s fd ⟨[v], []⟩ [("script", v)]) ∧ ∀ base : Heap, K.In base → base.Ns mainGlobals mg → Sm base → FnG (PySem.Challenge.rw_stillmine_k80_texts_of_rules).prog w K mg base CX0 8 fa fd ["script"] (spLaw K) := by
  have hx : exB K = true := c.more
  have W : Cw fas fns K mg := ⟨⟨h, X, G⟩, c.d⟩
  obtain ⟨fd, F⟩ := c.d.def_ 37 (d := d_law) rfl
  have e := hfa.symm.trans (W.glo 39)
  cases e
  have b := FunD.bindsA (ps := ["script"]) F fun _ _ _ _ _ _ us hl => match us, hl with | [_], _ => rfl
  have Pr : PropAt K q_Rule_registers := c.prop 0
  have Pp : PropAt K q_Rule_places := c.prop 2
  have Pl : PropAt K q_Rule_lines := c.prop 1
  have hP := places_at hx
  refine ⟨fd, fun s v => b s [v] rfl, fun base _ _ sm => ?_⟩
  have d1 := D_law_draw (P := (PySem.Challenge.rw_stillmine_k80_texts_of_rules).prog) (w := w) (base := base) W
  have pk := D_law_pick W d1
  have st := D_law_steps W d1 pk
  have ts := D_law_tests W d1 pk
  have mx := D_law_mixed W d1
  have gd := D_law_good W d1 mx
  have no := D_law_noted_as (P := (PySem.Challenge.rw_stillmine_k80_texts_of_rules).prog) (w := w) (base := base) W
  have pl := D_law_plan W d1 pk st ts gd no
  have cf := Dchoice_of (P := (PySem.Challenge.rw_stillmine_k80_texts_of_rules).prog) (w := w) (base := base) W
  have am := Dare_at_most_four (P := (PySem.Challenge.rw_stillmine_k80_texts_of_rules).prog) (w := w) (base := base) W
  have is := Dis_step (P := (PySem.Challenge.rw_stillmine_k80_texts_of_rules).prog) (w := w) (base := base) W
  have it := Dis_test (P := (PySem.Challenge.rw_stillmine_k80_texts_of_rules).prog) (w := w) (base := base) W
  have as := Dare_steps W is am
  have il := Dis_line W it as am
  have iw := Dis_word (P := (PySem.Challenge.rw_stillmine_k80_texts_of_rules).prog) (w := w) (base := base) W
  have ar := Dare_registers W hx iw
  have rb := Drefuse_bad_lines W (R_BadLine W hx) il
  have ir := I_Rule Pp hP cf W (R_BadRegisters W hx) (R_BadLines W hx) ar rb
  have lr := D_law_rule W ir
  have sT := Dsteps_text (P := (PySem.Challenge.rw_stillmine_k80_texts_of_rules).prog) (w := w) (base := base) W
  have tT := Dtests_text (P := (PySem.Challenge.rw_stillmine_k80_texts_of_rules).prog) (w := w) (base := base) W
  have lT := Dline_text W sT tT
  have rS := Dread_step (P := (PySem.Challenge.rw_stillmine_k80_texts_of_rules).prog) (w := w) (base := base) W
  have rT := Dread_test (P := (PySem.Challenge.rw_stillmine_k80_texts_of_rules).prog) (w := w) (base := base) W
  have rSs := Dread_steps W rS
  have rL := Dread_line W rT rSs
  have bT := Drule_text Pr Pl W lT
  have bR := Dread_rule W ir ar rL il lT
  have wr := D_law_written (P := (PySem.Challenge.rw_stillmine_k80_texts_of_rules).prog) (w := w) (base := base) W
  have li := D_law_lines W wr
  have mS := D_law_mixedS W d1
  have gt := D_law_great W pk mS
  exact Dlaw W hx (D_law_source W) pl gt lr li bT bR F
theorem script_of {K : PySem.W.Frag} {H : Hp} {a : Addr} {xs : List V} (o : Only H) (h : SqL K H a xs) : ScriptAt K H a xs := by
  rcases h with (h | ⟨ob, h⟩) | h
  · rcases o a with z | ⟨ob, ys, z⟩
    · rw [z] at h
      cases h
    · rw [z] at h
      cases h
  · exact .inl ⟨ob, h⟩
  · exact .inr fun H' => .inr h
end La
open PySem PySem.W PySem.Calls PyProof.Rows
set_option maxRecDepth 100000 in
set_option maxHeartbeats 0 in
theorem PySem.Challenge.cw_stillmine_k80_texts_of_rules_holds : PySem.Challenge.rw_stillmine_k80_texts_of_rules.Holds := by
  w_on; o_law
  refine HandSHeadRun.head_any (r := OpenLaw.row PySem.Challenge.rw_stillmine_k80_texts_of_rules) (q := La.qv) (H := La.hk) (ob := La.ob) (M := 20000) (loose := La.loose) (d := HandSHeadRun.topDef (OpenLaw.row PySem.Challenge.rw_stillmine_k80_texts_of_rules).prog 46) (kwd := []) La.ob_eq
    (by kernel_rfl) (fun s => by kernel_rfl) La.run (by kernel_rfl) (by kernel_rfl) (by kernel_rfl) (by rfl) (by first | assumption | decide +kernel) (by decide +kernel) ⟨rfl, rfl, rfl, rfl, rfl, by decide +kernel⟩ ?hw ?hc
  case hw => w_witness2
  case hc =>
    refine SM.walkG (l := PySem.Challenge.rw_stillmine_k80_texts_of_rules) (n := 63) (k := 8) (x := "script") (CX := L2.CX0) rfl (by decide) (by kernel_rfl) ⟨rfl, by decide, by decide⟩ (by kernel_rfl) ?F (fun _ _ _ _ z => z)
    intro w mg fa h Y G hmg0
    obtain ⟨K, KX, c⟩ := Y
    have hmg : mg ("law" : PySem.Str) = some (.ref fa) := by
      have e : (HandSHeadRun.topDef (OpenLaw.row PySem.Challenge.rw_stillmine_k80_texts_of_rules).prog 46).name = ("law" : PySem.Str) := by kernel_rfl
      rw [← e]
      exact hmg0
    obtain ⟨fd, hb, hF⟩ := La.facts (w := w) KX G hmg c
    exact ⟨K, fd, La.spLaw K, KX, hb, fun H a ns hl hbits ho hS => ⟨a, ns, rfl, La.script_of ho hS, hl, hbits, fun _ => rfl⟩, hF⟩
