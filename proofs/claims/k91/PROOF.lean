import PyProof.Rows.All
import Wide.All
import OpenK.AllK
import Wide.FinOn
import KE.KExcIs
import HandS.ForMost
import HandS.ForExc
import HandS.EndBits
import HandS.Wide
import HandS.IsInst
import HandS.ExcInit
import HandS.ExcIs
import HandS.ExcField
import HandS.Evl
import PyProof.ReprLen
import HandS.Head0
import HandS.Head1
import HandS.Head2
import HandS.HeadEnd
import HandS.HeadHook1
import HandS.HeadHook2
import HandS.Defaults
import HandS.Deep
import HandS.Property
import HandS.Strs
import HandS.TryMany
import HandS.TupAny
import HandS.TupMul
import HandS.Style
import HandS.More
import HandS.Walk
import HandS.OwnEq
import KE.GoesMore
import PyProof.EnumMake
import HandS.DictComp
import HandS.ExcOwn
import PySem.Challenge.RW_stillmine_k91_errors_by_hand
set_option Elab.async false
set_option linter.all false
set_option maxRecDepth 100000
set_option maxHeartbeats 2000000
/-! Calls while no repr is under way: the same layer with one more fact of the surroundings. -/
namespace SM
open PySem PySem.Spec PyProof.Rows L2

structure FnG (P : Program) (w : World) (K : PySem.W.Frag) (mg : Str → Option Value) (base : Heap) (CX : CXT) (k : Nat) (f : Addr) (fd : FuncData) (ps : List Str) (sp : Sp) : Prop where
  len : ∀ vs H Q E, sp vs H Q E → vs.length = ps.length
  go : ∀ (B : Around) (up : List Env) (s : Shared) (H : Hp) (ar : Args) (us : List Value) (vs : List V) (Q : VK) (E : XK),
    B.guards = some [] → Room k B → Env0 P w K mg base B up s H → BindsTo s fd ar (ps.zip us) → Vals vs us → sp vs H Q E →
      codeAny (model P w) B (.call (.ref f) ar) (CR CX up P w H s Q E) s

section
variable {P : Program} {w : World} {K : PySem.W.Frag} {mg : Str → Option Value} {base : Heap} {CX : CXT} {k : Nat} {f : Addr} {fd : FuncData} {ps : List Str} {sp : Sp}
theorem FnG.of (F : FnOk P w K mg base CX k f fd ps sp) : FnG P w K mg base CX k f fd ps sp :=
  ⟨F.len, fun B up s H ar us vs Q E _ hr e b r h => F.run B up s H ar us vs Q E hr e b r h⟩

/-- a def by its body, no repr under way around it -/
theorem okG {x qual : Str} {st : Stmt} {N : List Str} (F : Fun K x qual st f fd) (S : FnScope N ps (defScope st)) (len : ∀ vs H Q E, sp vs H Q E → vs.length = ps.length)
    (body : ∀ (cdv : Value) (B : Around) (up : List Env) (s : Shared) (H : Hp) (vs : List V) (Q : VK) (E : XK), B.guards = some [] →
      Room k (B.deeper (envOfC qual (defScope st) s.heap.objs.size f cdv)) → sp vs H Q E →
      ∃ t, PSs (cxOf CX P w K mg base N qual (defScope st) f cdv B up s H E) (defBody st) t ∧ t { nx := fun _ H' => Q .non H', rt := Q } (start N vs) H) :
    FnG P w K mg base CX (k + 1) f fd ps sp := by
  obtain ⟨oc, od, kV, doc, pm, an, cdv, ct, osl, e, lk, hcd⟩ := F.ex
  subst e
  refine ⟨len, fun B up s H ar us vs Q E hg hr e0 bt rv want => ?_⟩
  have many := len _ _ _ _ want
  have kin : K.In s.heap := e0.mod.kin.keeps (fun b o z => (e0.bs b o z).1)
  have room : s.heap.NoLimit := e0.mod.nolimit.keeps (fun b o z => (e0.bs b o z).1)
  have kinds : ∀ y ∈ ps.zip us, (defScope st).names.lookup y.1 = some .local ∨
      ((defScope st).names.lookup y.1 = some .cell ∧ ((cellsFrom (s.heap.objs.size + 1) (defScope st).names []).lookup y.1).isSome = true) := by
    rintro ⟨n, v⟩ hy
    cases S.par n (List.of_mem_zip hy).1 with
    | inl q => exact Or.inl q
    | inr q => exact Or.inr ⟨q, PySem.W.cellsFrom_some _ _ _ (Or.inl q)⟩
  apply codeAny_call_function hr.depth (kin _ _ lk) rfl S.co S.gen rfl (PySem.W.codeRec_of kin hcd)
  apply bt
  apply wpAny_newFunctionEnv_cells S.kind kinds
  intro env he s1 x
  subst he
  refine ⟨room.keeps x.toInCall.keep, codeAny_func ?_⟩
  obtain ⟨t, ht, q⟩ := body cdv B up s H vs Q E hg (hr.deeper _) want
  have I := inv_start (CX := CX) (E := E) S hr.hd e0 many rv x
  apply wpAny_mono (ht.run [] s1 (start N vs) H _ I q)
  · intro fl s' z
    have fin : ∀ {σ' : L2.St} {H' : Hp} {v : V} {u : Value}, Inv (cxOf CX P w K mg base N qual (defScope st) f cdv B up s H E) [] σ' H' s' → RelV v u → Q v H' → CE up P w H s Q u s' := by
      intro σ' H' v u J rv' q'
      exact ⟨v, H', J.os, J.bare, J.base, J.hok, rv', q'⟩
    cases fl with
    | next =>
      obtain ⟨σ', H', J, q'⟩ := z
      exact fin (v := V.non) (u := Value.none) J rfl q'
    | ret u =>
      obtain ⟨v, σ', H', J, rv', q'⟩ := z
      exact fin J rv' q'
    | brk =>
      obtain ⟨_, _, _, q'⟩ := z
      exact q'.elim
    | cont =>
      obtain ⟨_, _, _, q'⟩ := z
      exact q'.elim
  · exact fun e s' z => z
end

section
variable {X : Cx} {CX : CXT} {k : Nat} {f : Addr} {fd : FuncData} {ps : List Str} {sp : Sp} {dvs : List V} {ds : List Value} {E : XK} {x : Str} {p pos : Pos} {e : Expr} {es : List Expr} {t : TA}
theorem go_fn {pins : List (Addr × Obj)} {σ : L2.St} {H : Hp} {s : Shared} {Q : VK} {us : List Value} {vs : List V} (F : FnG X.prog X.w X.K X.mg X.base CX k f fd ps sp) (hg : X.A.guards = some []) (hr : Room k X.A) (hb : Binds X.K fd ps ds) (hd : Vals dvs ds) (hx : Passes CX X E)
    (I : Inv X pins σ H s) (r : Vals vs us) (want : sp (vs ++ dvs) H Q E) : wpAny (model X.prog X.w) X.A (call (.ref f) us) (EP X pins σ Q) X.xe s := by
  have rr : Vals (vs ++ dvs) (us ++ ds) := Vals.append r hd
  have many : (us ++ ds).length = ps.length := (Vals.length rr).symm.trans (F.len _ _ _ _ want)
  apply wpAny_call
  apply codeAny_mono (F.go X.A X.stack s H ⟨us, []⟩ (us ++ ds) (vs ++ dvs) Q E hg hr I.env0 (hb s us I.kIn many) rr want)
  intro r' s' z
  cases r' with
  | error er => exact hx pins σ H s er s' I z
  | ok fl =>
    cases fl with
    | ret u => exact I.after z
    | next => exact z.elim
    | brk => exact z.elim
    | cont => exact z.elim
theorem pe_callG (F : FnG X.prog X.w X.K X.mg X.base CX k f fd ps sp) (gd : X.A.guards = some []) (hr : Room k X.A) (hg : Gl X x) (hm : X.mg x = some (.ref f)) (hk : PySem.W.keepIn X.K (.ref f) = true) (hb : Binds X.K fd ps ds) (hd : Vals dvs ds) (hx : Passes CX X E)
    (ha : PA X (e :: es) t) (hdb : (x == ("__debug__" : Str)) = false := by decide) (he : starEach (e :: es) X.env = (false, eval e X.env) :: starEach es X.env := by rfl) (hpl : (backTo pos (starEach es X.env)).any (·.1) = false := by rfl) :
    PE X (.Call (.Name x p) (e :: es) [] pos) (tCall sp dvs E t) := by
  constructor
  intro pins s σ H Q I h
  apply wpAny_Call_Name_kw
  apply ld_glob I hg hm _ hdb
  apply PySem.W.callWith_K (h₀ := X.base) I.ok.mod.kin hk _ he hpl
  apply thn (ha.run pos pins s σ H _ I h)
  rintro us s1 ⟨vs, H1, I1, r, q⟩
  exact ⟨I1.kIn, go_fn F gd hr hb hd hx I1 r q⟩
end
end SM
set_option Elab.async false
set_option linter.all false
set_option maxRecDepth 100000
set_option maxHeartbeats 2000000
/-! Data with dicts in it, and repr of it. -/
namespace SM
open PySem PySem.Spec PyProof.Rows L2

def keyD : Key → PyData
  | .inl i => .int i
  | .inr x => .str x
mutual
/-- v stands for the data d in H -/
inductive Dq (K : PySem.W.Frag) (H : Hp) : V → PyData → Prop
  | non : Dq K H .non .none
  | bl (b : Bool) : Dq K H (.bl b) (.bool b)
  | int (i : Int) : Dq K H (.int i) (.int i)
  | str (x : Str) : Dq K H (.str x) (.str x)
  | lst {a : Addr} {xs : List V} {ds : List PyData} : SqL K H a xs → DqAll K H xs ds → Dq K H (.ref a) (.list ds)
  | tup {a : Addr} {xs : List V} {ds : List PyData} : SqT K H a xs → DqAll K H xs ds → Dq K H (.ref a) (.tuple ds)
  | dic {a : Addr} {kvs : List (Key × V)} {ds : List PyData} : H a = some (.dK kvs) → DqAll K H (kvs.map (·.2)) ds → Dq K H (.ref a) (.dict ((kvs.map fun q => keyD q.1).zip ds))
inductive DqAll (K : PySem.W.Frag) (H : Hp) : List V → List PyData → Prop
  | nil : DqAll K H [] []
  | cons {v : V} {vs : List V} {d : PyData} {ds : List PyData} : Dq K H v d → DqAll K H vs ds → DqAll K H (v :: vs) (d :: ds)
end
theorem DqAll.length {K : PySem.W.Frag} {H : Hp} : ∀ {vs : List V} {ds : List PyData}, DqAll K H vs ds → vs.length = ds.length
  | _, _, .nil => rfl
  | _, _, .cons _ t => congrArg (· + 1) t.length
mutual
theorem Dq.mono {K : PySem.W.Frag} {H H' : Hp} (e : Same H H') : ∀ {v : V} {d : PyData}, Dq K H v d → Dq K H' v d
  | _, _, .non => .non
  | _, _, .bl b => .bl b
  | _, _, .int i => .int i
  | _, _, .str x => .str x
  | _, _, .lst s t => .lst (e.seq s) (DqAll.mono e t)
  | _, _, .tup s t => .tup (by
      rcases s with (s | ⟨o, s⟩) | s
      · exact .inl (.inl (e _ _ s))
      · exact .inl (.inr ⟨o, e _ _ s⟩)
      · exact .inr s) (DqAll.mono e t)
  | _, _, .dic s t => .dic (e _ _ s) (DqAll.mono e t)
theorem DqAll.mono {K : PySem.W.Frag} {H H' : Hp} (e : Same H H') : ∀ {vs : List V} {ds : List PyData}, DqAll K H vs ds → DqAll K H' vs ds
  | _, _, .nil => .nil
  | _, _, .cons s t => .cons (Dq.mono e s) (DqAll.mono e t)
end
/-- the table of modules stands as a dict -/
def Sm (base : Heap) : Prop := ∃ mm, base.Ns sysModules mm
section
variable {X : Cx} {pins : List (Addr × Obj)} {σ : L2.St} {H : Hp} {s : Shared}
theorem sm_at (I : Inv X pins σ H s) (sm : Sm X.base) : ∃ o es ep, s.heap.get? sysModules = some o ∧ o.data = .dict es ep := by
  obtain ⟨mm, o, es, ep, e, d, _⟩ := sm
  obtain ⟨e1, n⟩ := I.ok.bs _ _ e
  have nx := I.ok.noex _ _ e
  by_cases hf : sysModules ∈ X.fs
  · obtain ⟨sl, z⟩ := I.base.slot _ _ e1 n hf nx
    exact ⟨_, es, ep, z, d⟩
  · exact ⟨o, es, ep, I.base.keep _ _ e1 n hf nx, d⟩
theorem not_sm (I : Inv X pins σ H s) (sm : Sm X.base) {a : Addr} {o : Obj} {its : Array Value} {n : Nat} (e : s.heap.get? a = some o) (d : o.data = .seq its n) : sysModules ≠ a := by
  intro z
  obtain ⟨o', es, ep, e', d'⟩ := sm_at I sm
  rw [z, e] at e'
  cases e'
  rw [d] at d'
  cases d'
theorem keys_read {h : Heap} {P : Program} {w : World} : ∀ {es : List DictEntry} {kvs : List (Key × Value)}, PySem.Pairs (mixKind P w) es kvs → ReadsAll h (es.map (·.key)) (kvs.map fun q => keyD q.1) []
  | _, _, .nil => ReadsAll.nil
  | _, _, .cons (e := e) (kv := kv) hk hv t => by
    have z := keys_read (h := h) t
    have hk2 : keyIs kv.1 e.key = true := hk
    obtain ⟨k, v⟩ := kv
    rcases keyIs_shape hk2 with ⟨i, t, e1, e2⟩ | ⟨x, t, e1, e2⟩
    · simp only at e1
      subst e1
      simp only [List.map_cons, keyD, e2]
      exact ReadsAll.cons (as := []) (bs := []) (Reads.int i t) z
    · simp only at e1
      subst e1
      simp only [List.map_cons, keyD, e2]
      exact ReadsAll.cons (as := []) (bs := []) (Reads.str x t) z
theorem vals_of {P : Program} {w : World} : ∀ {es : List DictEntry} {kvs : List (Key × Value)}, PySem.Pairs (mixKind P w) es kvs → es.map (·.val) = kvs.map (·.2)
  | _, _, .nil => rfl
  | _, _, .cons (e := e) (kv := kv) hk hv t => by simp only [List.map_cons, hv, vals_of t]
theorem kv_keys {κ : Type} : ∀ {xs : List (κ × V)} {us : List (κ × Value)}, KV xs us → xs.map (·.1) = us.map (·.1) ∧ Vals (xs.map (·.2)) (us.map (·.2))
  | _, _, .nil => ⟨rfl, .nil⟩
  | _, _, .cons r t => by
    obtain ⟨h1, h2⟩ := kv_keys t
    exact ⟨by simp only [List.map_cons, r.1, h1], .cons r.2 h2⟩
theorem unzip_keys : ∀ {ks ds : List PyData}, ks.length = ds.length → (ks.zip ds).map (·.1) = ks ∧ (ks.zip ds).map (·.2) = ds
  | [], [], _ => ⟨rfl, rfl⟩
  | k :: ks, d :: ds, h => by
    obtain ⟨h1, h2⟩ := unzip_keys (ks := ks) (ds := ds) (by simpa using h)
    exact ⟨by simp [h1], by simp [h2]⟩
  | [], _ :: _, h => by cases h
  | _ :: _, [], h => by cases h
mutual
theorem Dq.reads (I : Inv X pins σ H s) (sm : Sm X.base) : ∀ {v : V} {d : PyData} {u : Value}, Dq X.K H v d → RelV v u → ∃ as, Reads s.heap u d as ∧ sysModules ∉ as
  | _, _, _, .non, r => by
    cases r
    exact ⟨_, Reads.none, by simp⟩
  | _, _, _, .bl b, r => by
    cases r
    exact ⟨_, Reads.bool b, by simp⟩
  | _, _, _, .int i, r => by
    obtain ⟨t, rfl⟩ := r
    exact ⟨_, Reads.int i t, by simp⟩
  | _, _, _, .str x, r => by
    obtain ⟨t, rfl⟩ := r
    exact ⟨_, Reads.str x t, by simp⟩
  | _, _, _, .lst hs ha, r => by
    cases r
    obtain ⟨its, rv, ⟨o, n, ho, hc, _, hd⟩, _⟩ := I.list hs
    obtain ⟨as, hr, hn⟩ := DqAll.reads I sm ha rv
    refine ⟨_, Reads.list ho hc hd hr, fun z => ?_⟩
    rcases List.mem_cons.mp z with z | z
    · exact not_sm I sm ho hd z
    · exact hn z
  | _, _, _, .tup hs ha, r => by
    cases r
    obtain ⟨its, rv, ⟨o, ho, hc, n, hd⟩, _⟩ := I.tuple hs
    obtain ⟨as, hr, hn⟩ := DqAll.reads I sm ha rv
    exact ⟨_, Reads.tuple ho hc hd hr, hn⟩
  | _, _, _, .dic (a := a) (kvs := kvs) (ds := ds) hs ha, r => by
    cases r
    obtain ⟨_, ne, vs, kv, o, es, ep, ho, ex, hd, hk, hp, _⟩ := I.hok _ _ hs
    obtain ⟨k1, k2⟩ := kv_keys kv
    obtain ⟨as, hr, hn⟩ := DqAll.reads I sm ha k2
    have lk := DqAll.length ha
    obtain ⟨z1, z2⟩ := unzip_keys (ks := kvs.map fun q => keyD q.1) (ds := ds) (by rw [List.length_map]; rw [List.length_map] at lk; exact lk)
    have rk := keys_read (h := s.heap) hp
    have ek : (vs.map fun q => keyD q.1) = kvs.map fun q => keyD q.1 := by
      have := congrArg (List.map keyD) k1
      simp only [List.map_map] at this
      exact this.symm
    refine ⟨_, Reads.dict ho ex.1 hd (as := []) (bs := as) ?_ ?_, fun z => ?_⟩
    · rw [z1, ← ek]; exact rk
    · rw [z2, vals_of hp]; exact hr
    · have z : sysModules ∈ a :: as := z
      rcases List.mem_cons.mp z with z | z
      · rw [z] at ne
        simp at ne
      · exact hn z
theorem DqAll.reads (I : Inv X pins σ H s) (sm : Sm X.base) : ∀ {vs : List V} {ds : List PyData} {us : List Value}, DqAll X.K H vs ds → Vals vs us → ∃ as, ReadsAll s.heap us ds as ∧ sysModules ∉ as
  | _, _, _, .nil, r => by
    cases r
    exact ⟨_, ReadsAll.nil, by simp⟩
  | _, _, _, .cons h1 h2, .cons r1 r2 => by
    obtain ⟨as, q1, n1⟩ := Dq.reads I sm h1 r1
    obtain ⟨bs, q2, n2⟩ := DqAll.reads I sm h2 r2
    refine ⟨_, ReadsAll.cons q1 q2, fun z => ?_⟩
    rcases List.mem_append.mp z with z | z
    · exact n1 z
    · exact n2 z
end
/-- repr(x), x a list, a tuple or a dict of data -/
def rRepr (K : PySem.W.Frag) : List V → Hp → VK → Prop := fun xs H Q => ∃ (a : Addr) (d : PyData), xs = [.ref a] ∧ Dq K H (.ref a) d ∧ d.showable = true ∧ d.depth ≤ 60 ∧ d.shown.length ≤ sizeLine ∧ Q (.str d.shown) H
theorem call_repr (sm : Sm X.base) (gd : X.A.guards = some []) (hu : X.A.units + 64 < cLine) : CallR X (.builtin "repr") (rRepr X.K) := by
  intro pins s σ H xs us Q I r h
  obtain ⟨a, d, rfl, hd, hs, hp, hz, q⟩ := h
  obtain ⟨u, rfl, ru⟩ := vals1 r
  obtain ⟨as, rd, ns⟩ := Dq.reads I sm hd ru
  obtain rfl : u = Value.ref a := ru
  refine repr_of_reads' rd hs (fun _ => ns) gd (by omega) (fun _ _ e => e) (fun h' t tk k => ?_) hz
  exact ⟨.str _, H, I.kept k, ⟨_, rfl⟩, q⟩
end
end SM
set_option Elab.async false
set_option linter.all false
set_option maxRecDepth 100000
set_option maxHeartbeats 2000000
/-! A law's end where its def asks that no repr is under way. -/
namespace SM
open PySem PySem.Spec PyProof.Rows L2



/-- the script as the one tracked thing, locked -/
def onlyScript (a : Addr) (o : Obj) (xs : List V) : Hp := fun b => if b = a then some (.frz o (.lst xs)) else none
theorem onlyScript_at {a : Addr} {o : Obj} {xs : List V} : onlyScript a o xs a = some (.frz o (.lst xs)) := if_pos rfl
theorem onlyScript_off {a b : Addr} {o : Obj} {xs : List V} (h : b ≠ a) : onlyScript a o xs b = none := if_neg h

section
variable {P : Program} {w : World} {K : PySem.W.Frag} {mg mb : Str → Option Value} {CX : CXT} {k : Nat} {fa a : Addr} {fd : FuncData} {x : Str} {sp : Sp} {s1 : Shared} {vs : List Value} {ns : List Int}
/-- from one abstract heap in which at most the script is tracked -/
theorem endFrom {H : Hp} (KX : K.In s1.heap) (gl : s1.heap.Ns mainGlobals mg) (hb : s1.heap.Ns builtinsNs mb) (hbb : ∀ x : Str, x ≠ "__name__" → mb x = bootBuiltins x) (hlim : s1.heap.NoLimit) (hg : s1.gens = #[])
    (ha : s1.heap.get? a = some { cls := .type "list", data := .seq vs.toArray }) (hr : Room k callerA)
    (sm : ∃ mm, s1.heap.Ns sysModules mm) (F : ∀ base : Heap, K.In base → base.Ns mainGlobals mg → Sm base → FnG P w K mg base CX k fa fd [x] sp) (hbind : ∀ (s : Shared) (u : Value), BindsTo s fd ⟨[u], []⟩ [(x, u)])
    (hCX : ∀ H e s', CX [] H s1 (fun _ _ _ => False) e s' → False)
    (off : ∀ b, b ≠ a → H b = none) (on : ∀ u, H a = some u → K.lookup a = none ∧ ∃ o xs, u = .frz o (.lst xs)) (hok : HOk P w H s1.heap)
    (want : sp [.ref a] H (fun v _ => v = .bl true) fun _ _ _ => False) :
    codeAny (model P w) callerA (.call (.ref fa) ⟨[.ref a], []⟩) (fun r s' => r = .ok (.ret (.bool true)) ∧ OldK s1.heap s'.heap ∧ s'.os = s1.os ∧ AllBare s'.gens) s1 := by
  -- what is no list stands outside of H
  have dictOff : ∀ {b : Addr} {o : Obj} {es : Array DictEntry} {ep : Nat}, s1.heap.get? b = some o → o.data = .dict es ep → H b = none := by
    intro b o es ep e d
    by_cases hba : b = a
    · rw [hba, ha] at e
      cases e
      cases (show Data.seq vs.toArray _ = Data.dict es ep from d)
    · exact off b hba
  have back : ∀ {b : Addr} {m : Str → Option Value}, s1.heap.Ns b m → (hidT s1.heap H).Ns b m := by
    rintro b m ⟨o, es, ep, e, d, r⟩
    exact ⟨o, es, ep, hidT_get e (dictOff e d), d, r⟩
  have kin : K.In (hidT s1.heap H) := by
    intro b o e
    refine hidT_get (KX b o e) ?_
    by_cases hba : b = a
    · cases q : H b with
      | none => rfl
      | some u =>
        rw [hba] at q e
        rw [(on u q).1] at e
        cases e
    · exact off b hba
  have M : Mod K mg (hidT s1.heap H) := by
    refine ⟨kin, back gl, ⟨mb, back hb, hbb⟩, ?_⟩
    obtain ⟨mc, h1, h2⟩ := hlim
    exact ⟨mc, back h1, h2⟩
  have e0 : Env0 P w K mg (hidT s1.heap H) callerA [] s1 H :=
    { frames := rfl, mod := M, bs := fun b o e => of_hidT e, bsz := Nat.le_of_eq (hidT_size _ _), funs := trivial,
      frf := fun b z => absurd (show b ∈ ([] : List Addr) from z) (by simp), hok := hok, bare := .of_eq hg }
  apply codeAny_mono ((F _ kin (back gl) (by obtain ⟨mm, z⟩ := sm; exact ⟨mm, back z⟩)).go callerA [] s1 H ⟨[.ref a], []⟩ [.ref a] [.ref a] _ _ rfl hr e0 (hbind s1 (.ref a)) (.cons rfl .nil) want)
  intro r s' z
  cases r with
  | error e => exact (hCX H e s' z).elim
  | ok fl =>
    cases fl with
    | next => exact z.elim
    | brk => exact z.elim
    | cont => exact z.elim
    | ret u =>
      obtain ⟨v, H', os, bare, un, hok', rv, q⟩ := z
      have q2 : v = .bl true := q
      subst q2
      obtain rfl : u = Value.bool true := rv
      refine ⟨rfl, OldK.of_keep (fun b o e => ?_), os, bare⟩
      have emptyN : ∀ c : Addr, c ∉ ([] : List Addr) := fun c => by simp
      by_cases hba : b = a
      · cases q3 : H b with
        | none => exact un.keep b o e q3 (emptyN b) (emptyN b)
        | some u =>
          have q4 := q3
          rw [hba] at q4
          obtain ⟨_, ob, xs, eu⟩ := on u q4
          subst eu
          obtain ⟨e1, _⟩ := hok b _ q3
          obtain ⟨e2, _⟩ := hok' b _ (un.frzs b ob _ q3)
          exact (e1.symm.trans e ▸ e2)
      · exact un.keep b o e (off b hba) (emptyN b) (emptyN b)
theorem endCall (KX : K.In s1.heap) (gl : s1.heap.Ns mainGlobals mg) (hb : s1.heap.Ns builtinsNs mb) (hbb : ∀ x : Str, x ≠ "__name__" → mb x = bootBuiltins x) (hlim : s1.heap.NoLimit) (hg : s1.gens = #[])
    (ha : s1.heap.get? a = some { cls := .type "list", data := .seq vs.toArray }) (hi : IntsAre vs ns) (hl : ns.length ≤ sizeLine) (hr : Room k callerA)
    (sm : ∃ mm, s1.heap.Ns sysModules mm) (F : ∀ base : Heap, K.In base → base.Ns mainGlobals mg → Sm base → FnG P w K mg base CX k fa fd [x] sp) (hbind : ∀ (s : Shared) (u : Value), BindsTo s fd ⟨[u], []⟩ [(x, u)])
    (hsp : ∀ H : Hp, Only H → SqL K H a (ns.map V.int) → sp [.ref a] H (fun v _ => v = .bl true) fun _ _ _ => False)
    (hCX : ∀ H e s', CX [] H s1 (fun _ _ _ => False) e s' → False) :
    codeAny (model P w) callerA (.call (.ref fa) ⟨[.ref a], []⟩) (fun r s' => r = .ok (.ret (.bool true)) ∧ OldK s1.heap s'.heap ∧ s'.os = s1.os ∧ AllBare s'.gens) s1 := by
  have rv := vals_ints hi
  have lv := hi.length
  cases hk : K.lookup a with
  | some o =>
    have e := KX a o hk
    rw [ha] at e
    cases e
    refine endFrom (H := fun _ => none) KX gl hb hbb hlim hg ha hr sm F hbind hCX (fun _ _ => rfl) (fun u z => by cases z) (fun b u z => by cases z) (hsp _ (fun _ => Or.inl rfl) (Or.inr ?_))
    exact ⟨_, vs.toArray, _, hk, rfl, rfl, rfl, by rw [List.size_toArray, lv]; exact hl, by simpa using rv⟩
  | none =>
    refine endFrom (H := onlyScript a { cls := .type "list", data := .seq vs.toArray } (ns.map V.int)) KX gl hb hbb hlim hg ha hr sm F hbind hCX (fun b h => onlyScript_off h) (fun u z => ?_) (fun b u z => ?_) (hsp _ (fun b => ?_) ?_)
    · rw [onlyScript_at] at z
      cases z
      exact ⟨hk, _, _, rfl⟩
    · by_cases hba : b = a
      · subst hba
        rw [onlyScript_at] at z
        cases z
        exact ⟨ha, by rw [List.length_map]; exact hl, vs, _, rv, ha⟩
      · rw [onlyScript_off hba] at z
        cases z
    · by_cases hba : b = a
      · subst hba
        exact Or.inr ⟨_, _, onlyScript_at⟩
      · exact Or.inl (onlyScript_off hba)
    · exact Or.inl (Or.inr ⟨_, onlyScript_at⟩)
end
/-- the law's walk, the script's bits told, the written part told by a Hook's word Y -/
theorem walkG {l : PySem.W.OpenLaw} {n k : Nat} {q : Program} {loose : List Str} {XP : (Str → Option Value) → Heap → Prop} {YP : World → Heap → Prop} {d : DefRec} {CX : CXT} {x : Str}
    (hn : l.most = some n) (hn2 : n ≤ sizeLine) (hdf : d.params.defaults = []) (hr : Room k callerA) (him : importsNone q = true)
    (F : ∀ (w : World) (mg : Str → Option Value) (fa : Addr) (h : Heap), YP w h → h.Ns mainGlobals mg → mg d.name = some (.ref fa) →
      ∃ (K : PySem.W.Frag) (fd : FuncData) (sp : Sp), K.In h ∧ (∀ (s : Shared) (u : Value), BindsTo s fd ⟨[u], []⟩ [(x, u)]) ∧
        (∀ (H : Hp) (a : Addr) (ns : List Int), ns.length ≤ n → (∀ z ∈ ns, Builtin.Int.intBits z ≤ 1048576) → Only H → SqL K H a (ns.map V.int) → sp [.ref a] H (fun v _ => v = .bl true) fun _ _ _ => False) ∧
        ∀ base : Heap, K.In base → base.Ns mainGlobals mg → Sm base → FnG l.prog w K mg base CX k fa fd [x] sp)
    (hCX : ∀ (H : Hp) (s : Shared) (e : Value) (s' : Shared), CX [] H s (fun _ _ _ => False) e s' → False) :
    PySem.W.WalkO q loose XP YP l.row.toRowW d [] (fun f vs => PySem.call f vs) := by
  apply Att.attach_callB hn hdf
  intro w s0 s1 mg mb fa o pm cd doc a vs ns G Y ho hd hcd hmg hobj hints many bits hg
  obtain ⟨K, fd, sp, kin, hb, hsp, hF⟩ := F w mg fa _ Y G.T.g hmg
  exact endCall kin G.T.g G.T.b G.T.builtins G.T.nolimit hg hobj hints (Nat.le_trans many hn2) hr (by obtain ⟨mm, z, _⟩ := (G.T.seer him).mods; exact ⟨mm, z⟩) hF hb (fun H ho hs => hsp H a ns many bits ho hs) (fun H e s' => hCX H s1 e s')
end SM
set_option Elab.async false
set_option linter.all false
set_option maxRecDepth 100000
set_option maxHeartbeats 2000000
/-! The head's facts, one more Bool of one's own beside. -/
namespace SM
open PySem PySem.Spec PyProof.Rows L2
abbrev AlS : Type := He.AlD × Bool
def obsS (n : Nat) (fa : List He.Fa) (fn : List He.DefD) (ex : PySem.W.Frag → Bool) (g : Addr → Option Obj) : AlS := (He.obsDG n fa fn g, ex (He.frG g (He.asD g n)))
def hookS (n : Nat) (fa : List He.Fa) (fn : List He.DefD) (ex : PySem.W.Frag → Bool) : PySem.W.Hook where
  α := AlS
  obs := fun s => obsS n fa fn ex s.heap.get?
  val := fun _ => (He.valD fn, true)
  says := fun _ h => ∃ K : PySem.W.Frag, K.In h ∧ He.SaysD fa fn K ∧ ex K = true
  of := fun _ _ e => ⟨_, He.frG_in, congrArg (fun z : AlS => z.1) e, congrArg (fun z : AlS => z.2) e⟩
  keeps := fun _ _ _ ⟨K, hK, c⟩ k => ⟨K, PySem.W.Frag.In.keeps hK k, c⟩
theorem obsS_eq {n : Nat} {fa : List He.Fa} {fn : List He.DefD} {ex : PySem.W.Frag → Bool} {g : Addr → Option Obj} {s : Shared} (h : ∀ a, g a = s.heap.get? a) : obsS n fa fn ex g = (hookS n fa fn ex).obs s := by
  have e : g = s.heap.get? := funext h
  rw [e] <;> rfl
end SM
set_option Elab.async false
set_option linter.all false
set_option maxRecDepth 100000
set_option maxHeartbeats 4000000
/-! An own exception class over ValueError, called with one keyword. -/
namespace SM
open PySem PySem.Spec PyProof.Rows L2 PySem.HandSPX
section
variable {M : Model} {A : Around} {E : Value → Shared → Prop} {h : Heap} {g : Array GenState} {d : Drawn} {t : Nat} {os : OsState}
variable {nm q : Str} {C N : Addr} {bs bm : List Value} {hdct : Bool} {sn : List Str} {sub : List Value} {ab : Bool} {col : Option Bool} {dd : Option Addr} {k0 k1 k2 k3 k5 : Option Value}
theorem kw_check (hT : refsVE bm = true) {f : Str} {v : Value} {Q : Unit → Shared → Prop}
    (hC : h.get? C = some (excClassObj nm q C N bs bm hdct sn sub ab col dd k0 k1 k2 k3 k5 "ValueError.__new__")) (want : Q () ⟨h, g, d, t, os⟩) :
    wpAny M A (checkBuiltinCall "ValueError.__new__" ⟨[.ref C], [(f, v)]⟩) Q E ⟨h, g, d, t, os⟩ := by
  have F := PySem.F.excBase_ValueError
  have holds : (Value.ref C :: bm).contains (.type "ValueError") = true := by
    rw [List.contains_cons, refsVE_contains "ValueError" bm hT, F.hasB, Bool.or_true]
  simp only [checkBuiltinCall, F.newKind, F.newSplit, F.newRow]
  repeat (first
    | refine wpAny_loadPart_at hC ?_
    | (refine wpAny_isSubtype_exc hC ?_; rw [holds])
    | refine wpAny_staticBase_exc hC ?_
    | refine wpAny_madeBy_exc hC ?_
    | wp_step
    | simp only [bne_self_eq_false, Bool.false_eq_true, if_false])
  exact want
end
section
variable {prog : Program} {w : World} {A : Around} {E : Value → Shared → Prop} {R : Result → Shared → Prop} {h : Heap} {g : Array GenState} {d : Drawn} {t : Nat} {os : OsState}
variable {nm q : Str} {C N : Addr} {bs bm : List Value} {hdct : Bool} {sn : List Str} {sub : List Value} {ab : Bool} {col : Option Bool} {dd : Option Addr} {k0 k1 k2 k3 k5 : Option Value} {f : Str} {v : Value}
/-- the heap with the fresh exception and its empty args -/
abbrev kwHeap (h : Heap) (C : Addr) : Heap := (h.push (PySem.W.kdv_tup [])).push (excO C h.objs.size)
theorem kw_new (hT : refsVE bm = true) (hC : h.get? C = some (excClassObj nm q C N bs bm hdct sn sub ab col dd k0 k1 k2 k3 k5 "ValueError.__new__"))
    (want : R (.ok (.ret (.ref (h.objs.size + 1)))) ⟨kwHeap h C, g, d, t, os⟩) :
    codeAny (model prog w) A (.builtin "ValueError.__new__" ⟨[.ref C], [(f, v)]⟩) R ⟨h, g, d, t, os⟩ := by
  have F := PySem.F.excBase_ValueError
  have e1 := F.ends
  have has : ∀ X : String, (Value.ref C :: bm).contains (.type X) = ([Value.type "ValueError", .type "Exception", .type "BaseException", .type "object"] : List Value).contains (.type X) := by
    intro X
    rw [List.contains_cons, refsVE_contains X bm hT]
    simp
  have c1 : (Value.ref C :: bm).contains (.type "ValueError") = true := (has _).trans F.hasB
  have c2 : (Value.ref C :: bm).contains (.type "AttributeError") = false := (has _).trans F.noAttr
  have c3 : (Value.ref C :: bm).contains (.type "NameError") = false := (has _).trans F.noName
  apply codeAny_builtinAt F.entry
  unfold Builtin.«BaseException.__new__»
  apply PySem.wpAt_bind
  show PySem.wpAt _ _ _ (stack >>= _) _ _ _
  refine PySem.wpAt_bind (PySem.wpAt_stack fun p below => ?_)
  refine PySem.wpAt_of_wpAny ?_
  wp_walk
  apply PySem.wpAt_of_wpAny
  rw [F.owner]
  repeat (first
    | with_reducible refine wpAny_loadPart_at hC ?_
    | with_reducible refine wpAny_madeHere_exc F.canon hC ?_
    | (with_reducible refine wpAny_isSubtype_exc hC ?_; first | rw [c1] | rw [c2] | rw [c3])
    | wp_step)
  show R _ _
  rw [Heap.size_push]
  exact want
theorem kw_type (hT : refsVE bm = true) {fI : Addr} {Q : Fin → Shared → Prop} (hC : h.get? C = some (excClassObj nm q C N bs bm hdct sn sub ab col dd k0 k1 k2 k3 k5 "ValueError.__new__"))
    (hi : PySem.W.Looks (model prog w) h (typeLookup (.ref C) "__init__") (some (.ref fI))) (hb : ∀ self, PySem.W.Looks (model prog w) h (bindSpecial (.ref fI) self) (.ref fI, [self]))
    (run : codeAny (model prog w) A (.call (.ref fI) ⟨[.ref (h.objs.size + 1)], [(f, v)]⟩)
      (fun r s' => match r with | .ok (.ret v) => v = .none ∧ Q (.done (.ret (.ref (h.objs.size + 1)))) s' | .ok _ => False | .error e => E e s') ⟨kwHeap h C, g, d, t, os⟩) :
    wpAny (model prog w) A (Builtin.«type.__call__» ⟨[.ref C], [(f, v)]⟩) Q E ⟨h, g, d, t, os⟩ := by
  have F := PySem.F.excBase_ValueError
  repeat (first
    | with_reducible refine wpAny_madeBy_exc hC ?_
    | with_reducible refine wpAny_loadPart_at hC ?_
    | wp_step)
  apply codeAny_call_builtin_code (Code.quiet_builtin _ F.quiet)
  apply kw_check hT hC
  apply kw_new hT hC
  show wpAny _ _ _ _ _ _
  have old : ∀ b o, h.get? b = some o → (kwHeap h C).get? b = some o := fun b o z => Heap.get?_push_of_some _ (Heap.get?_push_of_some _ z)
  have hC1 := old _ _ hC
  have made : (kwHeap h C).get? (h.objs.size + 1) = some (excO C h.objs.size) := by heap_get
  have own : (Value.ref C :: bm).contains (.ref C) = true := by simp
  have i1 := hi.keeps old
  have b1 := (hb (.ref (h.objs.size + 1))).keeps old
  unfold isInstance
  repeat (first
    | with_reducible refine wpAny_loadPart_at made ?_
    | (with_reducible refine wpAny_isSubtype_exc hC1 ?_; rw [own])
    | wp_step)
  show wpAny _ _ (typeLookup (.ref C) _) _ _ _
  apply i1.at
  apply wpAny_holding
  apply wpAny_bind
  apply b1.at
  apply wpAny_bind
  apply wpAny_call
  apply codeAny_mono run
  intro r s' z
  rcases r with e | (u | _ | _ | _)
  all_goals first
    | exact z.elim
    | exact z
    | (obtain ⟨rfl, z⟩ := z
       first
         | exact wpAny_pure (wpAny_pure z)
         | (wp_walk; exact z))
theorem kw_call (hT : refsVE bm = true) {fI : Addr} (hC : h.get? C = some (excClassObj nm q C N bs bm hdct sn sub ab col dd k0 k1 k2 k3 k5 "ValueError.__new__"))
    (hi : PySem.W.Looks (model prog w) h (typeLookup (.ref C) "__init__") (some (.ref fI))) (hb : ∀ self, PySem.W.Looks (model prog w) h (bindSpecial (.ref fI) self) (.ref fI, [self]))
    (run : codeAny (model prog w) (A.under (.builtin "type.__call__" ⟨[.ref C], [(f, v)]⟩)) (.call (.ref fI) ⟨[.ref (h.objs.size + 1)], [(f, v)]⟩) (PySem.W.InitBack (h.objs.size + 1) R) ⟨kwHeap h C, g, d, t, os⟩) :
    codeAny (model prog w) A (.call (.ref C) ⟨[], [(f, v)]⟩) R ⟨h, g, d, t, os⟩ := by
  have a1 := tc_lookup
  have a2 := tc_bind (.ref C)
  have ty : (⟨h, g, d, t, os⟩ : Shared).TypeIs (.ref C) "type" := ⟨_, hC, rfl⟩
  apply codeAny_of_tree
  show wpAny _ _ (callAny (.ref C) _) _ _ _
  repeat (any_goals (first
    | with_reducible refine wpAny_loadPart_at hC ?_
    | wp_step
    | assumption))
  refine ⟨rfl, ?_⟩
  apply codeAny_call_builtin_at (Code.quiet_builtin _ (by decide +kernel)) entry_typeCall
  apply wpAny_check_type_call_sub hC
  apply kw_type hT hC hi hb
  apply codeAny_mono run
  intro r s' z
  rcases r with e | (u | _ | _ | _) <;> exact z
end
end SM
set_option Elab.async false
set_option linter.all false
set_option maxRecDepth 100000
set_option maxHeartbeats 4000000
/-! Own errors held as values: made by place and by name, their field read, isinstance of them; a power of a great int. -/
namespace SM
open PySem PySem.Spec PyProof.Rows L2 PySem.HandSPX

/-- what the written part says of an own error class at C, its __init__ at fI -/
structure ErrC (K : PySem.W.Frag) (C fI : Addr) : Prop where
  ox : OexC K C
  iC : PySem.W.findIn K (.ref C) "__init__" = some (some (.ref fI))
  tI : PySem.W.typeIn K (.ref fI) = some (.type "function")
  is : ExcC K C
/-- the def __init__ of an error class that stores its one argument as f -/
def spErr (K : PySem.W.Frag) (f : Str) : Sp := fun vs H Q _ => ∃ (a C : Addr) (v : V), vs = [.ref a, v] ∧ OexC K C ∧ PySem.W.findIn K (.ref C) f = some none ∧ H a = some (exo a C none) ∧
  ∀ dx, H dx = none → dx ≠ a → Q .non (upd (upd H dx (exd dx [(f, v)])) a (exo a C (some dx)))
/-- C(e): a new error, its field told -/
def tErr (C : Addr) (f : Str) (te : TE) : TE := fun σ H Q => te σ H fun v H1 => ∀ a dx, H1 a = none → H1 dx = none → dx ≠ a → Q (.ref a) (upd (upd H1 dx (exd dx [(f, v)])) a (exo a C (some dx)))
theorem upd_over {H : Hp} {a b : Addr} {o o' u : HO} (h : b ≠ a) : upd (upd (upd H a o) b u) a o' = upd (upd H b u) a o' := by
  funext c
  by_cases hc : c = a
  · rw [hc, upd_same, upd_same]
  · rw [upd_ne hc, upd_ne hc]
    by_cases hb : c = b
    · rw [hb, upd_same, upd_same]
    · rw [upd_ne hb, upd_ne hb, upd_ne hc]
section
variable {X : Cx} {CX : CXT} {x f : Str} {C fI : Addr} {k : Nat} {fd : FuncData} {ps : List Str} {e : Expr} {te : TE} {p pos kpos : Pos}
theorem run_err {pins : List (Addr × Obj)} {σ : L2.St} {H : Hp} {s : Shared} {Q : VK} {v : V} {u : Value} {ar : Args} {kw : List (Str × Value)} {us : List Value} (T : ErrC X.K C fI) (hf : PySem.W.findIn X.K (.ref C) f = some none) (F : FnOk X.prog X.w X.K X.mg X.base CX k fI fd ps (spErr X.K f))
    (hr : Room (k + 1) X.A) (hx : Passes CX X (fun _ _ _ => False)) (I : Inv X pins σ H s) (rv : RelV v u) (ha : ar = ⟨us, kw⟩)
    (bt : ∀ (s' : Shared), X.K.In s'.heap → BindsTo s' fd ⟨.ref (s.heap.objs.size + 1) :: us, kw⟩ (ps.zip [.ref (s.heap.objs.size + 1), u])) (old : List Value) (hold : old.length ≤ sizeLine)
    (make : ∀ {R : Result → Shared → Prop}, codeAny (model X.prog X.w) (X.A.under (.builtin "type.__call__" ⟨.ref C :: us, kw⟩)) (.call (.ref fI) ⟨.ref (s.heap.objs.size + 1) :: us, kw⟩) (PySem.W.InitBack (s.heap.objs.size + 1) R)
      { s with heap := (s.heap.push (PySem.W.kdv_tup old)).push (excO C s.heap.objs.size) } → codeAny (model X.prog X.w) X.A (.call (.ref C) ar) R s)
    (want : ∀ a dx, H a = none → H dx = none → dx ≠ a → Q (.ref a) (upd (upd H dx (exd dx [(f, v)])) a (exo a C (some dx)))) :
    wpAny (model X.prog X.w) X.A (call (.ref C) us kw) (EP X pins σ Q) X.xe s := by
  subst ha
  have fresh : H (s.heap.objs.size + 1) = none := I.hok.fresh (Nat.le_succ _)
  have keep : ∀ b o, s.heap.get? b = some o → ((s.heap.push (PySem.W.kdv_tup old)).push (excO C s.heap.objs.size)).get? b = some o := fun b o z => Heap.get?_push_of_some _ (Heap.get?_push_of_some _ z)
  have there : ((s.heap.push (PySem.W.kdv_tup old)).push (excO C s.heap.objs.size)).get? (s.heap.objs.size + 1) = some (excO C s.heap.objs.size) := by heap_get
  have I2 : Inv X pins σ (upd H (s.heap.objs.size + 1) (exo (s.heap.objs.size + 1) C none)) { s with heap := (s.heap.push (PySem.W.kdv_tup old)).push (excO C s.heap.objs.size), toks := s.toks } :=
    I.laid (t' := s.toks) (a := s.heap.objs.size + 1) (o := exo (s.heap.objs.size + 1) C none) keep (Nat.le_succ _) (exo_ok there)
  apply wpAny_call
  apply make
  have rr : Vals [V.ref (s.heap.objs.size + 1), v] [Value.ref (s.heap.objs.size + 1), u] := .cons rfl (.cons rv .nil)
  have q : spErr X.K f [V.ref (s.heap.objs.size + 1), v] (upd H (s.heap.objs.size + 1) (exo (s.heap.objs.size + 1) C none)) (fun z H2 => z = .non ∧ Q (.ref (s.heap.objs.size + 1)) H2) (fun _ _ _ => False) := by
    refine ⟨_, C, v, rfl, T.ox, hf, upd_same, fun dx n ne => ⟨rfl, ?_⟩⟩
    rw [upd_over ne]
    rw [upd_ne ne] at n
    exact want _ _ fresh n ne
  apply codeAny_mono (F.run _ X.stack _ _ ⟨.ref (s.heap.objs.size + 1) :: us, kw⟩ [.ref (s.heap.objs.size + 1), u] _ _ (fun _ _ _ => False) (hr.make C us kw) (I2.env0.make C us kw) (bt _ I2.kIn) rr q)
  intro r s' z
  cases r with
  | error er => exact hx pins σ _ _ er s' I2 z
  | ok fl =>
    cases fl with
    | next => exact z.elim
    | brk => exact z.elim
    | cont => exact z.elim
    | ret w =>
      obtain ⟨y, H', I3, ry, ey, q3⟩ := I2.after z
      subst ey
      exact ⟨ry, ⟨V.ref (s.heap.objs.size + 1), H', I3, rfl, q3⟩⟩
theorem pe_err (T : ErrC X.K C fI) (hf : PySem.W.findIn X.K (.ref C) f = some none) (F : FnOk X.prog X.w X.K X.mg X.base CX k fI fd ["self", f] (spErr X.K f)) (hr : Room (k + 1) X.A) (hb : Binds X.K fd ["self", f] []) (hx : Passes CX X (fun _ _ _ => False))
    (hm : X.mg x = some (.ref C)) (hg : Gl X x) (he : PE X e te) (hdb : (x == ("__debug__" : Str)) = false := by decide) (hs : starEach [e] X.env = (false, eval e X.env) :: starEach [] X.env := by rfl) (hpl : (backTo pos (starEach [] X.env)).any (·.1) = false := by rfl) :
    PE X (.Call (.Name x p) [e] [] pos) (tErr C f te) := by
  constructor
  intro pins s σ H Q I h
  obtain ⟨nm, q, N, bs, bm, sn, sub, ab, col, dd, k0, k1, k2, k3, k5, hC, hbm⟩ := T.ox.cls
  apply wpAny_Call_Name_kw
  apply ld_glob I hg hm _ hdb
  let W : List V → Hp → Prop := fun vs H1 => match vs with
    | [v] => ∀ a dx, H1 a = none → H1 dx = none → dx ≠ a → Q (.ref a) (upd (upd H1 dx (exd dx [(f, v)])) a (exo a C (some dx)))
    | _ => False
  refine PySem.W.callWith_K (h₀ := X.base) I.ok.mod.kin T.ox.kC (thn ((pa_cons he pa_nil hs).run pos pins s σ H W I h) fun us s1 z => ?_) hs hpl
  obtain ⟨vs, H1, I1, r, want⟩ := z
  match vs, r, want with
  | [v], .cons (b := u) ru .nil, want =>
    refine ⟨I1.kIn, run_err (us := [u]) (kw := []) (ps := ["self", f]) (old := [u]) T hf F hr hx I1 ru rfl (fun s' kin => hb s' [.ref (s1.heap.objs.size + 1), u] kin rfl) (by show 1 ≤ sizeLine; rw [sizeLine_eq]; omega) (fun run => ?_) want⟩
    obtain ⟨hp, g, d, t, os⟩ := s1
    exact call_own PySem.F.excBase_ValueError (fun Y => refsVE_contains Y bm hbm) (I1.kIn _ _ hC) (PySem.W.looks_findIn I1.kIn T.iC) (fun self => PySem.W.bind_fn I1.kIn self T.tI) (by show 1 ≤ sizeLine; rw [sizeLine_eq]; omega) run
/-- C(f=e) -/
theorem pe_errK (T : ErrC X.K C fI) (hf : PySem.W.findIn X.K (.ref C) f = some none) (F : FnOk X.prog X.w X.K X.mg X.base CX k fI fd ["self", f] (spErr X.K f)) (hr : Room (k + 1) X.A)
    (hb : ∀ (s : Shared) (self u : Value), BindsTo s fd ⟨[self], [(f, u)]⟩ [("self", self), (f, u)]) (hx : Passes CX X (fun _ _ _ => False))
    (hm : X.mg x = some (.ref C)) (hg : Gl X x) (he : PE X e te) (hdb : (x == ("__debug__" : Str)) = false := by decide) (hall : (backToKw pos (keywordEach [⟨some f, e, kpos⟩] X.env)).all (·.1.isSome) = true := by rfl)
    (hks : (backToKw pos (keywordEach [⟨some f, e, kpos⟩] X.env)).filterMap (·.1) = [f] := by rfl) (hpl : ((backTo pos (starEach [] X.env)).any (·.1) || (backToKw pos (keywordEach [⟨some f, e, kpos⟩] X.env)).any (·.1.isNone)) = false := by rfl) :
    PE X (.Call (.Name x p) [] [⟨some f, e, kpos⟩] pos) (tErr C f te) := by
  constructor
  intro pins s σ H Q I h
  obtain ⟨nm, q, N, bs, bm, sn, sub, ab, col, dd, k0, k1, k2, k3, k5, hC, hbm⟩ := T.ox.cls
  apply wpAny_Call_Name_kw
  apply ld_glob I hg hm _ hdb
  let W : List V → Hp → Prop := fun vs H1 => match vs with
    | [v] => ∀ a dx, H1 a = none → H1 dx = none → dx ≠ a → Q (.ref a) (upd (upd H1 dx (exd dx [(f, v)])) a (exo a C (some dx)))
    | _ => False
  refine PySem.W.callWith_KW0 (h₀ := X.base) I.ok.mod.kin T.ox.kC hall (thn ((pk_cons he pk_nil).run pos pins s σ H W I h) fun us s1 z => ?_) hpl
  obtain ⟨vs, H1, I1, r, want⟩ := z
  rw [hks]
  match vs, r, want with
  | [v], .cons (b := u) ru .nil, want =>
    refine ⟨I1.kIn, run_err (us := []) (kw := [(f, u)]) (ps := ["self", f]) (old := []) T hf F hr hx I1 ru rfl (fun s' kin => hb s' _ u) (Nat.zero_le _) (fun run => ?_) want⟩
    obtain ⟨hp, g, d, t, os⟩ := s1
    exact kw_call hbm (I1.kIn _ _ hC) (PySem.W.looks_findIn I1.kIn T.iC) (fun self => PySem.W.bind_fn I1.kIn self T.tI) run

/-- e.f, e an error that is held -/
def tErrF (K : PySem.W.Frag) (f : Str) (te : TE) : TE := fun σ H Q => te σ H fun z H1 => ∃ (a C dx : Addr) (fs : List (Str × V)) (v : V), z = .ref a ∧ H1 a = some (exo a C (some dx)) ∧ H1 dx = some (exd dx fs) ∧ ExcC K C ∧ PySem.W.findIn K (.ref C) f = some none ∧ fs.lookup f = some v ∧ Q v H1
theorem inst_err {pins : List (Addr × Obj)} {σ : L2.St} {H : Hp} {s : Shared} {a dx : Addr} {fs : List (Str × V)} (I : Inv X pins σ H s) (ea : H a = some (exo a C (some dx))) (ed : H dx = some (exd dx fs)) :
    ∃ (ox : Obj) (od : Obj) (mA : Str → Option Value), PySem.W.InstAt s.heap a ox C (some od) ∧ (∀ g, PySem.W.lookIn g od = some (mA g)) ∧ ∀ g, RelO (fs.lookup g) (mA g) := by
  obtain ⟨t1, ho⟩ := exo_at I.hok ea
  obtain ⟨mA, hns, rel⟩ := exd_at I.hok ed
  obtain ⟨od, hod, hl⟩ := lookIn_ns hns
  exact ⟨_, od, mA, ⟨ho, rfl, rfl, hod⟩, hl, rel⟩
theorem pe_errF (he : PE X e te) (hb : attributeBase e f X.env (eval e X.env) = eval e X.env := by rfl) : PE X (.Attribute e f pos) (tErrF X.K f te) := by
  constructor
  intro pins s σ H Q I h
  refine attr_of hb (thn (he.run pins s σ H _ I h) fun u s1 z => ?_)
  obtain ⟨y, H1, I1, ry, a, C, dx, fs, v, ey, ea, ed, T, hno, l, q⟩ := z
  subst ey
  obtain rfl : u = Value.ref a := ry
  obtain ⟨ox, od, mA, J, hl, rel⟩ := inst_err I1 ea ed
  obtain ⟨w, hw, rw'⟩ := RelO.some_of (v := v) (o := mA f) (by rw [← l]; exact rel f)
  exact exc_get I1.kIn J T.hg T.hk T.hs (PySem.W.findObj_own T.hd hno rfl (by rw [hl, hw])) (handed_of rw') ⟨v, H1, I1.tok _, rw', q⟩
/-- isinstance(e, c), e an error that is held -/
def rErrI (K : PySem.W.Frag) : List V → Hp → VK → Prop := fun xs H Q => ∃ (a C dx : Addr) (fs : List (Str × V)) (c : V) (cv : Value) (b : Bool), xs = [.ref a, c] ∧ H a = some (exo a C (some dx)) ∧ H dx = some (exd dx fs) ∧ ExcC K C ∧ (∀ u, RelV c u → u = cv) ∧ PySem.W.kitOne K (.ref C) cv = some b ∧ Q (.bl b) H
theorem call_errI : CallR X (.builtin "isinstance") (rErrI X.K) := by
  intro pins s σ H xs us Q I r h
  obtain ⟨a, C, dx, fs, c, cv, b, rfl, ea, ed, T, hcv, hk, q⟩ := h
  match us, r with
  | [_, uc], .cons ra (.cons rc .nil) =>
    obtain rfl := ra
    have ec := hcv _ rc
    subst ec
    obtain ⟨ox, od, mA, J, hl, rel⟩ := inst_err I ea ed
    have cl : (PySem.W.clsIn X.K C).isSome = true := by
      obtain ⟨cd, hc, _⟩ := PySem.W.any_some T.hd
      rw [hc]
      rfl
    exact PySem.W.kia_one (PySem.W.kitx_exc cl T.hg T.hk T.hs T.ha T.hn T.ht T.hm) I.kIn J hk (fun z => nomatch z) fun tk => ⟨.bl b, H, I.tok tk, rfl, q⟩
end
/-- a power of a great int -/
theorem op_powW {X : Cx} : OpR X (binaryOp .Pow) (rI (fun i j => 0 ≤ j ∧ j ≤ 60 ∧ Builtin.Int.intBits i ≤ 2000000) fun i j => .int (i ^ j.toNat)) :=
  opI fun i j _ _ _ _ _ hc q => pow_int hc.1 (by
    obtain ⟨h0, h1, h2⟩ := hc
    have h3 : ((Builtin.Int.intBits i : Nat) : Int) * j ≤ 2000000 * 60 := Int.mul_le_mul (by omega) h1 h0 (by decide)
    exact Int.le_trans h3 (by decide)) q
end SM
set_option Elab.async false
set_option linter.all false
set_option maxRecDepth 100000
set_option maxHeartbeats 2000000
/-! Names of the top by their places in two lists; a def's promise as one thing; operators for whatever kinds meet. -/
namespace SM
open PySem PySem.Spec PyProof.Rows L2

structure Cw (fas : List He.Fa) (fns : List He.DefD) (K : PySem.W.Frag) (mg : Str → Option Value) : Prop where
  ex : ∃ h : Heap, K.In h ∧ h.Ns mainGlobals mg
  says : He.SaysD fas fns K
section
variable {fas : List He.Fa} {fns : List He.DefD} {K : PySem.W.Frag} {mg : Str → Option Value}
theorem Cw.glo (W : Cw fas fns K mg) (i : Nat) {x : Str} (h : fas[i]? = some (.glo x) := by rfl) : mg x = some (.ref (He.ga K x)) := by
  obtain ⟨hp, X, G⟩ := W.ex
  exact He.glo_ok X G (W.says.fact i h)
theorem Cw.fre (W : Cw fas fns K mg) (i : Nat) {x : Str} (h : fas[i]? = some (.free x) := by rfl) : mg x = none := by
  obtain ⟨hp, X, G⟩ := W.ex
  exact He.free_ok X G (W.says.fact i h)
theorem Cw.fact (W : Cw fas fns K mg) (i : Nat) {f : He.Fa} (h : fas[i]? = some f := by rfl) : f.ok K = true := W.says.fact i h
end

/-- a def of the top, by its name: where it stands, how it binds, what it promises -/
structure DefOk (P : Program) (w : World) (K : PySem.W.Frag) (mg : Str → Option Value) (base : Heap) (CX : CXT) (k : Nat) (x : Str) (ps : List Str) (sp : Sp) : Prop where
  ex : ∃ fd, FnOk P w K mg base CX k (He.ga K x) fd ps sp ∧ Binds K fd ps []
  kp : PySem.W.keepIn K (.ref (He.ga K x)) = true
  at_ : mg x = some (.ref (He.ga K x))
structure DefG (P : Program) (w : World) (K : PySem.W.Frag) (mg : Str → Option Value) (base : Heap) (CX : CXT) (k : Nat) (x : Str) (ps : List Str) (sp : Sp) : Prop where
  ex : ∃ fd, FnG P w K mg base CX k (He.ga K x) fd ps sp ∧ Binds K fd ps []
  kp : PySem.W.keepIn K (.ref (He.ga K x)) = true
  at_ : mg x = some (.ref (He.ga K x))
section
variable {P : Program} {w : World} {K : PySem.W.Frag} {mg : Str → Option Value} {base : Heap} {CX : CXT} {k : Nat} {x : Str} {ps : List Str} {sp : Sp}
theorem DefOk.g (D : DefOk P w K mg base CX k x ps sp) : DefG P w K mg base CX k x ps sp := by
  obtain ⟨⟨fd, F, b⟩, kp, at_⟩ := D
  exact ⟨⟨fd, FnG.of F, b⟩, kp, at_⟩
/-- from the body of a def of the top; it may let out what CX says -/
theorem DefOk.of {fas : List He.Fa} {fns : List He.DefD} (W : Cw fas fns K mg) (i j : Nat) {st : Stmt} {N : List Str} (hd : fns[i]? = some ⟨(x, none), x, x, defArgs st, defBody st, defScope st, [], []⟩) (hg : fas[j]? = some (.glo x))
    (S : FnScope N ps (defScope st)) (bnd : ∀ (kV doc pm : Value) (an : Option Addr) (cdv ct : Value) (us : List Value), us.length = ps.length → bindArgs (PySem.W.fnOf x x (defArgs st) (defBody st) (defScope st) .none kV doc pm an cdv ct) ⟨us, []⟩ = pure (ps.zip us))
    (len : ∀ vs H Q E, sp vs H Q E → vs.length = ps.length)
    (body : ∀ (cdv : Value) (A : Around) (outer : List Env) (s : Shared) (H : Hp) (vs : List V) (Q : VK) (E : XK), Room k (A.deeper (envOfC x (defScope st) s.heap.objs.size (He.ga K x) cdv)) → sp vs H Q E →
      ∃ t, PSs (cxOf CX P w K mg base N x (defScope st) (He.ga K x) cdv A outer s H E) (defBody st) t ∧ t { nx := fun _ H' => Q .non H', rt := Q } (start N vs) H) :
    DefOk P w K mg base CX (k + 1) x ps sp := by
  obtain ⟨fd, F⟩ := W.says.def_ i hd
  exact ⟨⟨fd, FunD.ok F S len body, FunD.bindsN F bnd⟩, F.kp, W.glo j hg⟩
theorem DefG.of {fas : List He.Fa} {fns : List He.DefD} (W : Cw fas fns K mg) (i j : Nat) {st : Stmt} {N : List Str} (hd : fns[i]? = some ⟨(x, none), x, x, defArgs st, defBody st, defScope st, [], []⟩) (hg : fas[j]? = some (.glo x))
    (S : FnScope N ps (defScope st)) (bnd : ∀ (kV doc pm : Value) (an : Option Addr) (cdv ct : Value) (us : List Value), us.length = ps.length → bindArgs (PySem.W.fnOf x x (defArgs st) (defBody st) (defScope st) .none kV doc pm an cdv ct) ⟨us, []⟩ = pure (ps.zip us))
    (len : ∀ vs H Q E, sp vs H Q E → vs.length = ps.length)
    (body : ∀ (cdv : Value) (B : Around) (up : List Env) (s : Shared) (H : Hp) (vs : List V) (Q : VK) (E : XK), B.guards = some [] → Room k (B.deeper (envOfC x (defScope st) s.heap.objs.size (He.ga K x) cdv)) → sp vs H Q E →
      ∃ t, PSs (cxOf CX P w K mg base N x (defScope st) (He.ga K x) cdv B up s H E) (defBody st) t ∧ t { nx := fun _ H' => Q .non H', rt := Q } (start N vs) H) :
    DefG P w K mg base CX (k + 1) x ps sp := by
  obtain ⟨fd, F⟩ := W.says.def_ i hd
  obtain ⟨oc, od, dV, kV, doc, pm, an, cdv, ct, osl, e, lk, hcd, hD, hK⟩ := F.ex
  have e0 : dV = .none := by
    rcases hD with ⟨_, z⟩ | ⟨z, _⟩
    · exact z
    · exact absurd rfl z
  subst e0
  refine ⟨⟨fd, okG ⟨⟨oc, od, kV, doc, pm, an, cdv, ct, osl, e, lk, hcd⟩, F.kp⟩ S len body, FunD.bindsN F bnd⟩, F.kp, W.glo j hg⟩
theorem FnG.ofF {f : Addr} {fd : FuncData} {st : Stmt} {N : List Str} (F : FunD K x x (defArgs st) (defBody st) (defScope st) [] [] f fd) (S : FnScope N ps (defScope st)) (len : ∀ vs H Q E, sp vs H Q E → vs.length = ps.length)
    (body : ∀ (cdv : Value) (B : Around) (up : List Env) (s : Shared) (H : Hp) (vs : List V) (Q : VK) (E : XK), B.guards = some [] → Room k (B.deeper (envOfC x (defScope st) s.heap.objs.size f cdv)) → sp vs H Q E →
      ∃ t, PSs (cxOf CX P w K mg base N x (defScope st) f cdv B up s H E) (defBody st) t ∧ t { nx := fun _ H' => Q .non H', rt := Q } (start N vs) H) :
    FnG P w K mg base CX (k + 1) f fd ps sp := by
  obtain ⟨oc, od, dV, kV, doc, pm, an, cdv, ct, osl, e, lk, hcd, hD, hK⟩ := F.ex
  have e0 : dV = .none := by
    rcases hD with ⟨_, z⟩ | ⟨z, _⟩
    · exact z
    · exact absurd rfl z
  subst e0
  exact okG ⟨⟨oc, od, kV, doc, pm, an, cdv, ct, osl, e, lk, hcd⟩, F.kp⟩ S len body
end
section
variable {X : Cx} {CX : CXT} {k : Nat} {x : Str} {ps : List Str} {sp : Sp} {E : XK} {p pos : Pos} {e : Expr} {es : List Expr} {t : TA}
theorem pe_callD (D : DefOk X.prog X.w X.K X.mg X.base CX k x ps sp) (hr : Room k X.A) (hx : Passes CX X E) (ha : PA X (e :: es) t) (hg : Gl X x := by rfl) (hdb : (x == ("__debug__" : Str)) = false := by decide)
    (he : starEach (e :: es) X.env = (false, eval e X.env) :: starEach es X.env := by rfl) (hpl : (backTo pos (starEach es X.env)).any (·.1) = false := by rfl) :
    PE X (.Call (.Name x p) (e :: es) [] pos) (tCall sp [] E t) := by
  obtain ⟨⟨fd, F, b⟩, kp, at_⟩ := D
  exact pe_call F hr hg at_ kp b .nil hx ha hdb he hpl
theorem pe_callDG (D : DefG X.prog X.w X.K X.mg X.base CX k x ps sp) (gd : X.A.guards = some []) (hr : Room k X.A) (hx : Passes CX X E) (ha : PA X (e :: es) t) (hg : Gl X x := by rfl) (hdb : (x == ("__debug__" : Str)) = false := by decide)
    (he : starEach (e :: es) X.env = (false, eval e X.env) :: starEach es X.env := by rfl) (hpl : (backTo pos (starEach es X.env)).any (·.1) = false := by rfl) :
    PE X (.Call (.Name x p) (e :: es) [] pos) (tCall sp [] E t) := by
  obtain ⟨⟨fd, F, b⟩, kp, at_⟩ := D
  exact pe_callG F gd hr hg at_ kp b .nil hx ha hdb he hpl
end

/-! ### operators of whatever kind -/
section
variable {X : Cx}
def orR (r r' : R2) : R2 := fun x y H Q => r x y H Q ∨ r' x y H Q
theorem op_or2 {f : Value → Value → Sem Value} {r r' : R2} (h : OpR X f r) (h' : OpR X f r') : OpR X f (orR r r') := by
  intro pins s σ H x y u v Q I rx ry z
  rcases z with z | z
  · exact h pins s σ H x y u v Q I rx ry z
  · exact h' pins s σ H x y u v Q I rx ry z
def orC (r r' : List V → Hp → VK → Prop) : List V → Hp → VK → Prop := fun xs H Q => r xs H Q ∨ r' xs H Q
theorem call_or {f : Value} {r r' : List V → Hp → VK → Prop} (h : CallR X f r) (h' : CallR X f r') : CallR X f (orC r r') := by
  intro pins s σ H xs us Q I rv z
  rcases z with z | z
  · exact h pins s σ H xs us Q I rv z
  · exact h' pins s σ H xs us Q I rv z
end
end SM
set_option Elab.async false
set_option linter.all false
set_option maxRecDepth 100000
set_option maxHeartbeats 2000000
/-! What stays of a heap; the drawing of numbers. -/
namespace SM
open PySem PySem.Spec PyProof.Rows L2

/-- all that was tracked stands as it stood, but what m names -/
def Keep (m : List Addr) (H H' : Hp) : Prop := ∀ b o, b ∉ m → H b = some o → H' b = some o
theorem Keep.refl {m : List Addr} {H : Hp} : Keep m H H := fun _ _ _ h => h
theorem Keep.trans {m : List Addr} {H H1 H2 : Hp} (h : Keep m H H1) (h' : Keep m H1 H2) : Keep m H H2 := fun b o n e => h' b o n (h b o n e)
theorem Keep.up {m m' : List Addr} {H H' : Hp} (h : Keep m H H') (s : ∀ a ∈ m, a ∈ m') : Keep m' H H' := fun b o n e => h b o (fun z => n (s b z)) e
theorem Keep.of_nil {m : List Addr} {H H' : Hp} (h : Keep [] H H') : Keep m H H' := h.up (fun a z => by cases z)
theorem Keep.new {m : List Addr} {H : Hp} {p : Addr} {o : HO} (h : H p = none) : Keep m H (upd H p o) := fun b u _ e => by
  rw [upd_ne (ne_of_none e h)]
  exact e
theorem Keep.at_ {m : List Addr} {H : Hp} {p : Addr} {o : HO} (h : p ∈ m) : Keep m H (upd H p o) := fun b u n e => by
  rw [upd_ne (fun z => n (by rw [z]; exact h))]
  exact e
/-- what was new to H may change -/
theorem Keep.own {m : List Addr} {H H' : Hp} {p : Addr} {o : HO} (k : Keep m H H') (h : H p = none) : Keep m H (upd H' p o) := fun b u n e => by
  rw [upd_ne (ne_of_none e h)]
  exact k b u n e
theorem Keep.same {H H' : Hp} (h : Keep [] H H') : Same H H' := fun b o e => h b o (by simp) e
theorem Keep.ofSame {m : List Addr} {H H' : Hp} (h : Same H H') : Keep m H H' := fun b o _ e => h b o e
theorem Keep.seqL {K : PySem.W.Frag} {m : List Addr} {H H' : Hp} {a : Addr} {xs : List V} (k : Keep m H H') (n : a ∉ m) (h : SqL K H a xs) : SqL K H' a xs := by
  rcases h with (h | ⟨o, h⟩) | h
  · exact .inl (.inl (k _ _ n h))
  · exact .inl (.inr ⟨o, k _ _ n h⟩)
  · exact .inr h
theorem Keep.seqT {K : PySem.W.Frag} {m : List Addr} {H H' : Hp} {a : Addr} {xs : List V} (k : Keep m H H') (n : a ∉ m) (h : SqT K H a xs) : SqT K H' a xs := by
  rcases h with (h | ⟨o, h⟩) | h
  · exact .inl (.inl (k _ _ n h))
  · exact .inl (.inr ⟨o, k _ _ n h⟩)
  · exact .inr h
theorem Keep.free {m : List Addr} {H H' : Hp} (k : Keep m H H') {p : Addr} (n : p ∉ m) (h : H' p = none) : H p = none := by
  cases e : H p with
  | none => rfl
  | some o =>
    rw [k p o n e] at h
    cases h

/-- the source of draws: two numbers, none below nought, the second one bounded -/
def Src (H : Hp) (a : Addr) : Prop := ∃ x y : Int, H a = some (.lst [.int x, .int y]) ∧ 0 ≤ x ∧ 0 ≤ y ∧ y < 1099511627776
theorem Src.keep {m : List Addr} {H H' : Hp} {a : Addr} (h : Src H a) (k : Keep m H H') (n : a ∉ m) : Src H' a := by
  obtain ⟨x, y, e, r⟩ := h
  exact ⟨x, y, k _ _ n e, r⟩

/-! ### bits -/
theorem bits_lt {N : Nat} {i : Int} (h : Builtin.Int.intBits i ≤ N) : i.natAbs < 2 ^ N := by
  unfold Builtin.Int.intBits at h
  by_cases z : i = 0
  · subst z
    exact Nat.two_pow_pos N
  · have e : (i == 0) = false := by simpa using z
    rw [e] at h
    have h' : i.natAbs.log2 + 1 ≤ N := h
    exact (Nat.log2_lt (by omega)).mp h'
theorem bits_le {N : Nat} {i : Int} (h : i.natAbs < 2 ^ N) : Builtin.Int.intBits i ≤ N := by
  unfold Builtin.Int.intBits
  by_cases z : i = 0
  · subst z
    exact Nat.zero_le N
  · have e : (i == 0) = false := by simpa using z
    rw [e]
    exact (Nat.log2_lt (by omega)).mpr h
theorem bits_sum {N : Nat} (hN : 60 ≤ N) {m c : Int} (hm : m.natAbs < 2 ^ 60) (hc : Builtin.Int.intBits c ≤ N) : Builtin.Int.intBits (m + c) ≤ N + 1 := by
  apply bits_le
  have h1 := bits_lt hc
  have h2 : 2 ^ 60 ≤ 2 ^ N := Nat.pow_le_pow_right (by decide) hN
  have h3 : (m + c).natAbs ≤ m.natAbs + c.natAbs := Int.natAbs_add_le m c
  rw [Nat.pow_succ]
  generalize 2 ^ N = Z at *
  generalize 2 ^ 60 = Y at *
  omega
theorem fmod_pos {i j : Int} (h : 0 < j) : 0 ≤ i.fmod j ∧ i.fmod j < j := by
  rw [Int.fmod_eq_emod_of_nonneg _ (by omega)]
  exact ⟨Int.emod_nonneg _ (by omega), Int.emod_lt_of_pos _ h⟩
theorem fdiv_nn {i j : Int} (h0 : 0 ≤ i) (h : 0 < j) : 0 ≤ i.fdiv j := by
  rw [Int.fdiv_eq_ediv_of_nonneg _ (by omega)]
  exact Int.ediv_nonneg h0 (by omega)

/-! ### promises of the drawing -/
def spSource (K : PySem.W.Frag) : Sp := fun vs H Q _ => ∃ (s : Addr) (ns : List Int) (start : Int), vs = [.ref s, .int start] ∧ SqL K H s (ns.map V.int) ∧ ns.length ≤ 63 ∧ (∀ n ∈ ns, Builtin.Int.intBits n ≤ 1048576) ∧ 0 ≤ start ∧ start < 1000 ∧
  ∀ p H', H p = none → Keep [] H H' → Src H' p → Q (.ref p) H'
def spDraw : Sp := fun vs H Q _ => ∃ (a : Addr) (span : Int), vs = [.ref a, .int span] ∧ Src H a ∧ 0 < span ∧ span < 1000000 ∧
  ∀ (r : Int) (H' : Hp), 0 ≤ r → r < span → Keep [a] H H' → Src H' a → Q (.int r) H'
/-- things[draw]: a list or a tuple -/
def spPick (K : PySem.W.Frag) : Sp := fun vs H Q _ => ∃ (a l : Addr) (xs : List V), vs = [.ref a, .ref l] ∧ Src H a ∧ (SqL K H l xs ∨ SqT K H l xs) ∧ l ≠ a ∧ 0 < xs.length ∧ xs.length < 100000 ∧
  ∀ (i : Nat) (v : V) (H' : Hp), xs[i]? = some v → Keep [a] H H' → Src H' a → Q v H'
end SM
set_option Elab.async false
set_option linter.all false
set_option maxRecDepth 100000
set_option maxHeartbeats 2000000
/-! What a head must look at of an own error class. -/
namespace SM
open PySem PySem.Spec PyProof.Rows L2 PySem.HandSPX He
def ve? (K : PySem.W.Frag) (C : Addr) : Bool := match K.lookup C with
  | some ⟨.type t, _, .cls cd, sl⟩ => (match cd.mro, sl.toList with
    | .ref C' :: bm, [_, _, _, _, some (.builtin n), _] => decide (t = "type") && (decide (C' = C) && (decide (n = "ValueError.__new__") && (!cd.hasDel && (cd.hasDict && refsVE bm))))
    | _, _ => false)
  | _ => false
theorem ve_ok {K : PySem.W.Frag} {C : Addr} (h : ve? K C = true) :
    ∃ nm q N bs bm sn sub ab col dd k0 k1 k2 k3 k5, K.lookup C = some (excClassObj nm q C N bs bm true sn sub ab col dd k0 k1 k2 k3 k5 "ValueError.__new__") ∧ refsVE bm = true := by
  unfold ve? at h
  split at h
  · rename_i t dd cd sl ho
    split at h
    · rename_i C' bm k0 k1 k2 k3 n k5 hm hs
      obtain ⟨h1, h⟩ := ba h
      obtain ⟨h2, h⟩ := ba h
      obtain ⟨h3, h⟩ := ba h
      obtain ⟨h4, h⟩ := ba h
      obtain ⟨h5, h6⟩ := ba h
      have e1 := of_decide_eq_true h1
      have e2 := of_decide_eq_true h2
      have e3 := of_decide_eq_true h3
      have e4 : cd.hasDel = false := by simpa using h4
      subst e1 e2 e3
      obtain ⟨nm, bs, mro, ns, qn, hd, sn, sub, ab, col, del⟩ := cd
      dsimp only at hm e4 h5
      subst hm e4 h5
      have z : sl = #[k0, k1, k2, k3, some (.builtin "ValueError.__new__"), k5] := by
        obtain ⟨l⟩ := sl
        dsimp only at hs
        rw [hs]
      subst z
      exact ⟨nm, qn, ns, bs, bm, sn, sub, ab, col, dd, k0, k1, k2, k3, k5, ho, h6⟩
    · cases h
  · cases h
/-- the error class C, its __init__ at f -/
def err? (K : PySem.W.Frag) (C f : Addr) : Bool :=
  ve? K C && (eqO (PySem.W.findIn K (.ref C) "__setattr__") (some (some (.builtin "object.__setattr__"))) && (decide (PySem.W.subIn K (.ref C) (.type "BaseException") = some true) &&
  (decide (PySem.W.typeIn K (.ref C) = some (.type "type")) && (PySem.W.keepIn K (.ref C) && (eqO (PySem.W.findIn K (.ref C) "__init__") (some (some (.ref f))) && (decide (PySem.W.typeIn K (.ref f) = some (.type "function")) &&
  (eqO (PySem.W.findIn K (.ref C) "__getattribute__") (some (some (.builtin "BaseException.__getattribute__"))) && (eqO (PySem.W.findIn K (.ref C) "__getattr__") (some none) && (PySem.W.hasDictIn K C &&
  (eqO (PySem.W.findIn K (.ref C) "__class__") (some (some (.builtin "object.__class__"))) && (eqO (PySem.W.specialIn K (.builtin "object.__class__") "__get__") (some (some (.builtin "getset_descriptor.__get__"))) &&
  (decide (PySem.W.takesIn K (.builtin "object.__class__") = some true) && decide (PySem.W.mroIn K C (.type "object") = some true)))))))))))))
theorem err_ok {K : PySem.W.Frag} {C f : Addr} (h : err? K C f = true) : ErrC K C f := by
  obtain ⟨h1, h⟩ := ba h
  obtain ⟨h2, h⟩ := ba h
  obtain ⟨h3, h⟩ := ba h
  obtain ⟨h4, h⟩ := ba h
  obtain ⟨h5, h⟩ := ba h
  obtain ⟨h6, h⟩ := ba h
  obtain ⟨h7, h⟩ := ba h
  obtain ⟨h8, h⟩ := ba h
  obtain ⟨h9, h⟩ := ba h
  obtain ⟨h10, h⟩ := ba h
  obtain ⟨h11, h⟩ := ba h
  obtain ⟨h12, h⟩ := ba h
  obtain ⟨h13, h14⟩ := ba h
  exact ⟨⟨ve_ok h1, eqO_ok h2, of_decide_eq_true h3, of_decide_eq_true h4, h5⟩, eqO_ok h6, of_decide_eq_true h7, ⟨eqO_ok h8, eqO_ok h9, of_decide_eq_true h3, h10, eqO_ok h11, eqO_ok h12, of_decide_eq_true h13, of_decide_eq_true h14⟩⟩
end SM
set_option Elab.async false
set_option linter.all false
set_option maxRecDepth 100000
set_option maxHeartbeats 2000000
/-! Errors that are held, their readings; how long a repr is. -/
namespace SM
open PySem PySem.Spec PyProof.Rows L2 PySem.HandSPX
/-- x is an error of the class at C whose one field f holds v -/
def ErrAt (H : Hp) (C : Addr) (f : Str) (v x : V) : Prop := ∃ a dx : Addr, x = .ref a ∧ H a = some (exo a C (some dx)) ∧ H dx = some (exd dx [(f, v)])
/-- a list or a dict stands at b -/
def Mu (H : Hp) (b : Addr) : Prop := (∃ xs, H b = some (.lst xs)) ∨ ∃ kvs, H b = some (.dK kvs)
theorem ErrAt.keep {m : List Addr} {H H' : Hp} {C : Addr} {f : Str} {v x : V} (h : ErrAt H C f v x) (k : Keep m H H') (n : ∀ b ∈ m, Mu H b) : ErrAt H' C f v x := by
  obtain ⟨a, dx, e, h1, h2⟩ := h
  refine ⟨a, dx, e, k _ _ (fun z => ?_) h1, k _ _ (fun z => ?_) h2⟩
  · rcases n _ z with ⟨xs, q⟩ | ⟨xs, q⟩ <;>
    · rw [q] at h1
      exact absurd (Option.some.inj h1) (by intro y; cases y)
  · rcases n _ z with ⟨xs, q⟩ | ⟨xs, q⟩ <;>
    · rw [q] at h2
      exact absurd (Option.some.inj h2) (by intro y; cases y)
theorem rd_err {C : Addr} {f : Str} {te : TE} {σ : L2.St} {H : Hp} {Q : VK} (h : te σ H fun v H1 => ∀ x H2, Keep [] H1 H2 → ErrAt H2 C f v x → Q x H2) (mono : ∀ {W W' : VK}, (∀ v H1, W v H1 → W' v H1) → te σ H W → te σ H W') : tErr C f te σ H Q :=
  mono (fun v H1 q a dx na nd ne => q _ _ (fun b o _ e => by
    rw [upd_ne (ne_of_none e na), upd_ne (ne_of_none e nd)]
    exact e) ⟨a, dx, rfl, upd_same, by rw [upd_ne ne, upd_same]⟩) h
theorem rd_errV {C : Addr} {f : Str} {n : Nat} {v : V} {σ : L2.St} {H : Hp} {Q : VK} (hv : σ[n]? = some (some v)) (h : ∀ x H2, Keep [] H H2 → ErrAt H2 C f v x → Q x H2) : tErr C f (tVar n) σ H Q :=
  rd_err ⟨v, hv, h⟩ (fun w z => by
    obtain ⟨u, e, q⟩ := z
    exact ⟨u, e, w _ _ q⟩)
theorem rd_errT {C : Addr} {f : Str} {n : Nat} {v : V} {σ : L2.St} {H : Hp} {Q : VK} (hv : σ[n]? = some (some v)) (h : ∀ t x H2, Keep [] H H2 → H2 t = some (.tup [v]) → ErrAt H2 C f (.ref t) x → Q x H2) : tErr C f (tTup (tCons (tVar n) tNil)) σ H Q :=
  rd_err (te := tTup (tCons (tVar n) tNil)) ⟨v, hv, by show 1 ≤ sizeLine; decide, fun p hp x H2 k e => h p x H2 (Keep.trans (Keep.new hp) k) (k _ _ (by simp) upd_same) e⟩ (fun w z => by
    obtain ⟨u, e, hz, q⟩ := z
    exact ⟨u, e, hz, fun p hp => w _ _ (q p hp)⟩)
/-- isinstance(error, c) -/
theorem rd_isi {K : PySem.W.Frag} {H : Hp} {C : Addr} {f : Str} {v x c : V} {cv : Value} {b : Bool} {Q : VK} (h : ErrAt H C f v x) (T : ExcC K C) (hc : ∀ u, RelV c u → u = cv) (hk : PySem.W.kitOne K (.ref C) cv = some b) (q : Q (.bl b) H) : rErrI K [x, c] H Q := by
  obtain ⟨a, dx, rfl, h1, h2⟩ := h
  exact ⟨a, C, dx, _, c, cv, b, rfl, h1, h2, T, hc, hk, q⟩
/-- error.f -/
theorem rd_errF {K : PySem.W.Frag} {H : Hp} {C : Addr} {f : Str} {v x : V} {te : TE} {σ : L2.St} {Q : VK} (h : ErrAt H C f v x) (T : ExcC K C) (hn : PySem.W.findIn K (.ref C) f = some none) (q : Q v H) : ∃ (a C dx : Addr) (fs : List (Str × V)) (v' : V), x = .ref a ∧ H a = some (exo a C (some dx)) ∧ H dx = some (exd dx fs) ∧ ExcC K C ∧ PySem.W.findIn K (.ref C) f = some none ∧ fs.lookup f = some v' ∧ Q v' H := by
  obtain ⟨a, dx, rfl, h1, h2⟩ := h
  exact ⟨a, C, dx, _, v, rfl, h1, h2, T, hn, by simp [List.lookup], q⟩

/-! ### how long a repr is -/
mutual
def cost : PyData → Nat
  | .none => 4
  | .bool _ => 5
  | .int i => i.natAbs.log2 + 3
  | .str x => 10 * x.length + 2
  | .list xs => costAll xs + 2
  | .tuple xs => costAll xs + 3
  | .dict kvs => costKv kvs + 2
def costAll : List PyData → Nat
  | [] => 0
  | x :: xs => cost x + 2 + costAll xs
def costKv : List (PyData × PyData) → Nat
  | [] => 0
  | (k, v) :: r => cost k + 2 + cost v + 2 + costKv r
end
end SM
namespace SM
open PySem PySem.Spec PyProof.Rows L2
/-- a repr that fits -/
def fits (d : PyData) : Bool := d.showable && (d.leavesShort 13 && (decide (d.weight ≤ 1048576) && decide (d.depth ≤ 60)))
theorem rd_repr {K : PySem.W.Frag} {H : Hp} {a : Addr} {d : PyData} {Q : VK} (h : Dq K H (.ref a) d) (f : fits d = true) (q : Q (.str d.shown) H) : rRepr K [.ref a] H Q := by
  obtain ⟨h1, f⟩ := He.ba f
  obtain ⟨h2, f⟩ := He.ba f
  obtain ⟨h3, h4⟩ := He.ba f
  exact ⟨a, d, rfl, h, h1, of_decide_eq_true h4, PyData.shown_fits (B := 13) (by decide) (by decide) h2 (Nat.le_trans (of_decide_eq_true h3) (by decide)), q⟩
theorem fits_parts {d : PyData} (f : fits d = true) : d.showable = true ∧ d.depth ≤ 60 ∧ d.shown.length ≤ sizeLine := by
  obtain ⟨h1, f⟩ := He.ba f
  obtain ⟨h2, f⟩ := He.ba f
  obtain ⟨h3, h4⟩ := He.ba f
  exact ⟨h1, of_decide_eq_true h4, PyData.shown_fits (B := 13) (by decide) (by decide) h2 (Nat.le_trans (of_decide_eq_true h3) (by decide))⟩
/-- a chain of steps, its end told by a fresh place -/
theorem Keep.pin {m : List Addr} {H H' : Hp} {q : Addr} (k : Keep m H H') (_ : H' q = none) : Keep m H H' := k
theorem Keep.pinTo {H H' : Hp} {q a : Addr} {o : HO} (k : Keep [] H H') (h : H a = some o) (_ : H' q = none) : H' a = some o := k a o (by simp) h
/-- what is new to H0 may change behind -/
theorem Keep.offNew {H0 H1 H2 : Hp} {p : Addr} (k : Keep [] H0 H1) (k2 : Keep [p] H1 H2) (n : H0 p = none) : Keep [] H0 H2 := fun b o _ e => k2 b o (by
    intro z
    rw [List.mem_singleton.mp z, n] at e
    cases e) (k b o (by simp) e)
theorem DqAll.get {K : PySem.W.Frag} {H : Hp} : ∀ {vs : List V} {ds : List PyData}, DqAll K H vs ds → ∀ {i : Nat} {v : V}, vs[i]? = some v → ∃ d, ds[i]? = some d ∧ Dq K H v d
  | _, _, .nil, i, v, e => by simp at e
  | _, _, .cons h t, 0, v, e => by
    simp at e
    subst e
    exact ⟨_, rfl, h⟩
  | _, _, .cons h t, i + 1, v, e => by
    obtain ⟨d, e1, h1⟩ := t.get (i := i) (v := v) (by simpa using e)
    exact ⟨d, by simpa using e1, h1⟩
/-- for i, x in enumerate(xs) -/
theorem for_enumL {K : PySem.W.Frag} {a : Addr} {xs : List V} {g : TG} {tb : TS} {D : Ends} {σ : L2.St} {H : Hp} (Pv : Nat → L2.St → Hp → Prop) (h0 : Pv 0 σ H) (hl : ∀ i σ H, i ≤ xs.length → Pv i σ H → SqL K H a xs)
    (hs : ∀ (i : Nat) (x : V) (T : Addr) (σ : L2.St) (H : Hp), xs[i]? = some x → Pv i σ H → H T = none → g (.ref T) σ (upd H T (.tup [.int (i : Int), x])) fun σ2 H2 => tb { D with nx := Pv (i + 1), ct := Pv (i + 1), bk := D.nx } σ2 H2)
    (hd : ∀ σ H, Pv xs.length σ H → D.nx σ H) :
    ∃ W : Nat → Nat → L2.St → Hp → Prop, (∃ m, W 0 m σ H) ∧ ∀ i m σ H, W i m σ H →
      ((Ite K a).stop i H ∧ D.nx σ H) ∨ ((Ite K a).go i H ∧ ∃ N : L2.St → Hp → Prop, (∀ σ' H', N σ' H' → ∃ m', m' < m ∧ W (i + 1) m' σ' H') ∧ ∀ x H', (Ite K a).yld i H x H' → g x σ H' fun σ2 H2 => tb { D with nx := N, ct := N, bk := D.nx } σ2 H2) := by
  refine ⟨fun i m σ H => m + i = xs.length ∧ Pv i σ H, ⟨xs.length, rfl, h0⟩, ?_⟩
  intro i m σ H w
  obtain ⟨em, p⟩ := w
  have sq := hl i σ H (by omega) p
  by_cases c : i < xs.length
  · right
    refine ⟨⟨xs, xs[i], sq, List.getElem?_eq_getElem c⟩, Pv (i + 1), fun σ' H' q => ⟨m - 1, by omega, by omega, q⟩, fun v H' y => ?_⟩
    obtain ⟨T, x, rfl, hT, rfl, hx⟩ := y
    exact hs i x T σ H (hx xs sq) p hT
  · left
    have e : i = xs.length := by omega
    subst e
    exact ⟨⟨xs, sq, Nat.le_refl _⟩, hd σ H p⟩
end SM
namespace SM
open PySem PySem.Spec PyProof.Rows L2
theorem rd_lst {H : Hp} {xs : List V} {Q : VK} (z : xs.length ≤ 1000) (h : ∀ p H', H p = none → Keep [] H H' → H' p = some (.lst xs) → Q (.ref p) H') : xs.length ≤ sizeLine ∧ ∀ p, H p = none → Q (.ref p) (upd H p (.lst xs)) :=
  ⟨Nat.le_trans z (by decide), fun p hp => h p _ hp (Keep.new hp) upd_same⟩
theorem rd_tup {H : Hp} {xs : List V} {Q : VK} (z : xs.length ≤ 1000) (h : ∀ p H', H p = none → Keep [] H H' → H' p = some (.tup xs) → Q (.ref p) H') : xs.length ≤ sizeLine ∧ ∀ p, H p = none → Q (.ref p) (upd H p (.tup xs)) :=
  ⟨Nat.le_trans z (by decide), fun p hp => h p _ hp (Keep.new hp) upd_same⟩
theorem rd_cat {H : Hp} {l b : Addr} {xs zs : List V} {Q : VK} (hl : H l = some (.lst xs)) (hb : H b = some (.lst zs)) (z : xs.length + zs.length ≤ 1000) (h : ∀ p H', H p = none → Keep [] H H' → H' p = some (.lst (xs ++ zs)) → Q (.ref p) H') : rCat (.ref l) (.ref b) H Q :=
  ⟨l, b, xs, zs, rfl, rfl, hl, hb, Nat.le_trans z (by decide), fun p hp => h p _ hp (Keep.new hp) upd_same⟩
theorem rd_rep {H : Hp} {l : Addr} {xs : List V} {k : Int} {Q : VK} (hl : H l = some (.lst xs)) (k0 : 0 ≤ k) (k1 : k ≤ 1000) (z : xs.length * k.toNat ≤ 1000) (h : ∀ p H', H p = none → Keep [] H H' → H' p = some (.lst (List.replicate k.toNat xs).flatten) → Q (.ref p) H') : rRep (.ref l) (.int k) H Q :=
  ⟨l, k, xs, rfl, rfl, hl, by omega, by omega, Nat.le_trans z (by decide), fun p hp => h p _ hp (Keep.new hp) upd_same⟩
/-- a step that does nothing to the heap, then what follows -/
theorem Keep.to {m : List Addr} {H1 H2 : Hp} {a : Addr} {o : HO} (k : Keep m H1 H2) (h : H1 a = some o) (n : a ∉ m := by simp) : H2 a = some o := k a o n h
end SM
set_option Elab.async false
set_option linter.all false
set_option maxRecDepth 100000
set_option maxHeartbeats 4000000
namespace La
open PySem PySem.Spec PyProof.Rows L2 SM
def top (i : Nat) : Stmt := PySem.Challenge.pw_stillmine_k91_errors_by_hand.main.body.getD i (.Pass ⟨0, 0, 0, 0⟩)
def d_BadRegisters___init__ : He.DefD := ⟨("BadRegisters", some "__init__"), "__init__", "BadRegisters.__init__", defArgs (inClass (top 2) 0), defBody (inClass (top 2) 0), defScope (inClass (top 2) 0), [], []⟩
def d_BadLines___init__ : He.DefD := ⟨("BadLines", some "__init__"), "__init__", "BadLines.__init__", defArgs (inClass (top 3) 0), defBody (inClass (top 3) 0), defScope (inClass (top 3) 0), [], []⟩
def d_BadLine___init__ : He.DefD := ⟨("BadLine", some "__init__"), "__init__", "BadLine.__init__", defArgs (inClass (top 4) 0), defBody (inClass (top 4) 0), defScope (inClass (top 4) 0), [], []⟩
def d_BadContent___init__ : He.DefD := ⟨("BadContent", some "__init__"), "__init__", "BadContent.__init__", defArgs (inClass (top 5) 0), defBody (inClass (top 5) 0), defScope (inClass (top 5) 0), [], []⟩
def d_StillAmid___init__ : He.DefD := ⟨("StillAmid", some "__init__"), "__init__", "StillAmid.__init__", defArgs (inClass (top 6) 0), defBody (inClass (top 6) 0), defScope (inClass (top 6) 0), [], []⟩
def d_Unanswered___init__ : He.DefD := ⟨("Unanswered", some "__init__"), "__init__", "Unanswered.__init__", defArgs (inClass (top 7) 0), defBody (inClass (top 7) 0), defScope (inClass (top 7) 0), [], []⟩
def d_BadAnswer___init__ : He.DefD := ⟨("BadAnswer", some "__init__"), "__init__", "BadAnswer.__init__", defArgs (inClass (top 8) 0), defBody (inClass (top 8) 0), defScope (inClass (top 8) 0), [], []⟩
def d_BadStop___init__ : He.DefD := ⟨("BadStop", some "__init__"), "__init__", "BadStop.__init__", defArgs (inClass (top 9) 0), defBody (inClass (top 9) 0), defScope (inClass (top 9) 0), [], []⟩
def d_NoPlace___init__ : He.DefD := ⟨("NoPlace", some "__init__"), "__init__", "NoPlace.__init__", defArgs (inClass (top 10) 0), defBody (inClass (top 10) 0), defScope (inClass (top 10) 0), [], []⟩
def d_BadTrouble___init__ : He.DefD := ⟨("BadTrouble", some "__init__"), "__init__", "BadTrouble.__init__", defArgs (inClass (top 11) 0), defBody (inClass (top 11) 0), defScope (inClass (top 11) 0), [], []⟩
def d_OtherPlaces___init__ : He.DefD := ⟨("OtherPlaces", some "__init__"), "__init__", "OtherPlaces.__init__", defArgs (inClass (top 12) 0), defBody (inClass (top 12) 0), defScope (inClass (top 12) 0), [], []⟩
def d_BadName___init__ : He.DefD := ⟨("BadName", some "__init__"), "__init__", "BadName.__init__", defArgs (inClass (top 13) 0), defBody (inClass (top 13) 0), defScope (inClass (top 13) 0), [], []⟩
def d_NoFile___init__ : He.DefD := ⟨("NoFile", some "__init__"), "__init__", "NoFile.__init__", defArgs (inClass (top 14) 0), defBody (inClass (top 14) 0), defScope (inClass (top 14) 0), [], []⟩
def d_Taken___init__ : He.DefD := ⟨("Taken", some "__init__"), "__init__", "Taken.__init__", defArgs (inClass (top 15) 0), defBody (inClass (top 15) 0), defScope (inClass (top 15) 0), [], []⟩
def d_TooFar___init__ : He.DefD := ⟨("TooFar", some "__init__"), "__init__", "TooFar.__init__", defArgs (inClass (top 16) 0), defBody (inClass (top 16) 0), defScope (inClass (top 16) 0), [], []⟩
def d_BadText___init__ : He.DefD := ⟨("BadText", some "__init__"), "__init__", "BadText.__init__", defArgs (inClass (top 17) 0), defBody (inClass (top 17) 0), defScope (inClass (top 17) 0), [], []⟩
def d_BadBridge___init__ : He.DefD := ⟨("BadBridge", some "__init__"), "__init__", "BadBridge.__init__", defArgs (inClass (top 18) 0), defBody (inClass (top 18) 0), defScope (inClass (top 18) 0), [], []⟩
def d__law_source : He.DefD := ⟨("_law_source", none), "_law_source", "_law_source", defArgs (top 20), defBody (top 20), defScope (top 20), [], []⟩
def d__law_draw : He.DefD := ⟨("_law_draw", none), "_law_draw", "_law_draw", defArgs (top 21), defBody (top 21), defScope (top 21), [], []⟩
def d__law_pick : He.DefD := ⟨("_law_pick", none), "_law_pick", "_law_pick", defArgs (top 22), defBody (top 22), defScope (top 22), [], []⟩
def d__law_kinds : He.DefD := ⟨("_law_kinds", none), "_law_kinds", "_law_kinds", defArgs (top 23), defBody (top 23), defScope (top 23), [], []⟩
def d__law_by_place : He.DefD := ⟨("_law_by_place", none), "_law_by_place", "_law_by_place", defArgs (top 24), defBody (top 24), defScope (top 24), [], []⟩
def d__law_by_name : He.DefD := ⟨("_law_by_name", none), "_law_by_name", "_law_by_name", defArgs (top 25), defBody (top 25), defScope (top 25), [], []⟩
def d__law_stored : He.DefD := ⟨("_law_stored", none), "_law_stored", "_law_stored", defArgs (top 26), defBody (top 26), defScope (top 26), [], []⟩
def d_law : He.DefD := ⟨("law", none), "law", "law", defArgs (top 27), defBody (top 27), defScope (top 27), [], []⟩
def fns : List He.DefD := [d_BadRegisters___init__, d_BadLines___init__, d_BadLine___init__, d_BadContent___init__, d_StillAmid___init__, d_Unanswered___init__, d_BadAnswer___init__, d_BadStop___init__, d_NoPlace___init__, d_BadTrouble___init__, d_OtherPlaces___init__, d_BadName___init__, d_NoFile___init__, d_Taken___init__, d_TooFar___init__, d_BadText___init__, d_BadBridge___init__, d__law_source, d__law_draw, d__law_pick, d__law_kinds, d__law_by_place, d__law_by_name, d__law_stored, d_law]
def fas : List He.Fa := [.glo "UpgradeError", .glo "BadRegisters", .glo "BadLines", .glo "BadLine", .glo "BadContent", .glo "StillAmid", .glo "Unanswered", .glo "BadAnswer", .glo "BadStop", .glo "NoPlace", .glo "BadTrouble", .glo "OtherPlaces", .glo "BadName", .glo "NoFile", .glo "Taken", .glo "TooFar", .glo "BadText", .glo "BadBridge", .glo "_law_source", .glo "_law_draw", .glo "_law_pick", .glo "_law_kinds", .glo "_law_by_place", .glo "_law_by_name", .glo "_law_stored", .glo "law", .free "ValueError", .free "enumerate", .free "int", .free "isinstance", .free "len", .free "list", .free "max", .free "min", .free "range", .free "repr"]
abbrev R : PySem.W.OpenRow := PySem.W.OpenLaw.row PySem.Challenge.rw_stillmine_k91_errors_by_hand
def exB : PySem.W.Frag → Bool := fun K => ([("BadRegisters", "value"), ("BadLines", "value"), ("BadContent", "value"), ("BadAnswer", "value"), ("BadStop", "value"), ("BadTrouble", "value"), ("OtherPlaces", "value"), ("BadName", "value"), ("BadBridge", "value"), ("StillAmid", "content"), ("NoPlace", "place"), ("NoFile", "name"), ("Taken", "name"), ("BadLine", "position"), ("Unanswered", "position"), ("TooFar", "count"), ("BadText", "line")] : List (Str × Str)).all fun e => SM.err? K (He.ga K e.1) (He.ma K (He.ga K e.1) "__init__") && (He.eqO (PySem.W.findIn K (.ref (He.ga K e.1)) e.2) (some none) && (decide (PySem.W.kitOne K (.ref (He.ga K e.1)) (.ref (He.ga K "UpgradeError")) = some true) && (decide (PySem.W.kitOne K (.ref (He.ga K e.1)) (.type "ValueError") = some true) && ([("BadRegisters", "value"), ("BadLines", "value"), ("BadContent", "value"), ("BadAnswer", "value"), ("BadStop", "value"), ("BadTrouble", "value"), ("OtherPlaces", "value"), ("BadName", "value"), ("BadBridge", "value"), ("StillAmid", "content"), ("NoPlace", "place"), ("NoFile", "name"), ("Taken", "name"), ("BadLine", "position"), ("Unanswered", "position"), ("TooFar", "count"), ("BadText", "line")] : List (Str × Str)).all fun y => decide (PySem.W.kitOne K (.ref (He.ga K e.1)) (.ref (He.ga K y.1)) = some (decide (e.1 = y.1))))))
abbrev hk : PySem.W.Hook := SM.hookS 5 fas fns exB
def ob (s : PySem.W.SharedT) : SM.AlS := SM.obsS 5 fas fns exB (HandSHeadRun.getT s)
theorem ob_eq (s : PySem.W.SharedT) : ob s = hk.obs s.abs := SM.obsS_eq (HandSHeadRun.getT_eq s)
def loose0 : List PySem.Str := ["UpgradeError", "BadRegisters", "BadLines", "BadLine", "BadContent", "StillAmid", "Unanswered", "BadAnswer", "BadStop", "NoPlace", "BadTrouble", "OtherPlaces", "BadName", "NoFile", "Taken", "TooFar", "BadText", "BadBridge", "_law_source", "_law_draw", "_law_pick", "_law_kinds", "_law_by_place", "_law_by_name", "_law_stored"]
def loose : List PySem.Str := loose0
abbrev qv : Program := PySem.W.view R.prog [27]
theorem run (w : World) : HandSHeadRun.RunEq R qv hk ob 20000 loose w := by
  intro os
  kernel_rfl
section
variable {P : Program} {w : World} {K : PySem.W.Frag} {mg : Str → Option Value} {base : Heap}
abbrev s__law_draw : Stmt := (top 21)
abbrev N__law_draw : List Str := ["source", "span", "found"]
abbrev P__law_draw : List Str := ["source", "span"]
theorem sc__law_draw : FnScope N__law_draw P__law_draw (defScope s__law_draw) := ⟨rfl, rfl, rfl, by decide +kernel, rfl, by decide +kernel, by decide +kernel⟩
theorem D_law_draw (W : Cw fas fns K mg) : DefOk P w K mg base CX0 1 "_law_draw" P__law_draw spDraw := by
  refine DefOk.of W 18 19 (st := s__law_draw) rfl rfl sc__law_draw (fun _ _ _ _ _ _ us hl => match us, hl with | [_, _], _ => rfl) (fun vs H Q E h => ?_) (fun cdv A outer s H vs Q E hr h => ?_)
  · obtain ⟨a, span, rfl, _⟩ := h
    rfl
  · obtain ⟨a, span, rfl, ⟨x, y, ea, hx, hy, hy2⟩, hs, hs2, k⟩ := h
    refine ⟨_, PSs.nox (pss_cons (ps_if (pt_cmpR op_ge (pe_ix ix_seq (pv 0) pe_int (fun _ _ => rfl)) (pv 1) (nomark _)) (pss_cons (ps_set (i := 2) sc__law_draw.nd rfl (by first | exact Or.inl rfl | exact Or.inr rfl) (pe_op op_modN (pe_callTy call_int1 (by rfl) (W.fre 28) (by decide +kernel) (pa_cons (pe_ix ix_seq (pv 0) pe_int (fun _ _ => rfl)) pa_nil)) (pv 1))) (pss_cons (ps_asg (pe_op op_fdivN (pe_ix ix_seq (pv 0) pe_int (fun _ _ => rfl)) (pv 1)) (pg_sub (pv 0) pe_int set_list)) (pss_one (ps_ret (pv 2))))) pss_nil) (pss_cons (ps_asg (pe_op op_modN (pe_callTy call_int1 (by rfl) (W.fre 28) (by decide +kernel) (pa_cons (pe_op op_add (pe_op op_mul (pe_ix ix_seq (pv 0) pe_int (fun _ _ => rfl)) pe_int) pe_int) pa_nil)) pe_int) (pg_sub (pv 0) pe_int set_list)) (pss_one (ps_ret (pe_op op_modN (pe_callTy call_int1 (by rfl) (W.fre 28) (by decide +kernel) (pa_cons (pe_op op_fdivN (pe_op op_modN (pe_callTy call_int1 (by rfl) (W.fre 28) (by decide +kernel) (pa_cons (pe_op op_pow (pe_callTy call_int1 (by rfl) (W.fre 28) (by decide +kernel) (pa_cons (pe_ix ix_seq (pv 0) pe_int (fun _ _ => rfl)) pa_nil)) pe_int) pa_nil)) pe_int) pe_int) pa_nil)) (pv 1)))))), ?_⟩
    have ix0 : ∀ {H : Hp} {x y : Int}, H a = some (.lst [.int x, .int y]) → ∀ {Q : VK}, Q (.int x) H → rIx K (.ref a) (.int 0) H Q := by
      intro H x y e Q q
      exact .inl ⟨a, _, 0, _, rfl, rfl, SqL.of e, rfl, q⟩
    have ix1 : ∀ {H : Hp} {x y : Int}, H a = some (.lst [.int x, .int y]) → ∀ {Q : VK}, Q (.int y) H → rIx K (.ref a) (.int 1) H Q := by
      intro H x y e Q q
      exact .inl ⟨a, _, 1, _, rfl, rfl, SqL.of e, rfl, q⟩
    refine ⟨_, rfl, ix0 ea ⟨_, rfl, _, _, rfl, rfl, _, rfl, ?_⟩⟩
    refine ite2 (fun c => ?_) (fun c => ?_)
    · refine ⟨_, rfl, ix0 ea (.inl ⟨_, rfl, _, rfl, _, _, rfl, rfl, by omega, ?_⟩)⟩
      refine ⟨_, rfl, ix0 ea ⟨_, rfl, _, _, rfl, rfl, ⟨by omega, by omega⟩, ?_⟩⟩
      refine ⟨_, rfl, a, _, 0, 0, rfl, rfl, ea, rfl, ?_⟩
      refine ⟨_, rfl, ?_⟩
      have m := fmod_pos (i := x) hs
      exact k _ _ m.1 m.2 (Keep.at_ (by simp)) ⟨_, _, upd_same, fdiv_nn hx hs, hy, hy2⟩
    · refine ⟨_, rfl, ix1 ea ⟨_, _, rfl, rfl, .inl ⟨by omega, by omega⟩, _, _, rfl, rfl, .inl ⟨_, rfl, _, _, rfl, rfl, (fun z => by cases z), ?_⟩⟩⟩
      refine ⟨_, rfl, a, _, 1, 1, rfl, rfl, ea, rfl, ?_⟩
      have m := fmod_pos (i := y * 69621 + 3571) (j := 2147483647) (by decide)
      refine ⟨_, rfl, .inl ⟨a, _, 1, _, rfl, rfl, SqL.of upd_same, rfl, ?_⟩⟩
      refine .inl ⟨_, rfl, _, _, rfl, rfl, ⟨by decide, by decide, by omega⟩, .inl ⟨_, rfl, _, _, rfl, rfl, (fun z => by cases z), _, _, rfl, rfl, ⟨(fun z => by cases z), (by show (13 : Int).natAbs < 1073741824; decide)⟩, .inl ⟨_, rfl, _, rfl, _, _, rfl, rfl, by omega, ?_⟩⟩⟩
      have m2 := fmod_pos (i := (((y * 69621 + 3571).fmod 2147483647) ^ (5 : Int).toNat).fmod 1000000007 |>.fdiv 13) hs
      exact k _ _ m2.1 m2.2 (Keep.at_ (by simp)) ⟨_, _, upd_same, hx, m.1, by omega⟩
end
section
variable {P : Program} {w : World} {K : PySem.W.Frag} {mg : Str → Option Value} {base : Heap}
abbrev s__law_source : Stmt := (top 20)
abbrev N__law_source : List Str := ["script", "start", "mixed", "cell", "rest"]
abbrev P__law_source : List Str := ["script", "start"]
theorem sc__law_source : FnScope N__law_source P__law_source (defScope s__law_source) := ⟨rfl, rfl, rfl, by decide +kernel, rfl, by decide +kernel, by decide +kernel⟩
theorem D_law_source (W : Cw fas fns K mg) : DefOk P w K mg base CX0 1 "_law_source" P__law_source (spSource K) := by
  refine DefOk.of W 17 18 (st := s__law_source) rfl rfl sc__law_source (fun _ _ _ _ _ _ us hl => match us, hl with | [_, _], _ => rfl) (fun vs H Q E h => ?_) (fun cdv A outer s H vs Q E hr h => ?_)
  · obtain ⟨a, ns, start, rfl, _⟩ := h
    rfl
  · obtain ⟨a, ns, start, rfl, hS, hl, hb, h0, h1, k⟩ := h
    refine ⟨_, PSs.nox (pss_cons (ps_set (i := 2) sc__law_source.nd rfl (by first | exact Or.inl rfl | exact Or.inr rfl) (pe_op op_add pe_int (pv 1))) (pss_cons (ps_for PassesOwn.never rfl (pi_list (pv 0)) (pg_name (i := 3) sc__law_source.nd rfl (by first | exact Or.inl rfl | exact Or.inr rfl)) (pss_one (ps_set (i := 2) sc__law_source.nd rfl (by first | exact Or.inl rfl | exact Or.inr rfl) (pe_op op_add (pe_op op_modN (pe_callTy call_int1 (by rfl) (W.fre 28) (by decide +kernel) (pa_cons (pe_op SM.op_powW (pe_callTy call_int1 (by rfl) (W.fre 28) (by decide +kernel) (pa_cons (pe_op op_add (pe_op op_mul (pv 2) pe_int) (pe_callTy call_int1 (by rfl) (W.fre 28) (by decide +kernel) (pa_cons (pv 3) pa_nil))) pa_nil)) pe_int) pa_nil)) pe_int) pe_int)))) (pss_cons (ps_set (i := 4) sc__law_source.nd rfl (by first | exact Or.inl rfl | exact Or.inr rfl) pe_int) (pss_cons (ps_if (PW.pt (pw_and (pt_cmpR op_lt (pv 1) (pe_callB call_len_seq (by rfl) (W.fre 30) (by decide +kernel) (pa_cons (pv 0) pa_nil)) (nomark _)) (pw_and1 (pt_cmpR op_ge (pe_ix ix_seq (pv 0) (pv 1) (fun _ _ => rfl)) (pe_op op_pow pe_int pe_int) (nomark _))))) (pss_one (ps_set (i := 4) sc__law_source.nd rfl (by first | exact Or.inl rfl | exact Or.inr rfl) (pe_op op_sub (pe_ix ix_seq (pv 0) (pv 1) (fun _ _ => rfl)) (pe_op op_pow pe_int pe_int)))) pss_nil) (pss_one (ps_ret (pe_lst (pa_cons (pv 4) (pa_cons (pv 2) pa_nil))))))))), ?_⟩
    refine ⟨_, rfl, _, _, rfl, rfl, ?_⟩
    refine ⟨_, rfl, a, rfl, ⟨_, hS⟩, for_list (K := K) (a := a) (xs := ns.map V.int) (fun i σ H' => ∃ (z : Int) (v : Option V), σ = [some (.ref a), some (.int start), some (.int z), v, none] ∧ 0 ≤ z ∧ z < 1099511627776 ∧ H' = H)
      ⟨_, none, rfl, by omega, by omega, rfl⟩ (fun i σ H' _ z => by obtain ⟨_, _, _, _, _, e⟩ := z; rw [e]; exact hS) ?_ ?_⟩
    · rintro i y σ H' hi ⟨z, v, rfl, z0, z1, rfl⟩
      obtain ⟨c, hc, rfl⟩ : ∃ c, ns[i]? = some c ∧ y = V.int c := by
        rw [List.getElem?_map] at hi
        cases e : ns[i]? with
        | none =>
          rw [e] at hi
          cases hi
        | some u =>
          rw [e] at hi
          exact ⟨u, rfl, (Option.some.inj hi).symm⟩
      have bc := hb c (List.mem_of_getElem? hc)
      have bs := bits_sum (N := 1048576) (by decide) (m := z * 50021) (c := c) (by omega) bc
      have m := fmod_pos (i := (z * 50021 + c) ^ (3 : Int).toNat) (j := 2147483563) (by decide)
      refine ⟨_, rfl, _, _, rfl, rfl, .inl ⟨by omega, by omega⟩, _, rfl, .inl ⟨_, rfl, _, _, rfl, rfl, .inl ⟨_, rfl, _, _, rfl, rfl, ⟨by decide, by decide, by omega⟩, .inl ⟨_, rfl, _, _, rfl, rfl, (fun z => by cases z), _, _, rfl, rfl, ?_⟩⟩⟩⟩
      exact ⟨_, _, rfl, by omega, by omega, rfl⟩
    · rintro σ H' ⟨z, v, rfl, z0, z1, rfl⟩
      have fin : ∀ (rest : Int), 0 ≤ rest → ∀ p, H' p = none → Q (.ref p) (upd H' p (.lst [.int rest, .int z])) := fun rest hr p hp =>
        k p _ hp (Keep.new hp) ⟨rest, z, upd_same, hr, z0, z1⟩
      refine ⟨_, rfl, _, rfl, a, _, rfl, .inl hS, _, _, rfl, rfl, _, rfl, ?_⟩
      refine ite2 (fun c => ?_) (fun c => ?_)
      · have c2 : start < ((ns.map V.int).length : Int) := of_decide_eq_true c
        rw [List.length_map] at c2
        obtain ⟨n, hn⟩ : ∃ n, ns[start.toNat]? = some n := ⟨ns[start.toNat]'(by omega), List.getElem?_eq_getElem _⟩
        have at_ : atI (ns.map V.int) start = some (V.int n) := at_of (j := start.toNat) (by omega) (by rw [List.getElem?_map, hn]; rfl)
        refine ⟨_, rfl, _, rfl, .inl ⟨a, _, start, _, rfl, rfl, hS, at_, _, _, rfl, rfl, ⟨by decide, by decide, by decide⟩, _, _, rfl, rfl, _, rfl, ?_⟩⟩
        refine ite2 (fun d => ?_) (fun d => ?_)
        · have d2 : (10 : Int) ^ (18 : Int).toNat ≤ n := of_decide_eq_true d
          refine ⟨_, rfl, _, rfl, .inl ⟨a, _, start, _, rfl, rfl, hS, at_, _, _, rfl, rfl, ⟨by decide, by decide, by decide⟩, _, _, rfl, rfl, ?_⟩⟩
          exact ⟨_, rfl, _, rfl, (by show 2 ≤ sizeLine; decide), fin _ (by omega)⟩
        · exact ⟨_, rfl, _, rfl, (by show 2 ≤ sizeLine; decide), fin 0 (by omega)⟩
      · exact ⟨_, rfl, _, rfl, (by show 2 ≤ sizeLine; decide), fin 0 (by omega)⟩
end
section
variable {P : Program} {w : World} {K : PySem.W.Frag} {mg : Str → Option Value} {base : Heap}
abbrev s__law_pick : Stmt := (top 22)
abbrev N__law_pick : List Str := ["source", "things"]
abbrev P__law_pick : List Str := ["source", "things"]
theorem sc__law_pick : FnScope N__law_pick P__law_pick (defScope s__law_pick) := ⟨rfl, rfl, rfl, by decide +kernel, rfl, by decide +kernel, by decide +kernel⟩
theorem D_law_pick (W : Cw fas fns K mg) (D_law_draw : DefOk P w K mg base CX0 1 "_law_draw" P__law_draw spDraw) : DefOk P w K mg base CX0 2 "_law_pick" P__law_pick (spPick K) := by
  refine DefOk.of W 19 20 (st := s__law_pick) rfl rfl sc__law_pick (fun _ _ _ _ _ _ us hl => match us, hl with | [_, _], _ => rfl) (fun vs H Q E h => ?_) (fun cdv A outer s H vs Q E hr h => ?_)
  · obtain ⟨a, l, xs, rfl, _⟩ := h
    rfl
  · obtain ⟨a, l, xs, rfl, hs, hx, ne, l0, l1, k⟩ := h
    refine ⟨_, PSs.nox (pss_one (ps_ret (pe_ix ix_seq (pv 1) (SM.pe_callD D_law_draw (hr.mono (by decide)) pass0 (pa_cons (pv 0) (pa_cons (pe_callB call_len_seq (by rfl) (W.fre 30) (by decide +kernel) (pa_cons (pv 1) pa_nil)) pa_nil))) (fun _ _ => rfl)))), ?_⟩
    refine ⟨_, rfl, _, rfl, _, rfl, l, xs, rfl, hx, a, _, rfl, hs, by omega, by omega, fun r H' r0 r1 kp hs' => ?_⟩
    obtain ⟨v, hv⟩ : ∃ v, xs[r.toNat]? = some v := ⟨xs[r.toNat]'(by omega), List.getElem?_eq_getElem _⟩
    have at_ : atI xs r = some v := at_of (j := r.toNat) (by omega) hv
    have nl : l ∉ [a] := by simpa using ne
    rcases hx with hx | hx
    · exact .inl ⟨l, xs, r, v, rfl, rfl, kp.seqL nl hx, at_, k _ v H' hv kp hs'⟩
    · exact .inr (.inl ⟨l, xs, r, v, rfl, rfl, kp.seqT nl hx, at_, k _ v H' hv kp hs'⟩)
end
/-! ### the error classes -/
def errs : List (Str × Str) := [("BadRegisters", "value"), ("BadLines", "value"), ("BadContent", "value"), ("BadAnswer", "value"), ("BadStop", "value"), ("BadTrouble", "value"), ("OtherPlaces", "value"), ("BadName", "value"), ("BadBridge", "value"), ("StillAmid", "content"), ("NoPlace", "place"), ("NoFile", "name"), ("Taken", "name"), ("BadLine", "position"), ("Unanswered", "position"), ("TooFar", "count"), ("BadText", "line")]
/-- the class, the field of the i-th error -/
def cE (K : PySem.W.Frag) (i : Nat) : Addr := He.ga K ((errs[i]?).getD ("", "")).1
def fE (i : Nat) : Str := ((errs[i]?).getD ("", "")).2
structure Er (K : PySem.W.Frag) (i : Nat) (x f : Str) : Prop where
  err : ErrC K (He.ga K x) (He.ma K (He.ga K x) "__init__")
  no : PySem.W.findIn K (.ref (He.ga K x)) f = some none
  up : PySem.W.kitOne K (.ref (He.ga K x)) (.ref (He.ga K "UpgradeError")) = some true
  ve : PySem.W.kitOne K (.ref (He.ga K x)) (.type "ValueError") = some true
  one : ∀ (j : Nat) (y g : Str), errs[j]? = some (y, g) → PySem.W.kitOne K (.ref (He.ga K x)) (.ref (He.ga K y)) = some (decide (i = j))
theorem errs_nd : ∀ (i j : Nat) (x f y g : Str), errs[i]? = some (x, f) → errs[j]? = some (y, g) → decide (x = y) = decide (i = j) := by
  have key : (errs.map (·.1)).Nodup := by decide +kernel
  intro i j x f y g hi hj
  by_cases e : i = j
  · subst e
    rw [hi] at hj
    cases hj
    simp
  · rw [decide_eq_false e, decide_eq_false]
    intro z
    subst z
    exact e (nd_ix key (i := i) (j := j) (x := x) (by rw [List.getElem?_map, hi]; rfl) (by rw [List.getElem?_map, hj]; rfl))
theorem er_of {K : PySem.W.Frag} (h : exB K = true) {i : Nat} {x f : Str} (hi : errs[i]? = some (x, f)) : Er K i x f := by
  have h1 := List.all_eq_true.mp (show (errs.all _) = true from h) (x, f) (List.mem_of_getElem? hi)
  obtain ⟨a1, h1⟩ := He.ba h1
  obtain ⟨a2, h1⟩ := He.ba h1
  obtain ⟨a3, h1⟩ := He.ba h1
  obtain ⟨a4, h1⟩ := He.ba h1
  refine ⟨err_ok a1, He.eqO_ok a2, of_decide_eq_true a3, of_decide_eq_true a4, fun j y g hj => ?_⟩
  have h2 := of_decide_eq_true (List.all_eq_true.mp (show (errs.all _) = true from h1) (y, g) (List.mem_of_getElem? hj))
  rw [← errs_nd i j x f y g hi hj]
  exact h2

structure InitOk (P : Program) (w : World) (K : PySem.W.Frag) (mg : Str → Option Value) (base : Heap) (x f : Str) : Prop where
  ex : ∃ fd, FnOk P w K mg base CX0 1 (He.ma K (He.ga K x) "__init__") fd ["self", f] (spErr K f) ∧ Binds K fd ["self", f] [] ∧ ∀ (s : Shared) (self u : Value), BindsTo s fd ⟨[self], [(f, u)]⟩ [("self", self), (f, u)]
  at_ : mg x = some (.ref (He.ga K x))
section
variable {P : Program} {w : World} {K : PySem.W.Frag} {mg : Str → Option Value} {base : Heap}

abbrev s_BadRegisters___init__ : Stmt := (inClass (top 2) 0)
abbrev N_BadRegisters___init__ : List Str := ["self", "value"]
abbrev P_BadRegisters___init__ : List Str := ["self", "value"]
theorem sc_BadRegisters___init__ : FnScope N_BadRegisters___init__ P_BadRegisters___init__ (defScope s_BadRegisters___init__) := ⟨rfl, rfl, rfl, by decide +kernel, rfl, by decide +kernel, by decide +kernel⟩
theorem I_BadRegisters (W : Cw fas fns K mg) : InitOk P w K mg base "BadRegisters" "value" := by
  obtain ⟨fd, F⟩ := W.says.def_ 0 (d := d_BadRegisters___init__) rfl
  refine ⟨⟨fd, FunD.ok F sc_BadRegisters___init__ (fun vs H Q E h => ?_) (fun cdv A outer s H vs Q E hr h => ?_), FunD.bindsN F (fun _ _ _ _ _ _ us hl => match us, hl with | [_, _], _ => rfl), fun s self u => ?_⟩, W.glo 1⟩
  · obtain ⟨a, C, v, rfl, _⟩ := h
    rfl
  · obtain ⟨a, C, v, rfl, T, hn, ha, k⟩ := h
    refine ⟨_, PSs.nox (pss_one (ps_ost (pv 0) (pv 1))), ?_⟩
    exact ⟨_, rfl, _, rfl, a, C, rfl, T, hn, .inl ⟨ha, fun dx n ne => k dx n ne⟩⟩
  · obtain ⟨oc, od, dV, kV, doc, pm, an, cdv, ct, osl, e, lk, hcd, hD, hK⟩ := F.ex
    rcases hD with ⟨_, z⟩ | ⟨z, _⟩
    · subst z
      subst e
      exact .of_eq rfl
    · exact absurd rfl z
abbrev s_BadLines___init__ : Stmt := (inClass (top 3) 0)
abbrev N_BadLines___init__ : List Str := ["self", "value"]
abbrev P_BadLines___init__ : List Str := ["self", "value"]
theorem sc_BadLines___init__ : FnScope N_BadLines___init__ P_BadLines___init__ (defScope s_BadLines___init__) := ⟨rfl, rfl, rfl, by decide +kernel, rfl, by decide +kernel, by decide +kernel⟩
theorem I_BadLines (W : Cw fas fns K mg) : InitOk P w K mg base "BadLines" "value" := by
  obtain ⟨fd, F⟩ := W.says.def_ 1 (d := d_BadLines___init__) rfl
  refine ⟨⟨fd, FunD.ok F sc_BadLines___init__ (fun vs H Q E h => ?_) (fun cdv A outer s H vs Q E hr h => ?_), FunD.bindsN F (fun _ _ _ _ _ _ us hl => match us, hl with | [_, _], _ => rfl), fun s self u => ?_⟩, W.glo 2⟩
  · obtain ⟨a, C, v, rfl, _⟩ := h
    rfl
  · obtain ⟨a, C, v, rfl, T, hn, ha, k⟩ := h
    refine ⟨_, PSs.nox (pss_one (ps_ost (pv 0) (pv 1))), ?_⟩
    exact ⟨_, rfl, _, rfl, a, C, rfl, T, hn, .inl ⟨ha, fun dx n ne => k dx n ne⟩⟩
  · obtain ⟨oc, od, dV, kV, doc, pm, an, cdv, ct, osl, e, lk, hcd, hD, hK⟩ := F.ex
    rcases hD with ⟨_, z⟩ | ⟨z, _⟩
    · subst z
      subst e
      exact .of_eq rfl
    · exact absurd rfl z
abbrev s_BadContent___init__ : Stmt := (inClass (top 5) 0)
abbrev N_BadContent___init__ : List Str := ["self", "value"]
abbrev P_BadContent___init__ : List Str := ["self", "value"]
theorem sc_BadContent___init__ : FnScope N_BadContent___init__ P_BadContent___init__ (defScope s_BadContent___init__) := ⟨rfl, rfl, rfl, by decide +kernel, rfl, by decide +kernel, by decide +kernel⟩
theorem I_BadContent (W : Cw fas fns K mg) : InitOk P w K mg base "BadContent" "value" := by
  obtain ⟨fd, F⟩ := W.says.def_ 3 (d := d_BadContent___init__) rfl
  refine ⟨⟨fd, FunD.ok F sc_BadContent___init__ (fun vs H Q E h => ?_) (fun cdv A outer s H vs Q E hr h => ?_), FunD.bindsN F (fun _ _ _ _ _ _ us hl => match us, hl with | [_, _], _ => rfl), fun s self u => ?_⟩, W.glo 4⟩
  · obtain ⟨a, C, v, rfl, _⟩ := h
    rfl
  · obtain ⟨a, C, v, rfl, T, hn, ha, k⟩ := h
    refine ⟨_, PSs.nox (pss_one (ps_ost (pv 0) (pv 1))), ?_⟩
    exact ⟨_, rfl, _, rfl, a, C, rfl, T, hn, .inl ⟨ha, fun dx n ne => k dx n ne⟩⟩
  · obtain ⟨oc, od, dV, kV, doc, pm, an, cdv, ct, osl, e, lk, hcd, hD, hK⟩ := F.ex
    rcases hD with ⟨_, z⟩ | ⟨z, _⟩
    · subst z
      subst e
      exact .of_eq rfl
    · exact absurd rfl z
abbrev s_BadAnswer___init__ : Stmt := (inClass (top 8) 0)
abbrev N_BadAnswer___init__ : List Str := ["self", "value"]
abbrev P_BadAnswer___init__ : List Str := ["self", "value"]
theorem sc_BadAnswer___init__ : FnScope N_BadAnswer___init__ P_BadAnswer___init__ (defScope s_BadAnswer___init__) := ⟨rfl, rfl, rfl, by decide +kernel, rfl, by decide +kernel, by decide +kernel⟩
theorem I_BadAnswer (W : Cw fas fns K mg) : InitOk P w K mg base "BadAnswer" "value" := by
  obtain ⟨fd, F⟩ := W.says.def_ 6 (d := d_BadAnswer___init__) rfl
  refine ⟨⟨fd, FunD.ok F sc_BadAnswer___init__ (fun vs H Q E h => ?_) (fun cdv A outer s H vs Q E hr h => ?_), FunD.bindsN F (fun _ _ _ _ _ _ us hl => match us, hl with | [_, _], _ => rfl), fun s self u => ?_⟩, W.glo 7⟩
  · obtain ⟨a, C, v, rfl, _⟩ := h
    rfl
  · obtain ⟨a, C, v, rfl, T, hn, ha, k⟩ := h
    refine ⟨_, PSs.nox (pss_one (ps_ost (pv 0) (pv 1))), ?_⟩
    exact ⟨_, rfl, _, rfl, a, C, rfl, T, hn, .inl ⟨ha, fun dx n ne => k dx n ne⟩⟩
  · obtain ⟨oc, od, dV, kV, doc, pm, an, cdv, ct, osl, e, lk, hcd, hD, hK⟩ := F.ex
    rcases hD with ⟨_, z⟩ | ⟨z, _⟩
    · subst z
      subst e
      exact .of_eq rfl
    · exact absurd rfl z
abbrev s_BadStop___init__ : Stmt := (inClass (top 9) 0)
abbrev N_BadStop___init__ : List Str := ["self", "value"]
abbrev P_BadStop___init__ : List Str := ["self", "value"]
theorem sc_BadStop___init__ : FnScope N_BadStop___init__ P_BadStop___init__ (defScope s_BadStop___init__) := ⟨rfl, rfl, rfl, by decide +kernel, rfl, by decide +kernel, by decide +kernel⟩
theorem I_BadStop (W : Cw fas fns K mg) : InitOk P w K mg base "BadStop" "value" := by
  obtain ⟨fd, F⟩ := W.says.def_ 7 (d := d_BadStop___init__) rfl
  refine ⟨⟨fd, FunD.ok F sc_BadStop___init__ (fun vs H Q E h => ?_) (fun cdv A outer s H vs Q E hr h => ?_), FunD.bindsN F (fun _ _ _ _ _ _ us hl => match us, hl with | [_, _], _ => rfl), fun s self u => ?_⟩, W.glo 8⟩
  · obtain ⟨a, C, v, rfl, _⟩ := h
    rfl
  · obtain ⟨a, C, v, rfl, T, hn, ha, k⟩ := h
    refine ⟨_, PSs.nox (pss_one (ps_ost (pv 0) (pv 1))), ?_⟩
    exact ⟨_, rfl, _, rfl, a, C, rfl, T, hn, .inl ⟨ha, fun dx n ne => k dx n ne⟩⟩
  · obtain ⟨oc, od, dV, kV, doc, pm, an, cdv, ct, osl, e, lk, hcd, hD, hK⟩ := F.ex
    rcases hD with ⟨_, z⟩ | ⟨z, _⟩
    · subst z
      subst e
      exact .of_eq rfl
    · exact absurd rfl z
abbrev s_BadTrouble___init__ : Stmt := (inClass (top 11) 0)
abbrev N_BadTrouble___init__ : List Str := ["self", "value"]
abbrev P_BadTrouble___init__ : List Str := ["self", "value"]
theorem sc_BadTrouble___init__ : FnScope N_BadTrouble___init__ P_BadTrouble___init__ (defScope s_BadTrouble___init__) := ⟨rfl, rfl, rfl, by decide +kernel, rfl, by decide +kernel, by decide +kernel⟩
theorem I_BadTrouble (W : Cw fas fns K mg) : InitOk P w K mg base "BadTrouble" "value" := by
  obtain ⟨fd, F⟩ := W.says.def_ 9 (d := d_BadTrouble___init__) rfl
  refine ⟨⟨fd, FunD.ok F sc_BadTrouble___init__ (fun vs H Q E h => ?_) (fun cdv A outer s H vs Q E hr h => ?_), FunD.bindsN F (fun _ _ _ _ _ _ us hl => match us, hl with | [_, _], _ => rfl), fun s self u => ?_⟩, W.glo 10⟩
  · obtain ⟨a, C, v, rfl, _⟩ := h
    rfl
  · obtain ⟨a, C, v, rfl, T, hn, ha, k⟩ := h
    refine ⟨_, PSs.nox (pss_one (ps_ost (pv 0) (pv 1))), ?_⟩
    exact ⟨_, rfl, _, rfl, a, C, rfl, T, hn, .inl ⟨ha, fun dx n ne => k dx n ne⟩⟩
  · obtain ⟨oc, od, dV, kV, doc, pm, an, cdv, ct, osl, e, lk, hcd, hD, hK⟩ := F.ex
    rcases hD with ⟨_, z⟩ | ⟨z, _⟩
    · subst z
      subst e
      exact .of_eq rfl
    · exact absurd rfl z
abbrev s_OtherPlaces___init__ : Stmt := (inClass (top 12) 0)
abbrev N_OtherPlaces___init__ : List Str := ["self", "value"]
abbrev P_OtherPlaces___init__ : List Str := ["self", "value"]
theorem sc_OtherPlaces___init__ : FnScope N_OtherPlaces___init__ P_OtherPlaces___init__ (defScope s_OtherPlaces___init__) := ⟨rfl, rfl, rfl, by decide +kernel, rfl, by decide +kernel, by decide +kernel⟩
theorem I_OtherPlaces (W : Cw fas fns K mg) : InitOk P w K mg base "OtherPlaces" "value" := by
  obtain ⟨fd, F⟩ := W.says.def_ 10 (d := d_OtherPlaces___init__) rfl
  refine ⟨⟨fd, FunD.ok F sc_OtherPlaces___init__ (fun vs H Q E h => ?_) (fun cdv A outer s H vs Q E hr h => ?_), FunD.bindsN F (fun _ _ _ _ _ _ us hl => match us, hl with | [_, _], _ => rfl), fun s self u => ?_⟩, W.glo 11⟩
  · obtain ⟨a, C, v, rfl, _⟩ := h
    rfl
  · obtain ⟨a, C, v, rfl, T, hn, ha, k⟩ := h
    refine ⟨_, PSs.nox (pss_one (ps_ost (pv 0) (pv 1))), ?_⟩
    exact ⟨_, rfl, _, rfl, a, C, rfl, T, hn, .inl ⟨ha, fun dx n ne => k dx n ne⟩⟩
  · obtain ⟨oc, od, dV, kV, doc, pm, an, cdv, ct, osl, e, lk, hcd, hD, hK⟩ := F.ex
    rcases hD with ⟨_, z⟩ | ⟨z, _⟩
    · subst z
      subst e
      exact .of_eq rfl
    · exact absurd rfl z
abbrev s_BadName___init__ : Stmt := (inClass (top 13) 0)
abbrev N_BadName___init__ : List Str := ["self", "value"]
abbrev P_BadName___init__ : List Str := ["self", "value"]
theorem sc_BadName___init__ : FnScope N_BadName___init__ P_BadName___init__ (defScope s_BadName___init__) := ⟨rfl, rfl, rfl, by decide +kernel, rfl, by decide +kernel, by decide +kernel⟩
theorem I_BadName (W : Cw fas fns K mg) : InitOk P w K mg base "BadName" "value" := by
  obtain ⟨fd, F⟩ := W.says.def_ 11 (d := d_BadName___init__) rfl
  refine ⟨⟨fd, FunD.ok F sc_BadName___init__ (fun vs H Q E h => ?_) (fun cdv A outer s H vs Q E hr h => ?_), FunD.bindsN F (fun _ _ _ _ _ _ us hl => match us, hl with | [_, _], _ => rfl), fun s self u => ?_⟩, W.glo 12⟩
  · obtain ⟨a, C, v, rfl, _⟩ := h
    rfl
  · obtain ⟨a, C, v, rfl, T, hn, ha, k⟩ := h
    refine ⟨_, PSs.nox (pss_one (ps_ost (pv 0) (pv 1))), ?_⟩
    exact ⟨_, rfl, _, rfl, a, C, rfl, T, hn, .inl ⟨ha, fun dx n ne => k dx n ne⟩⟩
  · obtain ⟨oc, od, dV, kV, doc, pm, an, cdv, ct, osl, e, lk, hcd, hD, hK⟩ := F.ex
    rcases hD with ⟨_, z⟩ | ⟨z, _⟩
    · subst z
      subst e
      exact .of_eq rfl
    · exact absurd rfl z
abbrev s_BadBridge___init__ : Stmt := (inClass (top 18) 0)
abbrev N_BadBridge___init__ : List Str := ["self", "value"]
abbrev P_BadBridge___init__ : List Str := ["self", "value"]
theorem sc_BadBridge___init__ : FnScope N_BadBridge___init__ P_BadBridge___init__ (defScope s_BadBridge___init__) := ⟨rfl, rfl, rfl, by decide +kernel, rfl, by decide +kernel, by decide +kernel⟩
theorem I_BadBridge (W : Cw fas fns K mg) : InitOk P w K mg base "BadBridge" "value" := by
  obtain ⟨fd, F⟩ := W.says.def_ 16 (d := d_BadBridge___init__) rfl
  refine ⟨⟨fd, FunD.ok F sc_BadBridge___init__ (fun vs H Q E h => ?_) (fun cdv A outer s H vs Q E hr h => ?_), FunD.bindsN F (fun _ _ _ _ _ _ us hl => match us, hl with | [_, _], _ => rfl), fun s self u => ?_⟩, W.glo 17⟩
  · obtain ⟨a, C, v, rfl, _⟩ := h
    rfl
  · obtain ⟨a, C, v, rfl, T, hn, ha, k⟩ := h
    refine ⟨_, PSs.nox (pss_one (ps_ost (pv 0) (pv 1))), ?_⟩
    exact ⟨_, rfl, _, rfl, a, C, rfl, T, hn, .inl ⟨ha, fun dx n ne => k dx n ne⟩⟩
  · obtain ⟨oc, od, dV, kV, doc, pm, an, cdv, ct, osl, e, lk, hcd, hD, hK⟩ := F.ex
    rcases hD with ⟨_, z⟩ | ⟨z, _⟩
    · subst z
      subst e
      exact .of_eq rfl
    · exact absurd rfl z
abbrev s_StillAmid___init__ : Stmt := (inClass (top 6) 0)
abbrev N_StillAmid___init__ : List Str := ["self", "content"]
abbrev P_StillAmid___init__ : List Str := ["self", "content"]
theorem sc_StillAmid___init__ : FnScope N_StillAmid___init__ P_StillAmid___init__ (defScope s_StillAmid___init__) := ⟨rfl, rfl, rfl, by decide +kernel, rfl, by decide +kernel, by decide +kernel⟩
theorem I_StillAmid (W : Cw fas fns K mg) : InitOk P w K mg base "StillAmid" "content" := by
  obtain ⟨fd, F⟩ := W.says.def_ 4 (d := d_StillAmid___init__) rfl
  refine ⟨⟨fd, FunD.ok F sc_StillAmid___init__ (fun vs H Q E h => ?_) (fun cdv A outer s H vs Q E hr h => ?_), FunD.bindsN F (fun _ _ _ _ _ _ us hl => match us, hl with | [_, _], _ => rfl), fun s self u => ?_⟩, W.glo 5⟩
  · obtain ⟨a, C, v, rfl, _⟩ := h
    rfl
  · obtain ⟨a, C, v, rfl, T, hn, ha, k⟩ := h
    refine ⟨_, PSs.nox (pss_one (ps_ost (pv 0) (pv 1))), ?_⟩
    exact ⟨_, rfl, _, rfl, a, C, rfl, T, hn, .inl ⟨ha, fun dx n ne => k dx n ne⟩⟩
  · obtain ⟨oc, od, dV, kV, doc, pm, an, cdv, ct, osl, e, lk, hcd, hD, hK⟩ := F.ex
    rcases hD with ⟨_, z⟩ | ⟨z, _⟩
    · subst z
      subst e
      exact .of_eq rfl
    · exact absurd rfl z
abbrev s_NoPlace___init__ : Stmt := (inClass (top 10) 0)
abbrev N_NoPlace___init__ : List Str := ["self", "place"]
abbrev P_NoPlace___init__ : List Str := ["self", "place"]
theorem sc_NoPlace___init__ : FnScope N_NoPlace___init__ P_NoPlace___init__ (defScope s_NoPlace___init__) := ⟨rfl, rfl, rfl, by decide +kernel, rfl, by decide +kernel, by decide +kernel⟩
theorem I_NoPlace (W : Cw fas fns K mg) : InitOk P w K mg base "NoPlace" "place" := by
  obtain ⟨fd, F⟩ := W.says.def_ 8 (d := d_NoPlace___init__) rfl
  refine ⟨⟨fd, FunD.ok F sc_NoPlace___init__ (fun vs H Q E h => ?_) (fun cdv A outer s H vs Q E hr h => ?_), FunD.bindsN F (fun _ _ _ _ _ _ us hl => match us, hl with | [_, _], _ => rfl), fun s self u => ?_⟩, W.glo 9⟩
  · obtain ⟨a, C, v, rfl, _⟩ := h
    rfl
  · obtain ⟨a, C, v, rfl, T, hn, ha, k⟩ := h
    refine ⟨_, PSs.nox (pss_one (ps_ost (pv 0) (pv 1))), ?_⟩
    exact ⟨_, rfl, _, rfl, a, C, rfl, T, hn, .inl ⟨ha, fun dx n ne => k dx n ne⟩⟩
  · obtain ⟨oc, od, dV, kV, doc, pm, an, cdv, ct, osl, e, lk, hcd, hD, hK⟩ := F.ex
    rcases hD with ⟨_, z⟩ | ⟨z, _⟩
    · subst z
      subst e
      exact .of_eq rfl
    · exact absurd rfl z
abbrev s_NoFile___init__ : Stmt := (inClass (top 14) 0)
abbrev N_NoFile___init__ : List Str := ["self", "name"]
abbrev P_NoFile___init__ : List Str := ["self", "name"]
theorem sc_NoFile___init__ : FnScope N_NoFile___init__ P_NoFile___init__ (defScope s_NoFile___init__) := ⟨rfl, rfl, rfl, by decide +kernel, rfl, by decide +kernel, by decide +kernel⟩
theorem I_NoFile (W : Cw fas fns K mg) : InitOk P w K mg base "NoFile" "name" := by
  obtain ⟨fd, F⟩ := W.says.def_ 12 (d := d_NoFile___init__) rfl
  refine ⟨⟨fd, FunD.ok F sc_NoFile___init__ (fun vs H Q E h => ?_) (fun cdv A outer s H vs Q E hr h => ?_), FunD.bindsN F (fun _ _ _ _ _ _ us hl => match us, hl with | [_, _], _ => rfl), fun s self u => ?_⟩, W.glo 13⟩
  · obtain ⟨a, C, v, rfl, _⟩ := h
    rfl
  · obtain ⟨a, C, v, rfl, T, hn, ha, k⟩ := h
    refine ⟨_, PSs.nox (pss_one (ps_ost (pv 0) (pv 1))), ?_⟩
    exact ⟨_, rfl, _, rfl, a, C, rfl, T, hn, .inl ⟨ha, fun dx n ne => k dx n ne⟩⟩
  · obtain ⟨oc, od, dV, kV, doc, pm, an, cdv, ct, osl, e, lk, hcd, hD, hK⟩ := F.ex
    rcases hD with ⟨_, z⟩ | ⟨z, _⟩
    · subst z
      subst e
      exact .of_eq rfl
    · exact absurd rfl z
abbrev s_Taken___init__ : Stmt := (inClass (top 15) 0)
abbrev N_Taken___init__ : List Str := ["self", "name"]
abbrev P_Taken___init__ : List Str := ["self", "name"]
theorem sc_Taken___init__ : FnScope N_Taken___init__ P_Taken___init__ (defScope s_Taken___init__) := ⟨rfl, rfl, rfl, by decide +kernel, rfl, by decide +kernel, by decide +kernel⟩
theorem I_Taken (W : Cw fas fns K mg) : InitOk P w K mg base "Taken" "name" := by
  obtain ⟨fd, F⟩ := W.says.def_ 13 (d := d_Taken___init__) rfl
  refine ⟨⟨fd, FunD.ok F sc_Taken___init__ (fun vs H Q E h => ?_) (fun cdv A outer s H vs Q E hr h => ?_), FunD.bindsN F (fun _ _ _ _ _ _ us hl => match us, hl with | [_, _], _ => rfl), fun s self u => ?_⟩, W.glo 14⟩
  · obtain ⟨a, C, v, rfl, _⟩ := h
    rfl
  · obtain ⟨a, C, v, rfl, T, hn, ha, k⟩ := h
    refine ⟨_, PSs.nox (pss_one (ps_ost (pv 0) (pv 1))), ?_⟩
    exact ⟨_, rfl, _, rfl, a, C, rfl, T, hn, .inl ⟨ha, fun dx n ne => k dx n ne⟩⟩
  · obtain ⟨oc, od, dV, kV, doc, pm, an, cdv, ct, osl, e, lk, hcd, hD, hK⟩ := F.ex
    rcases hD with ⟨_, z⟩ | ⟨z, _⟩
    · subst z
      subst e
      exact .of_eq rfl
    · exact absurd rfl z
abbrev s_BadLine___init__ : Stmt := (inClass (top 4) 0)
abbrev N_BadLine___init__ : List Str := ["self", "position"]
abbrev P_BadLine___init__ : List Str := ["self", "position"]
theorem sc_BadLine___init__ : FnScope N_BadLine___init__ P_BadLine___init__ (defScope s_BadLine___init__) := ⟨rfl, rfl, rfl, by decide +kernel, rfl, by decide +kernel, by decide +kernel⟩
theorem I_BadLine (W : Cw fas fns K mg) : InitOk P w K mg base "BadLine" "position" := by
  obtain ⟨fd, F⟩ := W.says.def_ 2 (d := d_BadLine___init__) rfl
  refine ⟨⟨fd, FunD.ok F sc_BadLine___init__ (fun vs H Q E h => ?_) (fun cdv A outer s H vs Q E hr h => ?_), FunD.bindsN F (fun _ _ _ _ _ _ us hl => match us, hl with | [_, _], _ => rfl), fun s self u => ?_⟩, W.glo 3⟩
  · obtain ⟨a, C, v, rfl, _⟩ := h
    rfl
  · obtain ⟨a, C, v, rfl, T, hn, ha, k⟩ := h
    refine ⟨_, PSs.nox (pss_one (ps_ost (pv 0) (pv 1))), ?_⟩
    exact ⟨_, rfl, _, rfl, a, C, rfl, T, hn, .inl ⟨ha, fun dx n ne => k dx n ne⟩⟩
  · obtain ⟨oc, od, dV, kV, doc, pm, an, cdv, ct, osl, e, lk, hcd, hD, hK⟩ := F.ex
    rcases hD with ⟨_, z⟩ | ⟨z, _⟩
    · subst z
      subst e
      exact .of_eq rfl
    · exact absurd rfl z
abbrev s_Unanswered___init__ : Stmt := (inClass (top 7) 0)
abbrev N_Unanswered___init__ : List Str := ["self", "position"]
abbrev P_Unanswered___init__ : List Str := ["self", "position"]
theorem sc_Unanswered___init__ : FnScope N_Unanswered___init__ P_Unanswered___init__ (defScope s_Unanswered___init__) := ⟨rfl, rfl, rfl, by decide +kernel, rfl, by decide +kernel, by decide +kernel⟩
theorem I_Unanswered (W : Cw fas fns K mg) : InitOk P w K mg base "Unanswered" "position" := by
  obtain ⟨fd, F⟩ := W.says.def_ 5 (d := d_Unanswered___init__) rfl
  refine ⟨⟨fd, FunD.ok F sc_Unanswered___init__ (fun vs H Q E h => ?_) (fun cdv A outer s H vs Q E hr h => ?_), FunD.bindsN F (fun _ _ _ _ _ _ us hl => match us, hl with | [_, _], _ => rfl), fun s self u => ?_⟩, W.glo 6⟩
  · obtain ⟨a, C, v, rfl, _⟩ := h
    rfl
  · obtain ⟨a, C, v, rfl, T, hn, ha, k⟩ := h
    refine ⟨_, PSs.nox (pss_one (ps_ost (pv 0) (pv 1))), ?_⟩
    exact ⟨_, rfl, _, rfl, a, C, rfl, T, hn, .inl ⟨ha, fun dx n ne => k dx n ne⟩⟩
  · obtain ⟨oc, od, dV, kV, doc, pm, an, cdv, ct, osl, e, lk, hcd, hD, hK⟩ := F.ex
    rcases hD with ⟨_, z⟩ | ⟨z, _⟩
    · subst z
      subst e
      exact .of_eq rfl
    · exact absurd rfl z
abbrev s_TooFar___init__ : Stmt := (inClass (top 16) 0)
abbrev N_TooFar___init__ : List Str := ["self", "count"]
abbrev P_TooFar___init__ : List Str := ["self", "count"]
theorem sc_TooFar___init__ : FnScope N_TooFar___init__ P_TooFar___init__ (defScope s_TooFar___init__) := ⟨rfl, rfl, rfl, by decide +kernel, rfl, by decide +kernel, by decide +kernel⟩
theorem I_TooFar (W : Cw fas fns K mg) : InitOk P w K mg base "TooFar" "count" := by
  obtain ⟨fd, F⟩ := W.says.def_ 14 (d := d_TooFar___init__) rfl
  refine ⟨⟨fd, FunD.ok F sc_TooFar___init__ (fun vs H Q E h => ?_) (fun cdv A outer s H vs Q E hr h => ?_), FunD.bindsN F (fun _ _ _ _ _ _ us hl => match us, hl with | [_, _], _ => rfl), fun s self u => ?_⟩, W.glo 15⟩
  · obtain ⟨a, C, v, rfl, _⟩ := h
    rfl
  · obtain ⟨a, C, v, rfl, T, hn, ha, k⟩ := h
    refine ⟨_, PSs.nox (pss_one (ps_ost (pv 0) (pv 1))), ?_⟩
    exact ⟨_, rfl, _, rfl, a, C, rfl, T, hn, .inl ⟨ha, fun dx n ne => k dx n ne⟩⟩
  · obtain ⟨oc, od, dV, kV, doc, pm, an, cdv, ct, osl, e, lk, hcd, hD, hK⟩ := F.ex
    rcases hD with ⟨_, z⟩ | ⟨z, _⟩
    · subst z
      subst e
      exact .of_eq rfl
    · exact absurd rfl z
abbrev s_BadText___init__ : Stmt := (inClass (top 17) 0)
abbrev N_BadText___init__ : List Str := ["self", "line"]
abbrev P_BadText___init__ : List Str := ["self", "line"]
theorem sc_BadText___init__ : FnScope N_BadText___init__ P_BadText___init__ (defScope s_BadText___init__) := ⟨rfl, rfl, rfl, by decide +kernel, rfl, by decide +kernel, by decide +kernel⟩
theorem I_BadText (W : Cw fas fns K mg) : InitOk P w K mg base "BadText" "line" := by
  obtain ⟨fd, F⟩ := W.says.def_ 15 (d := d_BadText___init__) rfl
  refine ⟨⟨fd, FunD.ok F sc_BadText___init__ (fun vs H Q E h => ?_) (fun cdv A outer s H vs Q E hr h => ?_), FunD.bindsN F (fun _ _ _ _ _ _ us hl => match us, hl with | [_, _], _ => rfl), fun s self u => ?_⟩, W.glo 16⟩
  · obtain ⟨a, C, v, rfl, _⟩ := h
    rfl
  · obtain ⟨a, C, v, rfl, T, hn, ha, k⟩ := h
    refine ⟨_, PSs.nox (pss_one (ps_ost (pv 0) (pv 1))), ?_⟩
    exact ⟨_, rfl, _, rfl, a, C, rfl, T, hn, .inl ⟨ha, fun dx n ne => k dx n ne⟩⟩
  · obtain ⟨oc, od, dV, kV, doc, pm, an, cdv, ct, osl, e, lk, hcd, hD, hK⟩ := F.ex
    rcases hD with ⟨_, z⟩ | ⟨z, _⟩
    · subst z
      subst e
      exact .of_eq rfl
    · exact absurd rfl z
end
end La
set_option Elab.async false
set_option linter.all false
set_option maxRecDepth 100000
set_option maxHeartbeats 4000000
namespace La
open PySem PySem.Spec PyProof.Rows L2 SM
/-! ### an error made, asked for its kind -/
section
variable {X : Cx} {x f : Str} {i : Nat} {e : Expr} {te : TE} {p pos kpos : Pos}
theorem pe_errI (I : InitOk X.prog X.w X.K X.mg X.base x f) (T : Er X.K i x f) (hr : Room 2 X.A) (he : PE X e te) (hg : Gl X x := by rfl) (hdb : (x == ("__debug__" : Str)) = false := by decide) (hs : starEach [e] X.env = (false, eval e X.env) :: starEach [] X.env := by rfl) (hpl : (backTo pos (starEach [] X.env)).any (·.1) = false := by rfl) :
    PE X (.Call (.Name x p) [e] [] pos) (tErr (He.ga X.K x) f te) := by
  obtain ⟨⟨fd, F, b, _⟩, g⟩ := I
  exact pe_err T.err T.no F hr b pass0 g hg he hdb hs hpl
theorem pe_errIK (I : InitOk X.prog X.w X.K X.mg X.base x f) (T : Er X.K i x f) (hr : Room 2 X.A) (he : PE X e te) (hg : Gl X x := by rfl) (hdb : (x == ("__debug__" : Str)) = false := by decide) (hall : (backToKw pos (keywordEach [⟨some f, e, kpos⟩] X.env)).all (·.1.isSome) = true := by rfl)
    (hks : (backToKw pos (keywordEach [⟨some f, e, kpos⟩] X.env)).filterMap (·.1) = [f] := by rfl) (hpl : ((backTo pos (starEach [] X.env)).any (·.1) || (backToKw pos (keywordEach [⟨some f, e, kpos⟩] X.env)).any (·.1.isNone)) = false := by rfl) :
    PE X (.Call (.Name x p) [] [⟨some f, e, kpos⟩] pos) (tErr (He.ga X.K x) f te) := by
  obtain ⟨⟨fd, F, b, bk⟩, g⟩ := I
  exact pe_errK T.err T.no F hr bk pass0 g hg he hdb hall hks hpl
end
/-- x is the i-th kind of error, holding v -/
def IsE (K : PySem.W.Frag) (H : Hp) (i : Nat) (v x : V) : Prop := ∃ c f, errs[i]? = some (c, f) ∧ ErrAt H (He.ga K c) f v x
theorem IsE.keepM {K : PySem.W.Frag} {m : List Addr} {H H' : Hp} {i : Nat} {v x : V} (h : IsE K H i v x) (k : Keep m H H') (n : ∀ b ∈ m, Mu H b) : IsE K H' i v x := by
  obtain ⟨c, f, e, h⟩ := h
  exact ⟨c, f, e, h.keep k n⟩
theorem IsE.keep {K : PySem.W.Frag} {H H' : Hp} {i : Nat} {v x : V} (h : IsE K H i v x) (k : Keep [] H H') : IsE K H' i v x := h.keepM k (fun b z => by cases z)
def row (i : Nat) : List V := (List.range 17).map fun j => V.bl (decide (i = j))
/-- behind a statement: the first n answers are held -/
def KMid (H : Hp) (x : V) (i n : Nat) (σ : L2.St) (H' : Hp) : Prop := ∃ p, σ = [some x, some (.ref p)] ∧ Keep [] H H' ∧ H' p = some (.lst ((List.range n).map fun j => V.bl (decide (i = j))))
def spKinds (K : PySem.W.Frag) : Sp := fun vs H Q _ => ∃ (i : Nat) (v x : V), vs = [x] ∧ IsE K H i v x ∧ ∀ p H', Keep [] H H' → H' p = some (.lst (row i)) → Q (.ref p) H'
section
variable {P : Program} {w : World} {K : PySem.W.Frag} {mg : Str → Option Value} {base : Heap}
abbrev s__law_kinds : Stmt := (top 23)
abbrev N__law_kinds : List Str := ["error", "found"]
abbrev P__law_kinds : List Str := ["error"]
theorem sc__law_kinds : FnScope N__law_kinds P__law_kinds (defScope s__law_kinds) := ⟨rfl, rfl, rfl, by decide +kernel, rfl, by decide +kernel, by decide +kernel⟩
theorem D_law_kinds (W : Cw fas fns K mg) (hx : exB K = true) : DefOk P w K mg base CX0 1 "_law_kinds" P__law_kinds (spKinds K) := by
  refine DefOk.of W 20 21 (st := s__law_kinds) rfl rfl sc__law_kinds (fun _ _ _ _ _ _ us hl => match us, hl with | [_], _ => rfl) (fun vs H Q E h => ?_) (fun cdv A outer s H vs Q E hr h => ?_)
  · obtain ⟨i, v, x, rfl, _⟩ := h
    rfl
  · obtain ⟨i, v, x, rfl, ⟨c, f, hi, he⟩, k⟩ := h
    have T := er_of hx hi
    refine ⟨_, PSs.nox (Evl.pss_cut (ps_set (i := 1) sc__law_kinds.nd rfl (by first | exact Or.inl rfl | exact Or.inr rfl) (pe_lst (pa_cons (pe_callB SM.call_errI (by rfl) (W.fre 29) (by decide +kernel) (pa_cons (pv 0) (pa_cons (pe_glob (v := .ref _) (by rfl) (W.glo 1) rfl) pa_nil))) (pa_cons (pe_callB SM.call_errI (by rfl) (W.fre 29) (by decide +kernel) (pa_cons (pv 0) (pa_cons (pe_glob (v := .ref _) (by rfl) (W.glo 2) rfl) pa_nil))) (pa_cons (pe_callB SM.call_errI (by rfl) (W.fre 29) (by decide +kernel) (pa_cons (pv 0) (pa_cons (pe_glob (v := .ref _) (by rfl) (W.glo 4) rfl) pa_nil))) pa_nil))))) (Evl.pss_cut (ps_set (i := 1) sc__law_kinds.nd rfl (by first | exact Or.inl rfl | exact Or.inr rfl) (pe_op op_cat (pv 1) (pe_lst (pa_cons (pe_callB SM.call_errI (by rfl) (W.fre 29) (by decide +kernel) (pa_cons (pv 0) (pa_cons (pe_glob (v := .ref _) (by rfl) (W.glo 7) rfl) pa_nil))) (pa_cons (pe_callB SM.call_errI (by rfl) (W.fre 29) (by decide +kernel) (pa_cons (pv 0) (pa_cons (pe_glob (v := .ref _) (by rfl) (W.glo 8) rfl) pa_nil))) (pa_cons (pe_callB SM.call_errI (by rfl) (W.fre 29) (by decide +kernel) (pa_cons (pv 0) (pa_cons (pe_glob (v := .ref _) (by rfl) (W.glo 10) rfl) pa_nil))) pa_nil)))))) (Evl.pss_cut (ps_set (i := 1) sc__law_kinds.nd rfl (by first | exact Or.inl rfl | exact Or.inr rfl) (pe_op op_cat (pv 1) (pe_lst (pa_cons (pe_callB SM.call_errI (by rfl) (W.fre 29) (by decide +kernel) (pa_cons (pv 0) (pa_cons (pe_glob (v := .ref _) (by rfl) (W.glo 11) rfl) pa_nil))) (pa_cons (pe_callB SM.call_errI (by rfl) (W.fre 29) (by decide +kernel) (pa_cons (pv 0) (pa_cons (pe_glob (v := .ref _) (by rfl) (W.glo 12) rfl) pa_nil))) (pa_cons (pe_callB SM.call_errI (by rfl) (W.fre 29) (by decide +kernel) (pa_cons (pv 0) (pa_cons (pe_glob (v := .ref _) (by rfl) (W.glo 17) rfl) pa_nil))) pa_nil)))))) (Evl.pss_cut (ps_set (i := 1) sc__law_kinds.nd rfl (by first | exact Or.inl rfl | exact Or.inr rfl) (pe_op op_cat (pv 1) (pe_lst (pa_cons (pe_callB SM.call_errI (by rfl) (W.fre 29) (by decide +kernel) (pa_cons (pv 0) (pa_cons (pe_glob (v := .ref _) (by rfl) (W.glo 5) rfl) pa_nil))) (pa_cons (pe_callB SM.call_errI (by rfl) (W.fre 29) (by decide +kernel) (pa_cons (pv 0) (pa_cons (pe_glob (v := .ref _) (by rfl) (W.glo 9) rfl) pa_nil))) (pa_cons (pe_callB SM.call_errI (by rfl) (W.fre 29) (by decide +kernel) (pa_cons (pv 0) (pa_cons (pe_glob (v := .ref _) (by rfl) (W.glo 13) rfl) pa_nil))) pa_nil)))))) (Evl.pss_cut (ps_set (i := 1) sc__law_kinds.nd rfl (by first | exact Or.inl rfl | exact Or.inr rfl) (pe_op op_cat (pv 1) (pe_lst (pa_cons (pe_callB SM.call_errI (by rfl) (W.fre 29) (by decide +kernel) (pa_cons (pv 0) (pa_cons (pe_glob (v := .ref _) (by rfl) (W.glo 14) rfl) pa_nil))) (pa_cons (pe_callB SM.call_errI (by rfl) (W.fre 29) (by decide +kernel) (pa_cons (pv 0) (pa_cons (pe_glob (v := .ref _) (by rfl) (W.glo 3) rfl) pa_nil))) (pa_cons (pe_callB SM.call_errI (by rfl) (W.fre 29) (by decide +kernel) (pa_cons (pv 0) (pa_cons (pe_glob (v := .ref _) (by rfl) (W.glo 6) rfl) pa_nil))) pa_nil)))))) (pss_one (ps_ret (pe_op op_cat (pv 1) (pe_lst (pa_cons (pe_callB SM.call_errI (by rfl) (W.fre 29) (by decide +kernel) (pa_cons (pv 0) (pa_cons (pe_glob (v := .ref _) (by rfl) (W.glo 15) rfl) pa_nil))) (pa_cons (pe_callB SM.call_errI (by rfl) (W.fre 29) (by decide +kernel) (pa_cons (pv 0) (pa_cons (pe_glob (v := .ref _) (by rfl) (W.glo 16) rfl) pa_nil))) pa_nil))))))))))), ?_⟩
    obtain ⟨a, dx, rfl, h0, g0⟩ := he
    refine ⟨KMid H (.ref a) i 3, ?_, ?_⟩
    · refine ⟨_, rfl, a, _, dx, _, _, _, _, rfl, h0, g0, T.err.is, (fun u r => r), T.one 0 "BadRegisters" "value" rfl, ?_⟩
      refine ⟨_, rfl, a, _, dx, _, _, _, _, rfl, h0, g0, T.err.is, (fun u r => r), T.one 1 "BadLines" "value" rfl, ?_⟩
      refine ⟨_, rfl, a, _, dx, _, _, _, _, rfl, h0, g0, T.err.is, (fun u r => r), T.one 2 "BadContent" "value" rfl, ?_⟩
      exact ⟨by show 3 ≤ sizeLine; decide, fun p hp => ⟨p, rfl, Keep.new hp, upd_same⟩⟩
    rintro σ' H' ⟨p, rfl, kp, lp⟩
    have h1 := kp.to h0
    have g1 := kp.to g0
    refine ⟨KMid H (.ref a) i 6, ?_, ?_⟩
    · refine ⟨_, rfl, ?_⟩
      refine ⟨_, rfl, a, _, dx, _, _, _, _, rfl, h1, g1, T.err.is, (fun u r => r), T.one 3 "BadAnswer" "value" rfl, ?_⟩
      refine ⟨_, rfl, a, _, dx, _, _, _, _, rfl, h1, g1, T.err.is, (fun u r => r), T.one 4 "BadStop" "value" rfl, ?_⟩
      refine ⟨_, rfl, a, _, dx, _, _, _, _, rfl, h1, g1, T.err.is, (fun u r => r), T.one 5 "BadTrouble" "value" rfl, ?_⟩
      refine ⟨by show 3 ≤ sizeLine; decide, fun q hq => ?_⟩
      refine ⟨p, q, _, _, rfl, rfl, (Keep.new (m := []) hq).to lp, upd_same, by show 6 ≤ sizeLine; decide, fun r hr => ?_⟩
      exact ⟨r, rfl, kp.trans ((Keep.new hq).trans (Keep.new hr)), upd_same⟩
    rintro σ' H' ⟨p, rfl, kp, lp⟩
    have h1 := kp.to h0
    have g1 := kp.to g0
    refine ⟨KMid H (.ref a) i 9, ?_, ?_⟩
    · refine ⟨_, rfl, ?_⟩
      refine ⟨_, rfl, a, _, dx, _, _, _, _, rfl, h1, g1, T.err.is, (fun u r => r), T.one 6 "OtherPlaces" "value" rfl, ?_⟩
      refine ⟨_, rfl, a, _, dx, _, _, _, _, rfl, h1, g1, T.err.is, (fun u r => r), T.one 7 "BadName" "value" rfl, ?_⟩
      refine ⟨_, rfl, a, _, dx, _, _, _, _, rfl, h1, g1, T.err.is, (fun u r => r), T.one 8 "BadBridge" "value" rfl, ?_⟩
      refine ⟨by show 3 ≤ sizeLine; decide, fun q hq => ?_⟩
      refine ⟨p, q, _, _, rfl, rfl, (Keep.new (m := []) hq).to lp, upd_same, by show 9 ≤ sizeLine; decide, fun r hr => ?_⟩
      exact ⟨r, rfl, kp.trans ((Keep.new hq).trans (Keep.new hr)), upd_same⟩
    rintro σ' H' ⟨p, rfl, kp, lp⟩
    have h1 := kp.to h0
    have g1 := kp.to g0
    refine ⟨KMid H (.ref a) i 12, ?_, ?_⟩
    · refine ⟨_, rfl, ?_⟩
      refine ⟨_, rfl, a, _, dx, _, _, _, _, rfl, h1, g1, T.err.is, (fun u r => r), T.one 9 "StillAmid" "content" rfl, ?_⟩
      refine ⟨_, rfl, a, _, dx, _, _, _, _, rfl, h1, g1, T.err.is, (fun u r => r), T.one 10 "NoPlace" "place" rfl, ?_⟩
      refine ⟨_, rfl, a, _, dx, _, _, _, _, rfl, h1, g1, T.err.is, (fun u r => r), T.one 11 "NoFile" "name" rfl, ?_⟩
      refine ⟨by show 3 ≤ sizeLine; decide, fun q hq => ?_⟩
      refine ⟨p, q, _, _, rfl, rfl, (Keep.new (m := []) hq).to lp, upd_same, by show 12 ≤ sizeLine; decide, fun r hr => ?_⟩
      exact ⟨r, rfl, kp.trans ((Keep.new hq).trans (Keep.new hr)), upd_same⟩
    rintro σ' H' ⟨p, rfl, kp, lp⟩
    have h1 := kp.to h0
    have g1 := kp.to g0
    refine ⟨KMid H (.ref a) i 15, ?_, ?_⟩
    · refine ⟨_, rfl, ?_⟩
      refine ⟨_, rfl, a, _, dx, _, _, _, _, rfl, h1, g1, T.err.is, (fun u r => r), T.one 12 "Taken" "name" rfl, ?_⟩
      refine ⟨_, rfl, a, _, dx, _, _, _, _, rfl, h1, g1, T.err.is, (fun u r => r), T.one 13 "BadLine" "position" rfl, ?_⟩
      refine ⟨_, rfl, a, _, dx, _, _, _, _, rfl, h1, g1, T.err.is, (fun u r => r), T.one 14 "Unanswered" "position" rfl, ?_⟩
      refine ⟨by show 3 ≤ sizeLine; decide, fun q hq => ?_⟩
      refine ⟨p, q, _, _, rfl, rfl, (Keep.new (m := []) hq).to lp, upd_same, by show 15 ≤ sizeLine; decide, fun r hr => ?_⟩
      exact ⟨r, rfl, kp.trans ((Keep.new hq).trans (Keep.new hr)), upd_same⟩
    rintro σ' H' ⟨p, rfl, kp, lp⟩
    have h1 := kp.to h0
    have g1 := kp.to g0
    refine ⟨_, rfl, ?_⟩
    refine ⟨_, rfl, a, _, dx, _, _, _, _, rfl, h1, g1, T.err.is, (fun u r => r), T.one 15 "TooFar" "count" rfl, ?_⟩
    refine ⟨_, rfl, a, _, dx, _, _, _, _, rfl, h1, g1, T.err.is, (fun u r => r), T.one 16 "BadText" "line" rfl, ?_⟩
    refine ⟨by show 2 ≤ sizeLine; decide, fun q hq => ?_⟩
    refine ⟨p, q, _, _, rfl, rfl, (Keep.new (m := []) hq).to lp, upd_same, by show 17 ≤ sizeLine; decide, fun r hr => ?_⟩
    exact k r _ (kp.trans ((Keep.new hq).trans (Keep.new hr))) upd_same
end
end La
set_option Elab.async false
set_option linter.all false
set_option maxRecDepth 100000
set_option maxHeartbeats 4000000
namespace La
open PySem PySem.Spec PyProof.Rows L2 SM
theorem Keep.err {m : List Addr} {H : Hp} {a d : Addr} {o u : HO} (na : H a = none) (nd : H d = none) : Keep m H (upd (upd H d u) a o) := fun b z _ e => by
  rw [upd_ne (ne_of_none e na), upd_ne (ne_of_none e nd)]
  exact e
theorem ErrAt.made {H : Hp} {a d C : Addr} {f : Str} {v : V} (ne : d ≠ a) : ErrAt (upd (upd H d (exd d [(f, v)])) a (exo a C (some d))) C f v (.ref a) := ⟨a, d, rfl, upd_same, (upd_ne ne).trans upd_same⟩
/-- what the j-th error holds -/
def ValE (H : Hp) (th w m : V) : Nat → V → Prop
  | 6, v => ∃ t, v = .ref t ∧ H t = some (.tup [w])
  | 9, v => v = w
  | 12, v => v = w
  | 13, v => v = m
  | 14, v => v = m
  | 15, v => v = m
  | 16, v => v = m
  | _, v => v = th
theorem ValE.keepM {l : List Addr} {H H' : Hp} {th w m : V} (k : Keep l H H') (n : ∀ b ∈ l, Mu H b) : ∀ {j : Nat} {v : V}, ValE H th w m j v → ValE H' th w m j v := by
  intro j v h
  unfold ValE at *
  split at h
  · obtain ⟨t, e, ht⟩ := h
    refine ⟨t, e, k _ _ (fun z => ?_) ht⟩
    rcases n _ z with ⟨xs, q⟩ | ⟨xs, q⟩ <;>
    · rw [q] at ht
      cases ht
  all_goals exact h
/-- errors from the i-th kind on, and what they hold -/
inductive EL (K : PySem.W.Frag) (H : Hp) (th w m : V) : Nat → List V → List V → Prop
  | nil {i : Nat} : EL K H th w m i [] []
  | cons {i : Nat} {x v : V} {xs vs : List V} : IsE K H i v x → ValE H th w m i v → EL K H th w m (i + 1) xs vs → EL K H th w m i (x :: xs) (v :: vs)
theorem EL.keepM {K : PySem.W.Frag} {l : List Addr} {H H' : Hp} {th w m : V} (k : Keep l H H') (n : ∀ b ∈ l, Mu H b) : ∀ {i : Nat} {xs vs : List V}, EL K H th w m i xs vs → EL K H' th w m i xs vs
  | _, _, _, .nil => .nil
  | _, _, _, .cons h v t => .cons (h.keepM k n) (v.keepM k n) (EL.keepM k n t)
theorem EL.keep {K : PySem.W.Frag} {H H' : Hp} {th w m : V} (k : Keep [] H H') {i : Nat} {xs vs : List V} (h : EL K H th w m i xs vs) : EL K H' th w m i xs vs := h.keepM k (fun b z => by cases z)
theorem EL.append {K : PySem.W.Frag} {H : Hp} {th w m : V} : ∀ {xs vs ys us : List V} {i : Nat}, EL K H th w m i xs vs → EL K H th w m (i + xs.length) ys us → EL K H th w m i (xs ++ ys) (vs ++ us)
  | _, _, _, _, _, .nil, h => h
  | x :: xs, _, ys, us, i, .cons h v t, z => .cons h v (EL.append t (by
      have e : i + 1 + xs.length = i + (x :: xs).length := by
        simp only [List.length_cons]
        omega
      rw [e]
      exact z))
theorem EL.length {K : PySem.W.Frag} {H : Hp} {th w m : V} : ∀ {i : Nat} {xs vs : List V}, EL K H th w m i xs vs → xs.length = vs.length
  | _, _, _, .nil => rfl
  | _, _, _, .cons _ _ t => congrArg (· + 1) t.length
theorem EL.get {K : PySem.W.Frag} {H : Hp} {th w m : V} : ∀ {i : Nat} {xs vs : List V}, EL K H th w m i xs vs → ∀ {j : Nat} {x : V}, xs[j]? = some x → ∃ v, vs[j]? = some v ∧ IsE K H (i + j) v x ∧ ValE H th w m (i + j) v
  | _, _, _, .nil, j, x, e => by simp at e
  | i, _, _, .cons h v t, 0, x, e => by
    simp at e
    subst e
    exact ⟨_, rfl, h, v⟩
  | i, _, _, .cons h v t, j + 1, x, e => by
    obtain ⟨u, e1, h1, v1⟩ := t.get (j := j) (x := x) (by simpa using e)
    have e2 : i + 1 + j = i + (j + 1) := by omega
    rw [e2] at h1 v1
    exact ⟨u, by simpa using e1, h1, v1⟩
def spMade (K : PySem.W.Frag) : Sp := fun vs H Q _ => ∃ (th : V) (w : Str) (m : Int), vs = [th, .str w, .int m] ∧ ∀ p H' xs us, H p = none → Keep [] H H' → H' p = some (.lst xs) → EL K H' th (.str w) (.int m) 0 xs us → xs.length = 17 → Q (.ref p) H'
/-- behind a statement: the first n errors are held -/
def EMid (K : PySem.W.Frag) (H : Hp) (th : V) (w : Str) (m : Int) (n : Nat) (σ : L2.St) (H' : Hp) : Prop := ∃ p xs us, σ = [some th, some (.str w), some (.int m), some (.ref p)] ∧ H p = none ∧ Keep [] H H' ∧ H' p = some (.lst xs) ∧ EL K H' th (.str w) (.int m) 0 xs us ∧ xs.length = n

section
variable {P : Program} {w : World} {K : PySem.W.Frag} {mg : Str → Option Value} {base : Heap}
abbrev s__law_by_place : Stmt := (top 24)
abbrev N__law_by_place : List Str := ["thing", "word", "many", "found"]
abbrev P__law_by_place : List Str := ["thing", "word", "many"]
theorem sc__law_by_place : FnScope N__law_by_place P__law_by_place (defScope s__law_by_place) := ⟨rfl, rfl, rfl, by decide +kernel, rfl, by decide +kernel, by decide +kernel⟩
theorem D_law_by_place (W : Cw fas fns K mg) (hx : exB K = true) : DefOk P w K mg base CX0 3 "_law_by_place" P__law_by_place (spMade K) := by
  refine DefOk.of W 21 22 (st := s__law_by_place) rfl rfl sc__law_by_place (fun _ _ _ _ _ _ us hl => match us, hl with | [_, _, _], _ => rfl) (fun vs H Q E h => ?_) (fun cdv A outer s H vs Q E hr h => ?_)
  · obtain ⟨th, wd, m, rfl, _⟩ := h
    rfl
  · obtain ⟨th, wd, m, rfl, k⟩ := h
    refine ⟨_, PSs.nox (Evl.pss_cut (ps_set (i := 3) sc__law_by_place.nd rfl (by first | exact Or.inl rfl | exact Or.inr rfl) (pe_lst (pa_cons (pe_errI (I_BadRegisters W) (er_of hx (i := 0) (x := "BadRegisters") (f := "value") rfl) (hr.mono (by decide)) (pv 0)) (pa_cons (pe_errI (I_BadLines W) (er_of hx (i := 1) (x := "BadLines") (f := "value") rfl) (hr.mono (by decide)) (pv 0)) (pa_cons (pe_errI (I_BadContent W) (er_of hx (i := 2) (x := "BadContent") (f := "value") rfl) (hr.mono (by decide)) (pv 0)) (pa_cons (pe_errI (I_BadAnswer W) (er_of hx (i := 3) (x := "BadAnswer") (f := "value") rfl) (hr.mono (by decide)) (pv 0)) (pa_cons (pe_errI (I_BadStop W) (er_of hx (i := 4) (x := "BadStop") (f := "value") rfl) (hr.mono (by decide)) (pv 0)) pa_nil))))))) (Evl.pss_cut (ps_set (i := 3) sc__law_by_place.nd rfl (by first | exact Or.inl rfl | exact Or.inr rfl) (pe_op op_cat (pv 3) (pe_lst (pa_cons (pe_errI (I_BadTrouble W) (er_of hx (i := 5) (x := "BadTrouble") (f := "value") rfl) (hr.mono (by decide)) (pv 0)) (pa_cons (pe_errI (I_OtherPlaces W) (er_of hx (i := 6) (x := "OtherPlaces") (f := "value") rfl) (hr.mono (by decide)) (pe_tup (pa_cons (pv 1) pa_nil))) (pa_cons (pe_errI (I_BadName W) (er_of hx (i := 7) (x := "BadName") (f := "value") rfl) (hr.mono (by decide)) (pv 0)) (pa_cons (pe_errI (I_BadBridge W) (er_of hx (i := 8) (x := "BadBridge") (f := "value") rfl) (hr.mono (by decide)) (pv 0)) pa_nil))))))) (Evl.pss_cut (ps_set (i := 3) sc__law_by_place.nd rfl (by first | exact Or.inl rfl | exact Or.inr rfl) (pe_op op_cat (pv 3) (pe_lst (pa_cons (pe_errI (I_StillAmid W) (er_of hx (i := 9) (x := "StillAmid") (f := "content") rfl) (hr.mono (by decide)) (pv 1)) (pa_cons (pe_errI (I_NoPlace W) (er_of hx (i := 10) (x := "NoPlace") (f := "place") rfl) (hr.mono (by decide)) (pv 0)) pa_nil))))) (pss_one (ps_ret (pe_op op_cat (pv 3) (pe_lst (pa_cons (pe_errI (I_NoFile W) (er_of hx (i := 11) (x := "NoFile") (f := "name") rfl) (hr.mono (by decide)) (pv 0)) (pa_cons (pe_errI (I_Taken W) (er_of hx (i := 12) (x := "Taken") (f := "name") rfl) (hr.mono (by decide)) (pv 1)) (pa_cons (pe_errI (I_BadLine W) (er_of hx (i := 13) (x := "BadLine") (f := "position") rfl) (hr.mono (by decide)) (pv 2)) (pa_cons (pe_errI (I_Unanswered W) (er_of hx (i := 14) (x := "Unanswered") (f := "position") rfl) (hr.mono (by decide)) (pv 2)) (pa_cons (pe_errI (I_TooFar W) (er_of hx (i := 15) (x := "TooFar") (f := "count") rfl) (hr.mono (by decide)) (pv 2)) (pa_cons (pe_errI (I_BadText W) (er_of hx (i := 16) (x := "BadText") (f := "line") rfl) (hr.mono (by decide)) (pv 2)) pa_nil))))))))))))), ?_⟩
    refine ⟨EMid K H th wd m 5, ?_, ?_⟩
    · refine ⟨_, rfl, fun a0 d0 na0 nd0 ne0 => ?_⟩
      refine ⟨_, rfl, fun a1 d1 na1 nd1 ne1 => ?_⟩
      refine ⟨_, rfl, fun a2 d2 na2 nd2 ne2 => ?_⟩
      refine ⟨_, rfl, fun a3 d3 na3 nd3 ne3 => ?_⟩
      refine ⟨_, rfl, fun a4 d4 na4 nd4 ne4 => ?_⟩
      refine ⟨by show 5 ≤ sizeLine; decide, fun p hp => ?_⟩
      exact ⟨p, _, _, rfl, Keep.free (m := []) (Keep.trans (Keep.err na0 nd0) (Keep.trans (Keep.err na1 nd1) (Keep.trans (Keep.err na2 nd2) (Keep.trans (Keep.err na3 nd3) (Keep.trans (Keep.err na4 nd4) Keep.refl))))) (by simp) hp, (Keep.trans (Keep.err na0 nd0) (Keep.trans (Keep.err na1 nd1) (Keep.trans (Keep.err na2 nd2) (Keep.trans (Keep.err na3 nd3) (Keep.trans (Keep.err na4 nd4) (Keep.new hp)))))), upd_same, (.cons ⟨"BadRegisters", "value", rfl, ErrAt.keep (m := []) (ErrAt.made ne0) (Keep.trans (Keep.err na1 nd1) (Keep.trans (Keep.err na2 nd2) (Keep.trans (Keep.err na3 nd3) (Keep.trans (Keep.err na4 nd4) (Keep.new hp))))) (fun b z => by cases z)⟩ (rfl) (.cons ⟨"BadLines", "value", rfl, ErrAt.keep (m := []) (ErrAt.made ne1) (Keep.trans (Keep.err na2 nd2) (Keep.trans (Keep.err na3 nd3) (Keep.trans (Keep.err na4 nd4) (Keep.new hp)))) (fun b z => by cases z)⟩ (rfl) (.cons ⟨"BadContent", "value", rfl, ErrAt.keep (m := []) (ErrAt.made ne2) (Keep.trans (Keep.err na3 nd3) (Keep.trans (Keep.err na4 nd4) (Keep.new hp))) (fun b z => by cases z)⟩ (rfl) (.cons ⟨"BadAnswer", "value", rfl, ErrAt.keep (m := []) (ErrAt.made ne3) (Keep.trans (Keep.err na4 nd4) (Keep.new hp)) (fun b z => by cases z)⟩ (rfl) (.cons ⟨"BadStop", "value", rfl, ErrAt.keep (m := []) (ErrAt.made ne4) (Keep.new hp) (fun b z => by cases z)⟩ (rfl) (.nil)))))), rfl⟩
    rintro σ' H' ⟨p, xs, us, rfl, p0, kp, lp, L, ln⟩
    refine ⟨EMid K H th wd m 9, ?_, ?_⟩
    · refine ⟨_, rfl, ?_⟩
      refine ⟨_, rfl, fun a5 d5 na5 nd5 ne5 => ?_⟩
      refine ⟨_, rfl, by show 1 ≤ sizeLine; decide, fun t ht a6 d6 na6 nd6 ne6 => ?_⟩
      refine ⟨_, rfl, fun a7 d7 na7 nd7 ne7 => ?_⟩
      refine ⟨_, rfl, fun a8 d8 na8 nd8 ne8 => ?_⟩
      refine ⟨by show 4 ≤ sizeLine; decide, fun q hq => ?_⟩
      refine ⟨p, q, _, _, rfl, rfl, Keep.to (m := []) (Keep.trans (Keep.err na5 nd5) (Keep.trans (Keep.new ht) (Keep.trans (Keep.err na6 nd6) (Keep.trans (Keep.err na7 nd7) (Keep.trans (Keep.err na8 nd8) (Keep.new hq)))))) lp, upd_same, by rw [ln]; show 9 ≤ sizeLine; decide, fun r hr => ?_⟩
      exact ⟨r, _, _, rfl, Keep.free (m := []) (Keep.trans kp (Keep.trans (Keep.err na5 nd5) (Keep.trans (Keep.new ht) (Keep.trans (Keep.err na6 nd6) (Keep.trans (Keep.err na7 nd7) (Keep.trans (Keep.err na8 nd8) (Keep.new hq))))))) (by simp) hr, Keep.trans kp (Keep.trans (Keep.err na5 nd5) (Keep.trans (Keep.new ht) (Keep.trans (Keep.err na6 nd6) (Keep.trans (Keep.err na7 nd7) (Keep.trans (Keep.err na8 nd8) (Keep.trans (Keep.new hq) (Keep.new hr))))))), upd_same, EL.append (EL.keep (Keep.trans (Keep.err na5 nd5) (Keep.trans (Keep.new ht) (Keep.trans (Keep.err na6 nd6) (Keep.trans (Keep.err na7 nd7) (Keep.trans (Keep.err na8 nd8) (Keep.trans (Keep.new hq) (Keep.new hr))))))) L) (by rw [ln]; exact (.cons ⟨"BadTrouble", "value", rfl, ErrAt.keep (m := []) (ErrAt.made ne5) (Keep.trans (Keep.new ht) (Keep.trans (Keep.err na6 nd6) (Keep.trans (Keep.err na7 nd7) (Keep.trans (Keep.err na8 nd8) (Keep.trans (Keep.new hq) (Keep.new hr)))))) (fun b z => by cases z)⟩ (rfl) (.cons ⟨"OtherPlaces", "value", rfl, ErrAt.keep (m := []) (ErrAt.made ne6) (Keep.trans (Keep.err na7 nd7) (Keep.trans (Keep.err na8 nd8) (Keep.trans (Keep.new hq) (Keep.new hr)))) (fun b z => by cases z)⟩ ⟨t, rfl, Keep.to (m := []) (Keep.trans (Keep.err na6 nd6) (Keep.trans (Keep.err na7 nd7) (Keep.trans (Keep.err na8 nd8) (Keep.trans (Keep.new hq) (Keep.new hr))))) (upd_same : upd _ t (.tup [_]) t = _)⟩ (.cons ⟨"BadName", "value", rfl, ErrAt.keep (m := []) (ErrAt.made ne7) (Keep.trans (Keep.err na8 nd8) (Keep.trans (Keep.new hq) (Keep.new hr))) (fun b z => by cases z)⟩ (rfl) (.cons ⟨"BadBridge", "value", rfl, ErrAt.keep (m := []) (ErrAt.made ne8) (Keep.trans (Keep.new hq) (Keep.new hr)) (fun b z => by cases z)⟩ (rfl) (.nil)))))), by rw [List.length_append, ln]; rfl⟩
    rintro σ' H' ⟨p, xs, us, rfl, p0, kp, lp, L, ln⟩
    refine ⟨EMid K H th wd m 11, ?_, ?_⟩
    · refine ⟨_, rfl, ?_⟩
      refine ⟨_, rfl, fun a9 d9 na9 nd9 ne9 => ?_⟩
      refine ⟨_, rfl, fun a10 d10 na10 nd10 ne10 => ?_⟩
      refine ⟨by show 2 ≤ sizeLine; decide, fun q hq => ?_⟩
      refine ⟨p, q, _, _, rfl, rfl, Keep.to (m := []) (Keep.trans (Keep.err na9 nd9) (Keep.trans (Keep.err na10 nd10) (Keep.new hq))) lp, upd_same, by rw [ln]; show 11 ≤ sizeLine; decide, fun r hr => ?_⟩
      exact ⟨r, _, _, rfl, Keep.free (m := []) (Keep.trans kp (Keep.trans (Keep.err na9 nd9) (Keep.trans (Keep.err na10 nd10) (Keep.new hq)))) (by simp) hr, Keep.trans kp (Keep.trans (Keep.err na9 nd9) (Keep.trans (Keep.err na10 nd10) (Keep.trans (Keep.new hq) (Keep.new hr)))), upd_same, EL.append (EL.keep (Keep.trans (Keep.err na9 nd9) (Keep.trans (Keep.err na10 nd10) (Keep.trans (Keep.new hq) (Keep.new hr)))) L) (by rw [ln]; exact (.cons ⟨"StillAmid", "content", rfl, ErrAt.keep (m := []) (ErrAt.made ne9) (Keep.trans (Keep.err na10 nd10) (Keep.trans (Keep.new hq) (Keep.new hr))) (fun b z => by cases z)⟩ (rfl) (.cons ⟨"NoPlace", "place", rfl, ErrAt.keep (m := []) (ErrAt.made ne10) (Keep.trans (Keep.new hq) (Keep.new hr)) (fun b z => by cases z)⟩ (rfl) (.nil)))), by rw [List.length_append, ln]; rfl⟩
    rintro σ' H' ⟨p, xs, us, rfl, p0, kp, lp, L, ln⟩
    refine ⟨_, rfl, ?_⟩
    refine ⟨_, rfl, fun a11 d11 na11 nd11 ne11 => ?_⟩
    refine ⟨_, rfl, fun a12 d12 na12 nd12 ne12 => ?_⟩
    refine ⟨_, rfl, fun a13 d13 na13 nd13 ne13 => ?_⟩
    refine ⟨_, rfl, fun a14 d14 na14 nd14 ne14 => ?_⟩
    refine ⟨_, rfl, fun a15 d15 na15 nd15 ne15 => ?_⟩
    refine ⟨_, rfl, fun a16 d16 na16 nd16 ne16 => ?_⟩
    refine ⟨by show 6 ≤ sizeLine; decide, fun q hq => ?_⟩
    refine ⟨p, q, _, _, rfl, rfl, Keep.to (m := []) (Keep.trans (Keep.err na11 nd11) (Keep.trans (Keep.err na12 nd12) (Keep.trans (Keep.err na13 nd13) (Keep.trans (Keep.err na14 nd14) (Keep.trans (Keep.err na15 nd15) (Keep.trans (Keep.err na16 nd16) (Keep.new hq))))))) lp, upd_same, by rw [ln]; show 17 ≤ sizeLine; decide, fun r hr => ?_⟩
    exact k r _ _ _ (Keep.free (m := []) (Keep.trans kp (Keep.trans (Keep.err na11 nd11) (Keep.trans (Keep.err na12 nd12) (Keep.trans (Keep.err na13 nd13) (Keep.trans (Keep.err na14 nd14) (Keep.trans (Keep.err na15 nd15) (Keep.trans (Keep.err na16 nd16) (Keep.new hq)))))))) (by simp) hr) (Keep.trans kp (Keep.trans (Keep.err na11 nd11) (Keep.trans (Keep.err na12 nd12) (Keep.trans (Keep.err na13 nd13) (Keep.trans (Keep.err na14 nd14) (Keep.trans (Keep.err na15 nd15) (Keep.trans (Keep.err na16 nd16) (Keep.trans (Keep.new hq) (Keep.new hr))))))))) upd_same (EL.append (EL.keep (Keep.trans (Keep.err na11 nd11) (Keep.trans (Keep.err na12 nd12) (Keep.trans (Keep.err na13 nd13) (Keep.trans (Keep.err na14 nd14) (Keep.trans (Keep.err na15 nd15) (Keep.trans (Keep.err na16 nd16) (Keep.trans (Keep.new hq) (Keep.new hr)))))))) L) (by rw [ln]; exact (.cons ⟨"NoFile", "name", rfl, ErrAt.keep (m := []) (ErrAt.made ne11) (Keep.trans (Keep.err na12 nd12) (Keep.trans (Keep.err na13 nd13) (Keep.trans (Keep.err na14 nd14) (Keep.trans (Keep.err na15 nd15) (Keep.trans (Keep.err na16 nd16) (Keep.trans (Keep.new hq) (Keep.new hr))))))) (fun b z => by cases z)⟩ (rfl) (.cons ⟨"Taken", "name", rfl, ErrAt.keep (m := []) (ErrAt.made ne12) (Keep.trans (Keep.err na13 nd13) (Keep.trans (Keep.err na14 nd14) (Keep.trans (Keep.err na15 nd15) (Keep.trans (Keep.err na16 nd16) (Keep.trans (Keep.new hq) (Keep.new hr)))))) (fun b z => by cases z)⟩ (rfl) (.cons ⟨"BadLine", "position", rfl, ErrAt.keep (m := []) (ErrAt.made ne13) (Keep.trans (Keep.err na14 nd14) (Keep.trans (Keep.err na15 nd15) (Keep.trans (Keep.err na16 nd16) (Keep.trans (Keep.new hq) (Keep.new hr))))) (fun b z => by cases z)⟩ (rfl) (.cons ⟨"Unanswered", "position", rfl, ErrAt.keep (m := []) (ErrAt.made ne14) (Keep.trans (Keep.err na15 nd15) (Keep.trans (Keep.err na16 nd16) (Keep.trans (Keep.new hq) (Keep.new hr)))) (fun b z => by cases z)⟩ (rfl) (.cons ⟨"TooFar", "count", rfl, ErrAt.keep (m := []) (ErrAt.made ne15) (Keep.trans (Keep.err na16 nd16) (Keep.trans (Keep.new hq) (Keep.new hr))) (fun b z => by cases z)⟩ (rfl) (.cons ⟨"BadText", "line", rfl, ErrAt.keep (m := []) (ErrAt.made ne16) (Keep.trans (Keep.new hq) (Keep.new hr)) (fun b z => by cases z)⟩ (rfl) (.nil))))))))) (by rw [List.length_append, ln]; rfl)
end
section
variable {P : Program} {w : World} {K : PySem.W.Frag} {mg : Str → Option Value} {base : Heap}
abbrev s__law_by_name : Stmt := (top 25)
abbrev N__law_by_name : List Str := ["thing", "word", "many", "found"]
abbrev P__law_by_name : List Str := ["thing", "word", "many"]
theorem sc__law_by_name : FnScope N__law_by_name P__law_by_name (defScope s__law_by_name) := ⟨rfl, rfl, rfl, by decide +kernel, rfl, by decide +kernel, by decide +kernel⟩
theorem D_law_by_name (W : Cw fas fns K mg) (hx : exB K = true) : DefOk P w K mg base CX0 3 "_law_by_name" P__law_by_name (spMade K) := by
  refine DefOk.of W 22 23 (st := s__law_by_name) rfl rfl sc__law_by_name (fun _ _ _ _ _ _ us hl => match us, hl with | [_, _, _], _ => rfl) (fun vs H Q E h => ?_) (fun cdv A outer s H vs Q E hr h => ?_)
  · obtain ⟨th, wd, m, rfl, _⟩ := h
    rfl
  · obtain ⟨th, wd, m, rfl, k⟩ := h
    refine ⟨_, PSs.nox (Evl.pss_cut (ps_set (i := 3) sc__law_by_name.nd rfl (by first | exact Or.inl rfl | exact Or.inr rfl) (pe_lst (pa_cons (pe_errIK (I_BadRegisters W) (er_of hx (i := 0) (x := "BadRegisters") (f := "value") rfl) (hr.mono (by decide)) (pv 0)) (pa_cons (pe_errIK (I_BadLines W) (er_of hx (i := 1) (x := "BadLines") (f := "value") rfl) (hr.mono (by decide)) (pv 0)) (pa_cons (pe_errIK (I_BadContent W) (er_of hx (i := 2) (x := "BadContent") (f := "value") rfl) (hr.mono (by decide)) (pv 0)) (pa_cons (pe_errIK (I_BadAnswer W) (er_of hx (i := 3) (x := "BadAnswer") (f := "value") rfl) (hr.mono (by decide)) (pv 0)) pa_nil)))))) (Evl.pss_cut (ps_set (i := 3) sc__law_by_name.nd rfl (by first | exact Or.inl rfl | exact Or.inr rfl) (pe_op op_cat (pv 3) (pe_lst (pa_cons (pe_errIK (I_BadStop W) (er_of hx (i := 4) (x := "BadStop") (f := "value") rfl) (hr.mono (by decide)) (pv 0)) (pa_cons (pe_errIK (I_BadTrouble W) (er_of hx (i := 5) (x := "BadTrouble") (f := "value") rfl) (hr.mono (by decide)) (pv 0)) (pa_cons (pe_errIK (I_OtherPlaces W) (er_of hx (i := 6) (x := "OtherPlaces") (f := "value") rfl) (hr.mono (by decide)) (pe_tup (pa_cons (pv 1) pa_nil))) (pa_cons (pe_errIK (I_BadName W) (er_of hx (i := 7) (x := "BadName") (f := "value") rfl) (hr.mono (by decide)) (pv 0)) pa_nil))))))) (Evl.pss_cut (ps_set (i := 3) sc__law_by_name.nd rfl (by first | exact Or.inl rfl | exact Or.inr rfl) (pe_op op_cat (pv 3) (pe_lst (pa_cons (pe_errIK (I_BadBridge W) (er_of hx (i := 8) (x := "BadBridge") (f := "value") rfl) (hr.mono (by decide)) (pv 0)) (pa_cons (pe_errIK (I_StillAmid W) (er_of hx (i := 9) (x := "StillAmid") (f := "content") rfl) (hr.mono (by decide)) (pv 1)) (pa_cons (pe_errIK (I_NoPlace W) (er_of hx (i := 10) (x := "NoPlace") (f := "place") rfl) (hr.mono (by decide)) (pv 0)) (pa_cons (pe_errIK (I_NoFile W) (er_of hx (i := 11) (x := "NoFile") (f := "name") rfl) (hr.mono (by decide)) (pv 0)) pa_nil))))))) (Evl.pss_cut (ps_expr (pe_bm PySem.F.plainAttrs_list PySem.F.slot_list_append PySem.F.type_list_append mt_append (pv 3) (pa_cons (pe_errIK (I_Taken W) (er_of hx (i := 12) (x := "Taken") (f := "name") rfl) (hr.mono (by decide)) (pv 1)) pa_nil))) (pss_one (ps_ret (pe_op op_cat (pv 3) (pe_lst (pa_cons (pe_errIK (I_BadLine W) (er_of hx (i := 13) (x := "BadLine") (f := "position") rfl) (hr.mono (by decide)) (pv 2)) (pa_cons (pe_errIK (I_Unanswered W) (er_of hx (i := 14) (x := "Unanswered") (f := "position") rfl) (hr.mono (by decide)) (pv 2)) (pa_cons (pe_errIK (I_TooFar W) (er_of hx (i := 15) (x := "TooFar") (f := "count") rfl) (hr.mono (by decide)) (pv 2)) (pa_cons (pe_errIK (I_BadText W) (er_of hx (i := 16) (x := "BadText") (f := "line") rfl) (hr.mono (by decide)) (pv 2)) pa_nil)))))))))))), ?_⟩
    refine ⟨EMid K H th wd m 4, ?_, ?_⟩
    · refine ⟨_, rfl, fun a0 d0 na0 nd0 ne0 => ?_⟩
      refine ⟨_, rfl, fun a1 d1 na1 nd1 ne1 => ?_⟩
      refine ⟨_, rfl, fun a2 d2 na2 nd2 ne2 => ?_⟩
      refine ⟨_, rfl, fun a3 d3 na3 nd3 ne3 => ?_⟩
      refine ⟨by show 4 ≤ sizeLine; decide, fun p hp => ?_⟩
      exact ⟨p, _, _, rfl, Keep.free (m := []) (Keep.trans (Keep.err na0 nd0) (Keep.trans (Keep.err na1 nd1) (Keep.trans (Keep.err na2 nd2) (Keep.trans (Keep.err na3 nd3) Keep.refl)))) (by simp) hp, (Keep.trans (Keep.err na0 nd0) (Keep.trans (Keep.err na1 nd1) (Keep.trans (Keep.err na2 nd2) (Keep.trans (Keep.err na3 nd3) (Keep.new hp))))), upd_same, (.cons ⟨"BadRegisters", "value", rfl, ErrAt.keep (m := []) (ErrAt.made ne0) (Keep.trans (Keep.err na1 nd1) (Keep.trans (Keep.err na2 nd2) (Keep.trans (Keep.err na3 nd3) (Keep.new hp)))) (fun b z => by cases z)⟩ (rfl) (.cons ⟨"BadLines", "value", rfl, ErrAt.keep (m := []) (ErrAt.made ne1) (Keep.trans (Keep.err na2 nd2) (Keep.trans (Keep.err na3 nd3) (Keep.new hp))) (fun b z => by cases z)⟩ (rfl) (.cons ⟨"BadContent", "value", rfl, ErrAt.keep (m := []) (ErrAt.made ne2) (Keep.trans (Keep.err na3 nd3) (Keep.new hp)) (fun b z => by cases z)⟩ (rfl) (.cons ⟨"BadAnswer", "value", rfl, ErrAt.keep (m := []) (ErrAt.made ne3) (Keep.new hp) (fun b z => by cases z)⟩ (rfl) (.nil))))), rfl⟩
    rintro σ' H' ⟨p, xs, us, rfl, p0, kp, lp, L, ln⟩
    refine ⟨EMid K H th wd m 8, ?_, ?_⟩
    · refine ⟨_, rfl, ?_⟩
      refine ⟨_, rfl, fun a4 d4 na4 nd4 ne4 => ?_⟩
      refine ⟨_, rfl, fun a5 d5 na5 nd5 ne5 => ?_⟩
      refine ⟨_, rfl, by show 1 ≤ sizeLine; decide, fun t ht a6 d6 na6 nd6 ne6 => ?_⟩
      refine ⟨_, rfl, fun a7 d7 na7 nd7 ne7 => ?_⟩
      refine ⟨by show 4 ≤ sizeLine; decide, fun q hq => ?_⟩
      refine ⟨p, q, _, _, rfl, rfl, Keep.to (m := []) (Keep.trans (Keep.err na4 nd4) (Keep.trans (Keep.err na5 nd5) (Keep.trans (Keep.new ht) (Keep.trans (Keep.err na6 nd6) (Keep.trans (Keep.err na7 nd7) (Keep.new hq)))))) lp, upd_same, by rw [ln]; show 8 ≤ sizeLine; decide, fun r hr => ?_⟩
      exact ⟨r, _, _, rfl, Keep.free (m := []) (Keep.trans kp (Keep.trans (Keep.err na4 nd4) (Keep.trans (Keep.err na5 nd5) (Keep.trans (Keep.new ht) (Keep.trans (Keep.err na6 nd6) (Keep.trans (Keep.err na7 nd7) (Keep.new hq))))))) (by simp) hr, Keep.trans kp (Keep.trans (Keep.err na4 nd4) (Keep.trans (Keep.err na5 nd5) (Keep.trans (Keep.new ht) (Keep.trans (Keep.err na6 nd6) (Keep.trans (Keep.err na7 nd7) (Keep.trans (Keep.new hq) (Keep.new hr))))))), upd_same, EL.append (EL.keep (Keep.trans (Keep.err na4 nd4) (Keep.trans (Keep.err na5 nd5) (Keep.trans (Keep.new ht) (Keep.trans (Keep.err na6 nd6) (Keep.trans (Keep.err na7 nd7) (Keep.trans (Keep.new hq) (Keep.new hr))))))) L) (by rw [ln]; exact (.cons ⟨"BadStop", "value", rfl, ErrAt.keep (m := []) (ErrAt.made ne4) (Keep.trans (Keep.err na5 nd5) (Keep.trans (Keep.new ht) (Keep.trans (Keep.err na6 nd6) (Keep.trans (Keep.err na7 nd7) (Keep.trans (Keep.new hq) (Keep.new hr)))))) (fun b z => by cases z)⟩ (rfl) (.cons ⟨"BadTrouble", "value", rfl, ErrAt.keep (m := []) (ErrAt.made ne5) (Keep.trans (Keep.new ht) (Keep.trans (Keep.err na6 nd6) (Keep.trans (Keep.err na7 nd7) (Keep.trans (Keep.new hq) (Keep.new hr))))) (fun b z => by cases z)⟩ (rfl) (.cons ⟨"OtherPlaces", "value", rfl, ErrAt.keep (m := []) (ErrAt.made ne6) (Keep.trans (Keep.err na7 nd7) (Keep.trans (Keep.new hq) (Keep.new hr))) (fun b z => by cases z)⟩ ⟨t, rfl, Keep.to (m := []) (Keep.trans (Keep.err na6 nd6) (Keep.trans (Keep.err na7 nd7) (Keep.trans (Keep.new hq) (Keep.new hr)))) (upd_same : upd _ t (.tup [_]) t = _)⟩ (.cons ⟨"BadName", "value", rfl, ErrAt.keep (m := []) (ErrAt.made ne7) (Keep.trans (Keep.new hq) (Keep.new hr)) (fun b z => by cases z)⟩ (rfl) (.nil)))))), by rw [List.length_append, ln]; rfl⟩
    rintro σ' H' ⟨p, xs, us, rfl, p0, kp, lp, L, ln⟩
    refine ⟨EMid K H th wd m 12, ?_, ?_⟩
    · refine ⟨_, rfl, ?_⟩
      refine ⟨_, rfl, fun a8 d8 na8 nd8 ne8 => ?_⟩
      refine ⟨_, rfl, fun a9 d9 na9 nd9 ne9 => ?_⟩
      refine ⟨_, rfl, fun a10 d10 na10 nd10 ne10 => ?_⟩
      refine ⟨_, rfl, fun a11 d11 na11 nd11 ne11 => ?_⟩
      refine ⟨by show 4 ≤ sizeLine; decide, fun q hq => ?_⟩
      refine ⟨p, q, _, _, rfl, rfl, Keep.to (m := []) (Keep.trans (Keep.err na8 nd8) (Keep.trans (Keep.err na9 nd9) (Keep.trans (Keep.err na10 nd10) (Keep.trans (Keep.err na11 nd11) (Keep.new hq))))) lp, upd_same, by rw [ln]; show 12 ≤ sizeLine; decide, fun r hr => ?_⟩
      exact ⟨r, _, _, rfl, Keep.free (m := []) (Keep.trans kp (Keep.trans (Keep.err na8 nd8) (Keep.trans (Keep.err na9 nd9) (Keep.trans (Keep.err na10 nd10) (Keep.trans (Keep.err na11 nd11) (Keep.new hq)))))) (by simp) hr, Keep.trans kp (Keep.trans (Keep.err na8 nd8) (Keep.trans (Keep.err na9 nd9) (Keep.trans (Keep.err na10 nd10) (Keep.trans (Keep.err na11 nd11) (Keep.trans (Keep.new hq) (Keep.new hr)))))), upd_same, EL.append (EL.keep (Keep.trans (Keep.err na8 nd8) (Keep.trans (Keep.err na9 nd9) (Keep.trans (Keep.err na10 nd10) (Keep.trans (Keep.err na11 nd11) (Keep.trans (Keep.new hq) (Keep.new hr)))))) L) (by rw [ln]; exact (.cons ⟨"BadBridge", "value", rfl, ErrAt.keep (m := []) (ErrAt.made ne8) (Keep.trans (Keep.err na9 nd9) (Keep.trans (Keep.err na10 nd10) (Keep.trans (Keep.err na11 nd11) (Keep.trans (Keep.new hq) (Keep.new hr))))) (fun b z => by cases z)⟩ (rfl) (.cons ⟨"StillAmid", "content", rfl, ErrAt.keep (m := []) (ErrAt.made ne9) (Keep.trans (Keep.err na10 nd10) (Keep.trans (Keep.err na11 nd11) (Keep.trans (Keep.new hq) (Keep.new hr)))) (fun b z => by cases z)⟩ (rfl) (.cons ⟨"NoPlace", "place", rfl, ErrAt.keep (m := []) (ErrAt.made ne10) (Keep.trans (Keep.err na11 nd11) (Keep.trans (Keep.new hq) (Keep.new hr))) (fun b z => by cases z)⟩ (rfl) (.cons ⟨"NoFile", "name", rfl, ErrAt.keep (m := []) (ErrAt.made ne11) (Keep.trans (Keep.new hq) (Keep.new hr)) (fun b z => by cases z)⟩ (rfl) (.nil)))))), by rw [List.length_append, ln]; rfl⟩
    rintro σ' H' ⟨p, xs, us, rfl, p0, kp, lp, L, ln⟩
    refine ⟨EMid K H th wd m 13, ?_, ?_⟩
    · refine ⟨_, rfl, .inl ⟨rfl, _, SqL.of lp⟩, ?_⟩
      refine ⟨_, rfl, fun a12 d12 na12 nd12 ne12 => ?_⟩
      refine ⟨p, xs, _, rfl, rfl, Keep.to (Keep.err (m := []) na12 nd12) lp, by rw [ln]; show 12 < sizeLine; decide, ?_⟩
      have kk := kp.trans (Keep.err (m := []) (o := exo a12 (He.ga K "Taken") (some d12)) (u := exd d12 [("name", V.str wd)]) na12 nd12)
      have lk := Keep.to (m := []) (Keep.err (m := []) (o := exo a12 (He.ga K "Taken") (some d12)) (u := exd d12 [("name", V.str wd)]) na12 nd12) lp
      have kl : ∀ {o : HO}, Keep [p] (upd (upd H' d12 (exd d12 [("name", V.str wd)])) a12 (exo a12 (He.ga K "Taken") (some d12))) (upd (upd (upd H' d12 (exd d12 [("name", V.str wd)])) a12 (exo a12 (He.ga K "Taken") (some d12))) p o) := Keep.at_ (by simp)
      have nl : ∀ b ∈ [p], Mu (upd (upd H' d12 (exd d12 [("name", V.str wd)])) a12 (exo a12 (He.ga K "Taken") (some d12))) b := fun b z => by
        rw [List.mem_singleton.mp z]
        exact .inl ⟨_, lk⟩
      refine ⟨p, _, _, rfl, p0, Keep.own kk p0, upd_same, EL.keepM kl nl (EL.append (EL.keep (Keep.err na12 nd12) L) (by rw [ln]; exact .cons ⟨"Taken", "name", rfl, ErrAt.made ne12⟩ rfl .nil)), by rw [List.length_append, ln]; rfl⟩
    rintro σ' H' ⟨p, xs, us, rfl, p0, kp, lp, L, ln⟩
    refine ⟨_, rfl, ?_⟩
    refine ⟨_, rfl, fun a13 d13 na13 nd13 ne13 => ?_⟩
    refine ⟨_, rfl, fun a14 d14 na14 nd14 ne14 => ?_⟩
    refine ⟨_, rfl, fun a15 d15 na15 nd15 ne15 => ?_⟩
    refine ⟨_, rfl, fun a16 d16 na16 nd16 ne16 => ?_⟩
    refine ⟨by show 4 ≤ sizeLine; decide, fun q hq => ?_⟩
    refine ⟨p, q, _, _, rfl, rfl, Keep.to (m := []) (Keep.trans (Keep.err na13 nd13) (Keep.trans (Keep.err na14 nd14) (Keep.trans (Keep.err na15 nd15) (Keep.trans (Keep.err na16 nd16) (Keep.new hq))))) lp, upd_same, by rw [ln]; show 17 ≤ sizeLine; decide, fun r hr => ?_⟩
    exact k r _ _ _ (Keep.free (m := []) (Keep.trans kp (Keep.trans (Keep.err na13 nd13) (Keep.trans (Keep.err na14 nd14) (Keep.trans (Keep.err na15 nd15) (Keep.trans (Keep.err na16 nd16) (Keep.new hq)))))) (by simp) hr) (Keep.trans kp (Keep.trans (Keep.err na13 nd13) (Keep.trans (Keep.err na14 nd14) (Keep.trans (Keep.err na15 nd15) (Keep.trans (Keep.err na16 nd16) (Keep.trans (Keep.new hq) (Keep.new hr))))))) upd_same (EL.append (EL.keep (Keep.trans (Keep.err na13 nd13) (Keep.trans (Keep.err na14 nd14) (Keep.trans (Keep.err na15 nd15) (Keep.trans (Keep.err na16 nd16) (Keep.trans (Keep.new hq) (Keep.new hr)))))) L) (by rw [ln]; exact (.cons ⟨"BadLine", "position", rfl, ErrAt.keep (m := []) (ErrAt.made ne13) (Keep.trans (Keep.err na14 nd14) (Keep.trans (Keep.err na15 nd15) (Keep.trans (Keep.err na16 nd16) (Keep.trans (Keep.new hq) (Keep.new hr))))) (fun b z => by cases z)⟩ (rfl) (.cons ⟨"Unanswered", "position", rfl, ErrAt.keep (m := []) (ErrAt.made ne14) (Keep.trans (Keep.err na15 nd15) (Keep.trans (Keep.err na16 nd16) (Keep.trans (Keep.new hq) (Keep.new hr)))) (fun b z => by cases z)⟩ (rfl) (.cons ⟨"TooFar", "count", rfl, ErrAt.keep (m := []) (ErrAt.made ne15) (Keep.trans (Keep.err na16 nd16) (Keep.trans (Keep.new hq) (Keep.new hr))) (fun b z => by cases z)⟩ (rfl) (.cons ⟨"BadText", "line", rfl, ErrAt.keep (m := []) (ErrAt.made ne16) (Keep.trans (Keep.new hq) (Keep.new hr)) (fun b z => by cases z)⟩ (rfl) (.nil))))))) (by rw [List.length_append, ln]; rfl)
end
end La
set_option Elab.async false
set_option linter.all false
set_option maxRecDepth 100000
set_option maxHeartbeats 4000000
namespace La
open PySem PySem.Spec PyProof.Rows L2 SM
theorem seventeen {us : List V} (h : us.length = 17) : ∃ a0 a1 a2 a3 a4 a5 a6 a7 a8 a9 a10 a11 a12 a13 a14 a15 a16, us = [a0, a1, a2, a3, a4, a5, a6, a7, a8, a9, a10, a11, a12, a13, a14, a15, a16] := by
  match us, h with
  | [a0, a1, a2, a3, a4, a5, a6, a7, a8, a9, a10, a11, a12, a13, a14, a15, a16], _ => exact ⟨a0, a1, a2, a3, a4, a5, a6, a7, a8, a9, a10, a11, a12, a13, a14, a15, a16, rfl⟩
theorem nine : ∀ j, j < 9 → (errs[j]?).map (fun e => e.2) = some ("value" : Str) := by decide +kernel
def spStored (K : PySem.W.Frag) : Sp := fun vs H Q _ => ∃ (l : Addr) (xs us : List V) (th w m : V), vs = [.ref l] ∧ H l = some (.lst xs) ∧ EL K H th w m 0 xs us ∧ xs.length = 17 ∧ ∀ p H', Keep [] H H' → H' p = some (.lst us) → Q (.ref p) H'
section
variable {P : Program} {w : World} {K : PySem.W.Frag} {mg : Str → Option Value} {base : Heap}
abbrev s__law_stored : Stmt := (top 26)
abbrev N__law_stored : List Str := ["errors", "found", "error"]
abbrev P__law_stored : List Str := ["errors"]
theorem sc__law_stored : FnScope N__law_stored P__law_stored (defScope s__law_stored) := ⟨rfl, rfl, rfl, by decide +kernel, rfl, by decide +kernel, by decide +kernel⟩
theorem D_law_stored (W : Cw fas fns K mg) (hx : exB K = true) : DefOk P w K mg base CX0 1 "_law_stored" P__law_stored (spStored K) := by
  refine DefOk.of W 23 24 (st := s__law_stored) rfl rfl sc__law_stored (fun _ _ _ _ _ _ us hl => match us, hl with | [_], _ => rfl) (fun vs H Q E h => ?_) (fun cdv A outer s H vs Q E hr h => ?_)
  · obtain ⟨l, xs, us, th, wd, m, rfl, _⟩ := h
    rfl
  · obtain ⟨l, xs, us, th, wd, m, rfl, hl, L, ln, k⟩ := h
    refine ⟨_, PSs.nox (Evl.pss_cut (ps_set (i := 1) sc__law_stored.nd rfl (by first | exact Or.inl rfl | exact Or.inr rfl) (pe_op op_cat (pe_lc (own := [("error", 2)]) (g := gName 2) (tt := tYes) (te := SM.tErrF K "value" (tVar 2)) (by rfl) sc__law_stored.nd (pi_list (pe_slice sl_list (pv 0) po_none (po_some pe_int))) (blkOk_by (own := [("error", 2)]) (N := N__law_stored) (sc := defScope s__law_stored) (by decide +kernel)) (fun _ _ _ _ _ => pg_name (i := 2) sc__law_stored.nd rfl (Or.inl rfl)) (fun _ _ _ _ _ => pts_nil) (fun _ _ _ _ _ => (SM.pe_errF (pv 2)))) (pe_lst (pa_cons (SM.pe_errF (pe_ix ix_seq (pv 0) pe_int (fun _ _ => rfl))) (pa_cons (SM.pe_errF (pe_ix ix_seq (pv 0) pe_int (fun _ _ => rfl))) (pa_cons (SM.pe_errF (pe_ix ix_seq (pv 0) pe_int (fun _ _ => rfl))) pa_nil)))))) (pss_one (ps_ret (pe_op op_cat (pv 1) (pe_lst (pa_cons (SM.pe_errF (pe_ix ix_seq (pv 0) pe_int (fun _ _ => rfl))) (pa_cons (SM.pe_errF (pe_ix ix_seq (pv 0) pe_int (fun _ _ => rfl))) (pa_cons (SM.pe_errF (pe_ix ix_seq (pv 0) pe_int (fun _ _ => rfl))) (pa_cons (SM.pe_errF (pe_ix ix_seq (pv 0) pe_int (fun _ _ => rfl))) (pa_cons (SM.pe_errF (pe_ix ix_seq (pv 0) pe_int (fun _ _ => rfl))) pa_nil)))))))))), ?_⟩
    have lu : us.length = 17 := L.length.symm.trans ln
    obtain ⟨x0, x1, x2, x3, x4, x5, x6, x7, x8, x9, x10, x11, x12, x13, x14, x15, x16, ex⟩ := seventeen ln
    obtain ⟨u0, u1, u2, u3, u4, u5, u6, u7, u8, u9, u10, u11, u12, u13, u14, u15, u16, eu⟩ := seventeen lu
    refine ⟨fun σ' H' => ∃ p, σ' = [some (.ref l), some (.ref p), none] ∧ Keep [] H H' ∧ H' p = some (.lst [u0, u1, u2, u3, u4, u5, u6, u7, u8, u9, u10, u11]), ?_, ?_⟩
    · refine ⟨_, rfl, _, rfl, l, _, rfl, SqL.of hl, fun q hq => ?_⟩
      have hcut : cutV xs none (some 9) = xs.take 9 := by
        unfold cutV
        rw [ln]
        rfl
      rw [hcut]
      refine ⟨q, rfl, ⟨_, SqL.of upd_same⟩, fun D hD => ?_⟩
      have k0 : Keep [] H (upd H q (.lst (xs.take 9))) := Keep.new hq
      refine lc_list (K := K) (a := q) (xs := xs.take 9) (fun i H' => Keep [] (upd H q (.lst (xs.take 9))) H' ∧ H' D = some (.lst (us.take i))) ⟨Keep.new hD, upd_same⟩ (fun i H' _ z => SqL.of (z.1.to upd_same)) ?_ ?_
      · rintro i x Hc hi ⟨kc, dc⟩
        have i9 : i < 9 := by
          have z := (List.getElem?_eq_some_iff.mp hi).1
          rw [List.length_take] at z
          omega
        have hi2 : xs[i]? = some x := by
          rw [List.getElem?_take, if_pos i9] at hi
          exact hi
        obtain ⟨v, hv, ⟨c, f, ef, he⟩, _⟩ := (L.keep (k0.trans kc)).get hi2
        rw [Nat.zero_add] at ef
        obtain ⟨a, dx, rfl, h1, h2⟩ := he
        have T := er_of hx ef
        have fv : f = "value" := by
          have z := nine i i9
          rw [ef] at z
          exact Option.some.inj z
        subst fv
        refine ⟨rfl, ?_⟩
        refine ⟨_, rfl, a, _, dx, _, v, rfl, h1, h2, T.err.is, T.no, by simp [List.lookup], _, dc, ?_, ?_⟩
        · rw [List.length_take]
          exact Nat.lt_of_le_of_lt (Nat.min_le_left _ _) (Nat.lt_trans i9 (by decide))
        · refine ⟨Keep.own kc hD, ?_⟩
          rw [upd_same, List.take_add_one, hv]
          rfl
      · rintro Hc ⟨kc, dc⟩
        have kk := k0.trans kc
        have L2 := L.keep kk
        have hl2 := kk.to hl
        obtain ⟨v9, hv9, ⟨c9, f9, ef9, a9, d9, ea9, h9, g9⟩, _⟩ := L2.get (j := 9) (x := x9) (by rw [ex]; rfl)
        cases ef9
        subst ea9
        have T9 := er_of hx (i := 9) (x := "StillAmid") (f := "content") rfl
        have w9 : v9 = u9 := by
          rw [eu] at hv9
          exact (Option.some.inj hv9).symm
        subst w9
        obtain ⟨v10, hv10, ⟨c10, f10, ef10, a10, d10, ea10, h10, g10⟩, _⟩ := L2.get (j := 10) (x := x10) (by rw [ex]; rfl)
        cases ef10
        subst ea10
        have T10 := er_of hx (i := 10) (x := "NoPlace") (f := "place") rfl
        have w10 : v10 = u10 := by
          rw [eu] at hv10
          exact (Option.some.inj hv10).symm
        subst w10
        obtain ⟨v11, hv11, ⟨c11, f11, ef11, a11, d11, ea11, h11, g11⟩, _⟩ := L2.get (j := 11) (x := x11) (by rw [ex]; rfl)
        cases ef11
        subst ea11
        have T11 := er_of hx (i := 11) (x := "NoFile") (f := "name") rfl
        have w11 : v11 = u11 := by
          rw [eu] at hv11
          exact (Option.some.inj hv11).symm
        subst w11
        have take9 : us.take (xs.take 9).length = [u0, u1, u2, u3, u4, u5, u6, u7, u8] := by
          rw [ex, eu]
          rfl
        rw [take9] at dc
        refine ⟨_, rfl, .inl ⟨l, _, 9, _, rfl, rfl, SqL.of hl2, at_of (j := 9) rfl (by rw [ex]; rfl), a9, _, d9, _, v9, rfl, h9, g9, T9.err.is, T9.no, by simp [List.lookup], _, rfl, .inl ⟨l, _, 10, _, rfl, rfl, SqL.of hl2, at_of (j := 10) rfl (by rw [ex]; rfl), a10, _, d10, _, v10, rfl, h10, g10, T10.err.is, T10.no, by simp [List.lookup], _, rfl, .inl ⟨l, _, 11, _, rfl, rfl, SqL.of hl2, at_of (j := 11) rfl (by rw [ex]; rfl), a11, _, d11, _, v11, rfl, h11, g11, T11.err.is, T11.no, by simp [List.lookup], by show 3 ≤ sizeLine; decide, fun r hr => ?_⟩⟩⟩⟩
        refine ⟨D, r, _, _, rfl, rfl, Keep.to (m := []) (Keep.new hr) dc, upd_same, by show 12 ≤ sizeLine; decide, fun t ht => ?_⟩
        exact ⟨t, rfl, kk.trans ((Keep.new hr).trans (Keep.new ht)), upd_same⟩
    · rintro σ' H' ⟨p, rfl, kp, lp⟩
      have L2 := L.keep kp
      have hl2 := kp.to hl
      obtain ⟨v12, hv12, ⟨c12, f12, ef12, a12, d12, ea12, h12, g12⟩, _⟩ := L2.get (j := 12) (x := x12) (by rw [ex]; rfl)
      cases ef12
      subst ea12
      have T12 := er_of hx (i := 12) (x := "Taken") (f := "name") rfl
      have w12 : v12 = u12 := by
        rw [eu] at hv12
        exact (Option.some.inj hv12).symm
      subst w12
      obtain ⟨v13, hv13, ⟨c13, f13, ef13, a13, d13, ea13, h13, g13⟩, _⟩ := L2.get (j := 13) (x := x13) (by rw [ex]; rfl)
      cases ef13
      subst ea13
      have T13 := er_of hx (i := 13) (x := "BadLine") (f := "position") rfl
      have w13 : v13 = u13 := by
        rw [eu] at hv13
        exact (Option.some.inj hv13).symm
      subst w13
      obtain ⟨v14, hv14, ⟨c14, f14, ef14, a14, d14, ea14, h14, g14⟩, _⟩ := L2.get (j := 14) (x := x14) (by rw [ex]; rfl)
      cases ef14
      subst ea14
      have T14 := er_of hx (i := 14) (x := "Unanswered") (f := "position") rfl
      have w14 : v14 = u14 := by
        rw [eu] at hv14
        exact (Option.some.inj hv14).symm
      subst w14
      obtain ⟨v15, hv15, ⟨c15, f15, ef15, a15, d15, ea15, h15, g15⟩, _⟩ := L2.get (j := 15) (x := x15) (by rw [ex]; rfl)
      cases ef15
      subst ea15
      have T15 := er_of hx (i := 15) (x := "TooFar") (f := "count") rfl
      have w15 : v15 = u15 := by
        rw [eu] at hv15
        exact (Option.some.inj hv15).symm
      subst w15
      obtain ⟨v16, hv16, ⟨c16, f16, ef16, a16, d16, ea16, h16, g16⟩, _⟩ := L2.get (j := 16) (x := x16) (by rw [ex]; rfl)
      cases ef16
      subst ea16
      have T16 := er_of hx (i := 16) (x := "BadText") (f := "line") rfl
      have w16 : v16 = u16 := by
        rw [eu] at hv16
        exact (Option.some.inj hv16).symm
      subst w16
      refine ⟨_, rfl, _, rfl, .inl ⟨l, _, 12, _, rfl, rfl, SqL.of hl2, at_of (j := 12) rfl (by rw [ex]; rfl), a12, _, d12, _, v12, rfl, h12, g12, T12.err.is, T12.no, by simp [List.lookup], _, rfl, .inl ⟨l, _, 13, _, rfl, rfl, SqL.of hl2, at_of (j := 13) rfl (by rw [ex]; rfl), a13, _, d13, _, v13, rfl, h13, g13, T13.err.is, T13.no, by simp [List.lookup], _, rfl, .inl ⟨l, _, 14, _, rfl, rfl, SqL.of hl2, at_of (j := 14) rfl (by rw [ex]; rfl), a14, _, d14, _, v14, rfl, h14, g14, T14.err.is, T14.no, by simp [List.lookup], _, rfl, .inl ⟨l, _, 15, _, rfl, rfl, SqL.of hl2, at_of (j := 15) rfl (by rw [ex]; rfl), a15, _, d15, _, v15, rfl, h15, g15, T15.err.is, T15.no, by simp [List.lookup], _, rfl, .inl ⟨l, _, 16, _, rfl, rfl, SqL.of hl2, at_of (j := 16) rfl (by rw [ex]; rfl), a16, _, d16, _, v16, rfl, h16, g16, T16.err.is, T16.no, by simp [List.lookup], by show 5 ≤ sizeLine; decide, fun r hr => ?_⟩⟩⟩⟩⟩⟩
      refine ⟨p, r, _, _, rfl, rfl, Keep.to (m := []) (Keep.new hr) lp, upd_same, by show 17 ≤ sizeLine; decide, fun t ht => ?_⟩
      refine k t _ (kp.trans ((Keep.new hr).trans (Keep.new ht))) ?_
      rw [upd_same, eu]
      rfl
end
end La
set_option Elab.async false
set_option linter.all false
set_option maxRecDepth 100000
set_option maxHeartbeats 4000000
namespace La
open PySem PySem.Spec PyProof.Rows L2 SM
/-! ### the things that are drawn -/
def zeros (n : Nat) : List PyData := List.replicate n (.int 0)
def dK : Nat → Nat → PyData
  | 0, n => .list ([.int 5] ++ zeros n)
  | 1, n => .list ([.str "a", .none] ++ zeros n)
  | 2, n => .list ([.list []] ++ zeros n)
  | _, _ => .dict [(.str "a", .int 1)]
def zV (n : Nat) : List V := List.replicate n (.int 0)
/-- th is the c-th thing, nought appended n times -/
def Thing (H : Hp) (th : Addr) : Nat → Nat → Prop
  | 0, n => H th = some (.lst ([.int 5] ++ zV n))
  | 1, n => H th = some (.lst ([.str "a", .non] ++ zV n))
  | 2, n => ∃ q, q ≠ th ∧ H q = some (.lst []) ∧ H th = some (.lst ([.ref q] ++ zV n))
  | _, _ => H th = some (.dK [(.inr "a", .int 1)])
theorem zeros_dq {K : PySem.W.Frag} {H : Hp} : ∀ n, DqAll K H (zV n) (zeros n)
  | 0 => .nil
  | n + 1 => .cons (.int 0) (zeros_dq n)
theorem thing_dq {K : PySem.W.Frag} {H : Hp} {th : Addr} : ∀ {c n : Nat}, Thing H th c n → Dq K H (.ref th) (dK c n)
  | 0, n, h => .lst (SqL.of h) (.cons (.int 5) (zeros_dq n))
  | 1, n, h => .lst (SqL.of h) (.cons (.str _) (.cons .non (zeros_dq n)))
  | 2, n, ⟨q, _, hq, h⟩ => .lst (SqL.of h) (.cons (.lst (SqL.of hq) .nil) (zeros_dq n))
  | c + 3, n, h => .dic (kvs := [(.inr "a", .int 1)]) (ds := [.int 1]) h (.cons (.int 1) .nil)
theorem thing_keep {m : List Addr} {H H' : Hp} {th : Addr} (k : Keep m H H') (n0 : th ∉ m) (n1 : ∀ q ∈ m, H q ≠ some (.lst [])) : ∀ {c n : Nat}, Thing H th c n → Thing H' th c n
  | 0, n, h => k _ _ n0 h
  | 1, n, h => k _ _ n0 h
  | 2, n, ⟨q, ne, hq, h⟩ => ⟨q, ne, k _ _ (fun z => n1 q z hq) hq, k _ _ n0 h⟩
  | c + 3, n, h => k _ _ n0 h
theorem thing_mu {H : Hp} {th : Addr} : ∀ {c n : Nat}, Thing H th c n → Mu H th
  | 0, n, h => .inl ⟨_, h⟩
  | 1, n, h => .inl ⟨_, h⟩
  | 2, n, ⟨q, ne, hq, h⟩ => .inl ⟨_, h⟩
  | c + 3, n, h => .inr ⟨_, h⟩
theorem zV_snoc (n : Nat) : zV n ++ [.int 0] = zV (n + 1) := by
  unfold zV
  rw [List.replicate_succ']
theorem thing_app {H : Hp} {th : Addr} : ∀ {c n : Nat}, c < 3 → Thing H th c n → ∃ xs, H th = some (.lst xs) ∧ xs.length ≤ n + 2 ∧ Thing (upd H th (.lst (xs ++ [.int 0]))) th c (n + 1)
  | 0, n, _, h => ⟨_, h, by rw [List.length_append]; unfold zV; rw [List.length_replicate]; show 1 + n ≤ n + 2; omega, by
    show upd _ _ _ _ = _
    rw [upd_same, List.append_assoc, zV_snoc]⟩
  | 1, n, _, h => ⟨_, h, by rw [List.length_append]; unfold zV; rw [List.length_replicate]; show 2 + n ≤ n + 2; omega, by
    show upd _ _ _ _ = _
    rw [upd_same, List.append_assoc, zV_snoc]⟩
  | 2, n, _, ⟨q, ne, hq, h⟩ => ⟨_, h, by rw [List.length_append]; unfold zV; rw [List.length_replicate]; show 1 + n ≤ n + 2; omega, q, ne, by rw [upd_ne ne]; exact hq, by rw [upd_same, List.append_assoc, zV_snoc]⟩
  | c + 3, n, z, _ => absurd z (by omega)
theorem thing_ty {K : PySem.W.Frag} {H : Hp} {th : Addr} : ∀ {c n : Nat}, Thing H th c n → ∃ t b, TyX K H (.ref th) t ∧ PySem.W.kitOne K t (.type "list") = some b ∧ (b = true → c < 3) ∧ (b = false → ∀ n', Thing H th c n')
  | 0, n, h => ⟨_, true, .base (.lst h), kit_ty (by decide +kernel), fun _ => by decide, fun z => by cases z⟩
  | 1, n, h => ⟨_, true, .base (.lst h), kit_ty (by decide +kernel), fun _ => by decide, fun z => by cases z⟩
  | 2, n, ⟨q, ne, hq, h⟩ => ⟨_, true, .base (.lst h), kit_ty (by decide +kernel), fun _ => by decide, fun z => by cases z⟩
  | c + 3, n, h => ⟨_, false, .base (.dK h), kit_ty (by decide +kernel), (fun z => by cases z), fun _ _ => h⟩
def wordsL : List Str := ["beside", "elder", "a", "conf"]
def dueL (d : PyData) (w : Str) (m : Int) : List PyData := [d, d, d, d, d, d, .tuple [.str w], d, d, .str w, d, d, .str w, .int m, .int m, .int m, .int m]
theorem all_fit : ((List.range 4).all fun c => (List.range 3).all fun n => wordsL.all fun w => (List.range 60).all fun m => fits (.list (dueL (dK c n) w (m : Int)))) = true := by decide +kernel
theorem fit_of {c n : Nat} {w : Str} {m : Int} (hc : c < 4) (hn : n < 3) (hw : w ∈ wordsL) (h0 : 0 ≤ m) (h1 : m < 60) : fits (.list (dueL (dK c n) w m)) = true := by
  have a1 := List.all_eq_true.mp all_fit c (List.mem_range.mpr hc)
  have a2 := List.all_eq_true.mp a1 n (List.mem_range.mpr hn)
  have a3 := List.all_eq_true.mp a2 w hw
  have a4 := List.all_eq_true.mp a3 m.toNat (List.mem_range.mpr (by omega))
  have e : ((m.toNat : Nat) : Int) = m := Int.toNat_of_nonneg h0
  rw [e] at a4
  exact a4
theorem DqAll.of_get {K : PySem.W.Frag} {H : Hp} : ∀ {us : List V} {ds : List PyData}, us.length = ds.length → (∀ (j : Nat) (u : V), us[j]? = some u → ∃ d, ds[j]? = some d ∧ Dq K H u d) → DqAll K H us ds
  | [], [], _, _ => .nil
  | [], _ :: _, h, _ => by cases h
  | _ :: _, [], h, _ => by cases h
  | u :: us, d :: ds, h, f => .cons (by
      obtain ⟨d', e, q⟩ := f 0 u rfl
      cases e
      exact q) (DqAll.of_get (by simpa using h) fun j v e => f (j + 1) v e)
theorem EL.getV {K : PySem.W.Frag} {H : Hp} {th w m : V} : ∀ {i : Nat} {xs vs : List V}, EL K H th w m i xs vs → ∀ {j : Nat} {v : V}, vs[j]? = some v → ValE H th w m (i + j) v
  | _, _, _, .nil, j, x, e => by simp at e
  | i, _, _, .cons h v t, 0, x, e => by
    simp at e
    subst e
    exact v
  | i, _, _, .cons h v t, j + 1, x, e => by
    have z := t.getV (j := j) (v := x) (by simpa using e)
    have e2 : i + 1 + j = i + (j + 1) := by omega
    rw [e2] at z
    exact z
theorem valE_dq {K : PySem.W.Frag} {H : Hp} {th : Addr} {w : Str} {m : Int} {d : PyData} (hd : Dq K H (.ref th) d) : ∀ j, j < 17 → ∀ u, ValE H (.ref th) (.str w) (.int m) j u → ∃ d', (dueL d w m)[j]? = some d' ∧ Dq K H u d'
  | 0, _, u, e => ⟨_, rfl, by rw [show u = _ from e]; exact hd⟩
  | 1, _, u, e => ⟨_, rfl, by rw [show u = _ from e]; exact hd⟩
  | 2, _, u, e => ⟨_, rfl, by rw [show u = _ from e]; exact hd⟩
  | 3, _, u, e => ⟨_, rfl, by rw [show u = _ from e]; exact hd⟩
  | 4, _, u, e => ⟨_, rfl, by rw [show u = _ from e]; exact hd⟩
  | 5, _, u, e => ⟨_, rfl, by rw [show u = _ from e]; exact hd⟩
  | 6, _, u, ⟨t, e, ht⟩ => ⟨_, rfl, by rw [e]; exact .tup (SqT.of ht) (.cons (.str w) .nil)⟩
  | 7, _, u, e => ⟨_, rfl, by rw [show u = _ from e]; exact hd⟩
  | 8, _, u, e => ⟨_, rfl, by rw [show u = _ from e]; exact hd⟩
  | 9, _, u, e => ⟨_, rfl, by rw [show u = _ from e]; exact .str w⟩
  | 10, _, u, e => ⟨_, rfl, by rw [show u = _ from e]; exact hd⟩
  | 11, _, u, e => ⟨_, rfl, by rw [show u = _ from e]; exact hd⟩
  | 12, _, u, e => ⟨_, rfl, by rw [show u = _ from e]; exact .str w⟩
  | 13, _, u, e => ⟨_, rfl, by rw [show u = _ from e]; exact .int m⟩
  | 14, _, u, e => ⟨_, rfl, by rw [show u = _ from e]; exact .int m⟩
  | 15, _, u, e => ⟨_, rfl, by rw [show u = _ from e]; exact .int m⟩
  | 16, _, u, e => ⟨_, rfl, by rw [show u = _ from e]; exact .int m⟩
  | j + 17, h, _, _ => absurd h (by omega)
theorem EL.data {K : PySem.W.Frag} {H : Hp} {th : Addr} {w : Str} {m : Int} {d : PyData} {xs us : List V} (L : EL K H (.ref th) (.str w) (.int m) 0 xs us) (hl : xs.length = 17) (hd : Dq K H (.ref th) d) : DqAll K H us (dueL d w m) := by
  have lu : us.length = 17 := L.length.symm.trans hl
  refine DqAll.of_get lu (fun j u e => ?_)
  have hj := (List.getElem?_eq_some_iff.mp e).1
  have z := L.getV e
  rw [Nat.zero_add] at z
  exact valE_dq hd j (by omega) u z
end La
set_option Elab.async false
set_option linter.all false
set_option maxRecDepth 100000
set_option maxHeartbeats 4000000
namespace La
open PySem PySem.Spec PyProof.Rows L2 SM
theorem row_get {i : Nat} : ∀ j, j < 17 → (row i)[j]? = some (.bl (decide (i = j))) := fun j h => by
  unfold row
  rw [List.getElem?_map, List.getElem?_range h]
  rfl
theorem row_len (i : Nat) : (row i).length = 17 := by
  unfold row
  rw [List.length_map, List.length_range]
def rowD (i n : Nat) : List PyData := (List.range n).map fun j => PyData.bool (decide (i = j))
theorem row_dp {K : PySem.W.Frag} {H : Hp} : ∀ (l : List Nat) (i : Nat), DpAll K H (l.map fun j => V.bl (decide (i = j))) (l.map fun j => PyData.bool (decide (i = j)))
  | [], _ => .nil
  | j :: l, i => .cons (.bl _) (row_dp l i)
theorem rows_same : ∀ i, i < 17 → PyData.eqv (.list (rowD i 17)) (.list (rowD i 17)) = true ∧ SeqAt.shaped (.list (rowD i 17)) = true := by
  have z : ((List.range 17).all fun i => PyData.eqv (.list (rowD i 17)) (.list (rowD i 17)) && SeqAt.shaped (.list (rowD i 17))) = true := by decide +kernel
  intro i h
  exact He.ba (List.all_eq_true.mp z i (List.mem_range.mpr h))
def spLaw (K : PySem.W.Frag) : Sp := fun vs H Q _ => ∃ (s : Addr) (ns : List Int), vs = [.ref s] ∧ SqL K H s (ns.map V.int) ∧ ns.length ≤ 63 ∧ (∀ n ∈ ns, Builtin.Int.intBits n ≤ 1048576) ∧ ∀ H', Q (.bl true) H'
section
variable {P : Program} {w : World} {K : PySem.W.Frag} {mg : Str → Option Value} {base : Heap}
abbrev s_law : Stmt := (top 27)
abbrev N_law : List Str := ["script", "start", "source", "thing", "many", "word", "errors", "at", "error", "spot", "due"]
abbrev P_law : List Str := ["script"]
theorem sc_law : FnScope N_law P_law (defScope s_law) := ⟨rfl, rfl, rfl, by decide +kernel, rfl, by decide +kernel, by decide +kernel⟩
theorem Dlaw (W : Cw fas fns K mg) (hx0 : exB K = true) (sm : Sm base) (D_law_source : DefOk P w K mg base CX0 1 "_law_source" P__law_source (spSource K)) (D_law_draw : DefOk P w K mg base CX0 1 "_law_draw" P__law_draw spDraw)
    (D_law_pick : DefOk P w K mg base CX0 2 "_law_pick" P__law_pick (spPick K)) (D_law_kinds : DefOk P w K mg base CX0 1 "_law_kinds" P__law_kinds (spKinds K)) (D_law_by_place : DefOk P w K mg base CX0 3 "_law_by_place" P__law_by_place (spMade K))
    (D_law_by_name : DefOk P w K mg base CX0 3 "_law_by_name" P__law_by_name (spMade K)) (D_law_stored : DefOk P w K mg base CX0 1 "_law_stored" P__law_stored (spStored K))
    {f : Addr} {fd : FuncData} (F : FunD K "law" "law" (defArgs s_law) (defBody s_law) (defScope s_law) [] [] f fd) : FnG P w K mg base CX0 5 f fd P_law (spLaw K) := by
  refine FnG.ofF F sc_law (fun vs H Q E h => ?_) (fun cdv B up s H vs Q E gd hr h => ?_)
  · obtain ⟨a, ns, rfl, _⟩ := h
    rfl
  · obtain ⟨a, ns, rfl, hS, hl, hb, k⟩ := h
    have hu64 := hr.units
    refine ⟨_, PSs.nox (Evl.pss_cut (ps_for PassesOwn.never rfl (pi_range1 (by rfl) (W.fre 34) (pa_cons (pe_callB (call_max2 rfl) (by rfl) (W.fre 32) (by decide +kernel) (pa_cons pe_int (pa_cons (pe_callB (call_min2 rfl) (by rfl) (W.fre 33) (by decide +kernel) (pa_cons pe_int (pa_cons (pe_callB call_len_seq (by rfl) (W.fre 30) (by decide +kernel) (pa_cons (pv 0) pa_nil)) pa_nil))) pa_nil))) pa_nil)) (pg_name (i := 1) sc_law.nd rfl (by first | exact Or.inl rfl | exact Or.inr rfl)) (Evl.pss_cut (ps_set (i := 2) sc_law.nd rfl (by first | exact Or.inl rfl | exact Or.inr rfl) (SM.pe_callD D_law_source (hr.mono (by decide)) pass0 (pa_cons (pv 0) (pa_cons (pv 1) pa_nil)))) (Evl.pss_cut (ps_par (i := 3) (j := 4) (by rfl) sc_law.nd rfl rfl (by decide) rfl rfl (pa_cons (SM.pe_callD D_law_pick (hr.mono (by decide)) pass0 (pa_cons (pv 2) (pa_cons (pe_lst (pa_cons (pe_lst (pa_cons pe_int pa_nil)) (pa_cons (pe_lst (pa_cons pe_str (pa_cons pe_non pa_nil))) (pa_cons (pe_lst (pa_cons (pe_lst pa_nil) pa_nil)) (pa_cons (pe_disp (pps_cons pe_str pe_int pps_nil) (by rfl) (by rfl) (fun z => by cases z) (by decide)) pa_nil))))) pa_nil))) (pa_cons (SM.pe_callD D_law_draw (hr.mono (by decide)) pass0 (pa_cons (pv 2) (pa_cons pe_int pa_nil))) pa_nil)) (by rfl)) (Evl.pss_cut (ps_set (i := 5) sc_law.nd rfl (by first | exact Or.inl rfl | exact Or.inr rfl) (SM.pe_callD D_law_pick (hr.mono (by decide)) pass0 (pa_cons (pv 2) (pa_cons (pe_lst (pa_cons pe_str (pa_cons pe_str (pa_cons pe_str (pa_cons pe_str pa_nil))))) pa_nil)))) (pss_one (ps_for PassesOwn.never rfl (pi_list (pe_lst (pa_cons (SM.pe_callD D_law_by_place (hr.mono (by decide)) pass0 (pa_cons (pv 3) (pa_cons (pv 5) (pa_cons (pv 4) pa_nil)))) (pa_cons (SM.pe_callD D_law_by_name (hr.mono (by decide)) pass0 (pa_cons (pv 3) (pa_cons (pv 5) (pa_cons (pv 4) pa_nil)))) pa_nil)))) (pg_name (i := 6) sc_law.nd rfl (by first | exact Or.inl rfl | exact Or.inr rfl)) (Evl.pss_cut (ps_for PassesOwn.never rfl (pi_enum (by rfl) (W.fre 27) (pa_cons (pv 6) pa_nil)) (pg_tup (by rfl) (pgs_cons (pg_name (i := 7) sc_law.nd rfl (by first | exact Or.inl rfl | exact Or.inr rfl)) (pgs_cons (pg_name (i := 8) sc_law.nd rfl (by first | exact Or.inl rfl | exact Or.inr rfl)) pgs_nil))) (Evl.pss_cut (ps_if (PW.pt (pw_or (pt_not (pt_val (pe_callB SM.call_errI (by rfl) (W.fre 29) (by decide +kernel) (pa_cons (pv 8) (pa_cons (pe_glob (v := .ref _) (by rfl) (W.glo 0) rfl) pa_nil))))) (pw_or1 (pt_not (pt_val (pe_callB SM.call_errI (by rfl) (W.fre 29) (by decide +kernel) (pa_cons (pv 8) (pa_cons (pe_bltn (v := .ty "ValueError") (by rfl) (W.fre 26) (show bootBuiltins "ValueError" = some (.type "ValueError") by decide +kernel) rfl) pa_nil)))))))) (pss_one (ps_ret pe_bl)) pss_nil) (pss_one (ps_if (pt_cmpR (op_neD hr.units) (SM.pe_callD D_law_kinds (hr.mono (by decide)) pass0 (pa_cons (pv 8) pa_nil)) (pe_lc (own := [("spot", 9)]) (g := gName 9) (tt := tYes) (by rfl) sc_law.nd (pi_range1 (by rfl) (W.fre 34) (pa_cons pe_int pa_nil)) (blkOk_by (own := [("spot", 9)]) (N := N_law) (sc := defScope s_law) (by decide +kernel)) (fun _ _ _ _ _ => pg_name (i := 9) sc_law.nd rfl (Or.inl rfl)) (fun _ _ _ _ _ => pts_nil) (fun _ _ _ _ _ => (pe_cmpR op_eq (pv 9) (pv 7) (nomark _)))) (nomark _)) (pss_one (ps_ret pe_bl)) pss_nil)))) (Evl.pss_cut (ps_if (pt_val (pe_callB call_isi (by rfl) (W.fre 29) (by decide +kernel) (pa_cons (pv 3) (pa_cons (pe_bltn (v := .ty "list") (by rfl) (W.fre 31) (show bootBuiltins "list" = some (.type "list") by decide +kernel) rfl) pa_nil)))) (pss_one (ps_expr (pe_bm PySem.F.plainAttrs_list PySem.F.slot_list_append PySem.F.type_list_append mt_append (pv 3) (pa_cons pe_int pa_nil)))) pss_nil) (Evl.pss_cut (ps_set (i := 10) sc_law.nd rfl (by first | exact Or.inl rfl | exact Or.inr rfl) (pe_op op_cat (pe_op op_cat (pe_op op_rep (pe_lst (pa_cons (pv 3) pa_nil)) pe_int) (pe_lst (pa_cons (pe_tup (pa_cons (pv 5) pa_nil)) (pa_cons (pv 3) (pa_cons (pv 3) (pa_cons (pv 5) (pa_cons (pv 3) (pa_cons (pv 3) (pa_cons (pv 5) pa_nil))))))))) (pe_op op_rep (pe_lst (pa_cons (pv 4) pa_nil)) pe_int))) (pss_one (ps_if (pt_cmpR op_ne (pe_callB (SM.call_repr sm gd hu64) (by rfl) (W.fre 35) (by decide +kernel) (pa_cons (SM.pe_callD D_law_stored (hr.mono (by decide)) pass0 (pa_cons (pv 6) pa_nil)) pa_nil)) (pe_callB (SM.call_repr sm gd hu64) (by rfl) (W.fre 35) (by decide +kernel) (pa_cons (pv 10) pa_nil)) (nomark _)) (pss_one (ps_ret pe_bl)) pss_nil))))))))))) (pss_one (ps_ret pe_bl))), ?_⟩
    refine ⟨fun _ _ => True, ?_, fun σ' H' _ => k H'⟩
    have bound : ∀ z : Int, (if (if z < 4 then z else 4) > 1 then (if z < 4 then z else 4) else 1) ≤ 4 ∧ 1 ≤ (if (if z < 4 then z else 4) > 1 then (if z < 4 then z else 4) else 1) := fun z => by
      split <;> split <;> omega
    have bd := bound ((ns.map V.int).length : Int)
    refine ⟨_, rfl, a, _, rfl, .inl hS, _, _, rfl, _, _, rfl, _, rfl, by omega, by omega, for_range (lo := 0) (fun _ σ H' => ∃ b1 b2 b3 b4 b5 b6 b7 b8 b9 b10, σ = [some (.ref a), b1, b2, b3, b4, b5, b6, b7, b8, b9, b10] ∧ Keep [] H H')
      ⟨_, _, _, _, _, _, _, _, _, _, rfl, Keep.refl⟩ ?_ (fun _ _ _ => trivial)⟩
    rintro i σ H0 hi ⟨b1, b2, b3, b4, b5, b6, b7, b8, b9, b10, rfl, kH⟩
    have hS0 := kH.seqL (by simp) hS
    -- source = _law_source(script, start)
    refine ⟨fun σ' H' => ∃ p, σ' = [some (.ref a), some (.int (0 + (i : Int))), some (.ref p), b3, b4, b5, b6, b7, b8, b9, b10] ∧ H0 p = none ∧ Keep [] H0 H' ∧ Src H' p, ?_, ?_⟩
    · refine ⟨_, rfl, _, rfl, a, ns, _, rfl, hS0, hl, hb, by omega, by omega, fun p H' np kp sp => ?_⟩
      exact ⟨p, rfl, np, kp, sp⟩
    rintro σ' H1 ⟨p, rfl, np, k1, s1⟩
    -- thing, many
    refine ⟨fun σ' H' => ∃ th c m, σ' = [some (.ref a), some (.int (0 + (i : Int))), some (.ref p), some (.ref th), some (.int m), b5, b6, b7, b8, b9, b10] ∧ c < 4 ∧ Thing H' th c 0 ∧ H0 th = none ∧ th ≠ p ∧ 0 ≤ m ∧ m < 60 ∧ Keep [] H0 H' ∧ Src H' p, ?_, ?_⟩
    · obtain ⟨x0, y0, ep, _⟩ := id s1
      have one : (1 : Nat) ≤ sizeLine := by decide
      refine ⟨_, rfl, (by show 1 ≤ sizeLine; decide), fun q1 n1 => ⟨(by show 2 ≤ sizeLine; decide), fun q2 n2 => ⟨(by show 0 ≤ sizeLine; decide), fun q3 n3 => ⟨(by show 1 ≤ sizeLine; decide), fun q4 n4 q5 n5 => ?_⟩⟩⟩⟩
      refine ⟨upd_same, [(.inr "a", .int 1)], rfl, by decide, (by show 4 ≤ sizeLine; decide), fun q6 n6 => ?_⟩
      have k5 := Keep.pin (m := []) (Keep.own (Keep.new n5) n5) n6
      have k4 := (Keep.new (m := []) n4).trans k5
      have k3 := (Keep.new (m := []) n3).trans k4
      have k2 := (Keep.new (m := []) n2).trans k3
      have k1' := (Keep.new (m := []) n1).trans k2
      have fp := k1'.to ep
      have f1 := Keep.pinTo k2 (upd_same : upd H1 q1 _ q1 = _) n6
      have f2 := Keep.pinTo k3 (upd_same : upd _ q2 _ q2 = _) n6
      have f3 := Keep.pinTo k4 (upd_same : upd _ q3 _ q3 = _) n6
      have f4 := Keep.pinTo k5 (upd_same : upd _ q4 _ q4 = _) n6
      have n34 : q3 ≠ q4 := ne_of f3 f4 (by intro z; cases z)
      have pq1 : q1 ≠ p := ne_of f1 fp (by intro z; cases z)
      have pq2 : q2 ≠ p := ne_of f2 fp (by intro z; cases z)
      have pq3 : q3 ≠ p := ne_of f3 fp (by intro z; cases z)
      have pq4 : q4 ≠ p := ne_of f4 fp (by intro z; cases z)
      have f5 := Keep.pinTo Keep.refl (upd_same : upd _ q5 (.dK (mergeK [] [(.inr "a", .int 1)])) q5 = _) n6
      have pq5 : q5 ≠ p := ne_of f5 fp (by intro z; cases z)
      have n6p : q6 ≠ p := (ne_of_none fp n6).symm
      refine ⟨p, q6, [.ref q1, .ref q2, .ref q4, .ref q5], rfl, s1.keep (k1'.trans (Keep.new n6)) (by simp), .inl (SqL.of upd_same), n6p, (by show 0 < 4; decide), (by show 4 < 100000; decide), fun j v H' hv kp sp => ?_⟩
      have kq := (Keep.new (m := [p]) n6).trans kp
      have np' : ∀ {q : Addr}, q ≠ p → q ∉ [p] := fun {q} h z => h (List.mem_singleton.mp z)
      obtain ⟨th, c, rfl, hc, ht, h0, ne⟩ : ∃ th c, v = .ref th ∧ c < 4 ∧ Thing H' th c 0 ∧ H0 th = none ∧ th ≠ p := by
        match j, hv with
        | 0, hv => exact ⟨q1, 0, (Option.some.inj hv).symm, by decide, kq _ _ (np' pq1) f1, k1.free (by simp) n1, pq1⟩
        | 1, hv => exact ⟨q2, 1, (Option.some.inj hv).symm, by decide, kq _ _ (np' pq2) f2, (k1.trans (Keep.new n1)).free (by simp) n2, pq2⟩
        | 2, hv => exact ⟨q4, 2, (Option.some.inj hv).symm, by decide, ⟨q3, n34, kq _ _ (np' pq3) f3, kq _ _ (np' pq4) f4⟩, (k1.trans ((Keep.new n1).trans ((Keep.new n2).trans (Keep.new n3)))).free (by simp) n4, pq4⟩
        | 3, hv => exact ⟨q5, 3, (Option.some.inj hv).symm, by decide, kq _ _ (np' pq5) f5, (k1.trans ((Keep.new n1).trans ((Keep.new n2).trans ((Keep.new n3).trans (Keep.new n4))))).free (by simp) n5, pq5⟩
        | j + 4, hv => simp at hv
      refine ⟨_, rfl, p, 60, rfl, sp, by decide, by decide, fun r H'' r0 r1 kp2 sp2 => ?_⟩
      obtain ⟨x1, y1, ep1, _⟩ := id sp
      refine ⟨.ref th, .int r, rfl, th, c, r, rfl, hc, thing_keep kp2 (np' ne) (fun q z e => ?_) ht, h0, ne, r0, r1, ?_, sp2⟩
      · rw [List.mem_singleton.mp z, ep1] at e
        cases e
      · exact k1.offNew ((Keep.of_nil k1').trans (kq.trans kp2)) np
    rintro σ' H2 ⟨th, c, m, rfl, hc, ht, h0, ne, m0, m1, k2, s2⟩
    -- word
    refine ⟨fun σ' H' => ∃ wd, σ' = [some (.ref a), some (.int (0 + (i : Int))), some (.ref p), some (.ref th), some (.int m), some (.str wd), b6, b7, b8, b9, b10] ∧ wd ∈ wordsL ∧ Thing H' th c 0 ∧ Keep [] H0 H', ?_, ?_⟩
    · obtain ⟨x0, y0, ep, _⟩ := id s2
      refine ⟨_, rfl, (by show 4 ≤ sizeLine; decide), fun q nq => ?_⟩
      refine ⟨p, q, _, rfl, s2.keep (Keep.new (m := []) nq) (by simp), .inl (SqL.of upd_same), (ne_of_none ep nq).symm, (by show 0 < 4; decide), (by show 4 < 100000; decide), fun j v H' hv kp sp => ?_⟩
      have t1 : Thing H' th c 0 := thing_keep kp (fun z => ne (List.mem_singleton.mp z)) (fun q' z e => by
        rw [List.mem_singleton.mp z, (Keep.new (m := []) nq).to ep] at e
        cases e) (thing_keep (Keep.new (m := []) nq) (by simp) (by simp) ht)
      have kk : Keep [] H0 H' := k2.offNew ((Keep.new nq).trans kp) np
      match j, hv with
      | 0, hv => exact ⟨"beside", by rw [← Option.some.inj hv]; rfl, by decide +kernel, t1, kk⟩
      | 1, hv => exact ⟨"elder", by rw [← Option.some.inj hv]; rfl, by decide +kernel, t1, kk⟩
      | 2, hv => exact ⟨"a", by rw [← Option.some.inj hv]; rfl, by decide +kernel, t1, kk⟩
      | 3, hv => exact ⟨"conf", by rw [← Option.some.inj hv]; rfl, by decide +kernel, t1, kk⟩
      | j + 4, hv => simp at hv
    rintro σ' H3 ⟨wd, rfl, hw, t3, k3⟩
    -- for errors in [by place, by name]
    refine ⟨_, rfl, _, rfl, _, rfl, .ref th, wd, m, rfl, fun e1 H4 xs1 us1 n1 k4 l1 L1 len1 => ⟨_, rfl, _, rfl, _, rfl, .ref th, wd, m, rfl, fun e2 H5 xs2 us2 n2 k5 l2 L2 len2 => ⟨(by show 2 ≤ sizeLine; decide), fun q nq => ?_⟩⟩⟩
    obtain ⟨H6, e6⟩ : ∃ H6, H6 = upd H5 q (.lst [.ref e1, .ref e2]) := ⟨_, rfl⟩
    have k6 : Keep [] H5 H6 := by rw [e6]; exact Keep.new nq
    have l6 : H6 q = some (.lst [.ref e1, .ref e2]) := by rw [e6]; exact upd_same
    rw [← e6]
    have t6 : Thing H6 th c 0 := thing_keep (k4.trans (k5.trans k6)) (by simp) (by simp) t3
    have nth : ∀ {H' : Hp} {b : Addr} {o : HO}, (∃ H'' n, Thing H'' th c n ∧ H'' b = none ∧ Keep [th] H'' H') → H' b = some o → b ≠ th := fun {H' b o} z _ e => by
      obtain ⟨H'', n, hT, hn, _⟩ := z
      rw [e] at hn
      rcases thing_mu hT with ⟨_, z⟩ | ⟨_, z⟩ <;> (rw [hn] at z; cases z)
    have ne1 : e1 ≠ th := fun e => by
      rw [e] at n1
      rcases thing_mu t3 with ⟨_, z⟩ | ⟨_, z⟩ <;> (rw [n1] at z; cases z)
    have ne2 : e2 ≠ th := fun e => by
      rw [e] at n2
      rcases thing_mu (thing_keep k4 (by simp) (by simp) t3) with ⟨_, z⟩ | ⟨_, z⟩ <;> (rw [n2] at z; cases z)
    have neq : q ≠ th := fun e => by
      rw [e] at nq
      rcases thing_mu (thing_keep (k4.trans k5) (by simp) (by simp) t3) with ⟨_, z⟩ | ⟨_, z⟩ <;> (rw [nq] at z; cases z)
    have off : ∀ {b : Addr}, b ≠ th → b ∉ [th] := fun {b} h z => h (List.mem_singleton.mp z)
    refine ⟨q, rfl, ⟨_, SqL.of l6⟩, for_list (K := K) (a := q) (xs := [.ref e1, .ref e2]) (fun j σ' H' => ∃ b6 b7 b8 b9 b10, σ' = [some (.ref a), some (.int (0 + (i : Int))), some (.ref p), some (.ref th), some (.int m), some (.str wd), b6, b7, b8, b9, b10] ∧ Thing H' th c j ∧ Keep [th] H6 H')
      ⟨_, _, _, _, _, rfl, t6, Keep.refl⟩ (fun j σ' H' _ z => ?_) ?_ ?_⟩
    · obtain ⟨_, _, _, _, _, _, _, kj⟩ := z
      exact SqL.of (kj _ _ (off neq) l6)
    · rintro j x σ' Hc hj ⟨c6, c7, c8, c9, c10, rfl, tj, kj⟩
      have j2 : j < 2 := (List.getElem?_eq_some_iff.mp hj).1
      obtain ⟨e, xs, us, rfl, nee, le, L, len⟩ : ∃ e xs us, x = .ref e ∧ e ≠ th ∧ H6 e = some (.lst xs) ∧ EL K H6 (.ref th) (.str wd) (.int m) 0 xs us ∧ xs.length = 17 := by
        match j, hj with
        | 0, hj => exact ⟨e1, xs1, us1, (Option.some.inj hj).symm, ne1, (k5.trans k6).to l1, L1.keep (k5.trans k6), len1⟩
        | 1, hj => exact ⟨e2, xs2, us2, (Option.some.inj hj).symm, ne2, k6.to l2, L2.keep k6, len2⟩
        | j + 2, hj => simp at hj
      have muT : ∀ b ∈ [th], Mu H6 b := fun b z => by
        rw [List.mem_singleton.mp z]
        exact thing_mu t6
      have le' := kj _ _ (off nee) le
      have L' := L.keepM kj muT
      -- for at, error in enumerate(errors)
      refine ⟨fun σ' H' => ∃ b7 b8 b9 b10, σ' = [some (.ref a), some (.int (0 + (i : Int))), some (.ref p), some (.ref th), some (.int m), some (.str wd), some (.ref e), b7, b8, b9, b10] ∧ Keep [] Hc H', ?_, ?_⟩
      · refine ⟨_, rfl, e, xs, rfl, SqL.of le', for_enumL (K := K) (a := e) (xs := xs) (fun t σ' H' => ∃ b7 b8 b9 b10, σ' = [some (.ref a), some (.int (0 + (i : Int))), some (.ref p), some (.ref th), some (.int m), some (.str wd), some (.ref e), b7, b8, b9, b10] ∧ Keep [] Hc H')
          ⟨_, _, _, _, rfl, Keep.refl⟩ (fun t σ' H' _ z => ?_) ?_ (fun σ' H' z => z)⟩
        · obtain ⟨_, _, _, _, _, kt⟩ := z
          exact SqL.of (kt.to le')
        · rintro t x T σ' Ht hx ⟨d7, d8, d9, d10, rfl, kt⟩ hT
          have t17 : t < 17 := by
            have z := (List.getElem?_eq_some_iff.mp hx).1
            omega
          have kT : Keep [] Ht (upd Ht T (.tup [.int (t : Int), x])) := Keep.new hT
          obtain ⟨v, hv, isE, _⟩ := (L'.keep (kt.trans kT)).get hx
          rw [Nat.zero_add] at isE
          refine ⟨T, _, rfl, SqT.of upd_same, rfl, _, _, rfl, _, _, rfl, rfl, ?_⟩
          obtain ⟨H20, e20⟩ : ∃ H20, H20 = upd Ht T (.tup [.int (t : Int), x]) := ⟨_, rfl⟩
          rw [← e20] at kT isE ⊢
          have isE2 := isE
          obtain ⟨cx, fx, ef, aE, dE, rfl, h1, h2⟩ := isE
          have TE := er_of hx0 ef
          refine ⟨fun σ' H' => σ' = [some (.ref a), some (.int (0 + (i : Int))), some (.ref p), some (.ref th), some (.int m), some (.str wd), some (.ref e), some (.int (t : Int)), some (.ref aE), d9, d10] ∧ H' = H20, ?_, ?_⟩
          · refine ⟨_, rfl, aE, _, dE, _, _, _, _, rfl, h1, h2, TE.err.is, (fun u r => r), TE.up, true, rfl, ?_⟩
            refine iteF ?_
            refine ⟨_, rfl, aE, _, dE, _, .ty "ValueError", _, _, rfl, h1, h2, TE.err.is, (fun u r => r), TE.ve, true, rfl, ?_⟩
            exact iteF ⟨rfl, rfl⟩
          rintro σ' H' ⟨rfl, rfl⟩
          refine ⟨_, rfl, t, v, .ref aE, rfl, isE2, fun r H21 k21 l21 => ?_⟩
          refine ⟨17, rfl, by decide, by decide, fun D hD => lc_range (lo := 0) (n := 17) (fun n H' => Keep [] H21 H' ∧ H' D = some (.lst ((List.range n).map fun j => .bl (decide (t = j))))) ⟨Keep.new hD, upd_same⟩ ?_ ?_⟩
          · rintro n Hn hn ⟨kn, dn⟩
            refine ⟨rfl, ?_⟩
            refine ⟨_, rfl, _, rfl, rfl, _, dn, ?_, Keep.own kn hD, ?_⟩
            · rw [List.length_map, List.length_range]
              exact Nat.lt_trans hn (by decide)
            · rw [upd_same, List.range_succ, List.map_append]
              have ed : decide (V.int (0 + (n : Int)) = V.int (t : Int)) = decide (t = n) := by
                rw [Bool.eq_iff_iff]
                simp only [decide_eq_true_eq, V.int.injEq]
                omega
              rw [ed]
              rfl
          · rintro Hn ⟨kn, dn⟩
            obtain ⟨eq1, sh⟩ := rows_same t t17
            refine ⟨.list (rowD t 17), .list (rowD t 17), .lst (SqL.of (kn.to l21)) (row_dp _ _), .lst (SqL.of dn) (row_dp _ _), sh, sh, _, rfl, ?_⟩
            refine ite2 (fun z => ?_) (fun _ => ?_)
            · rw [eq1] at z
              cases z
            · exact ⟨_, _, _, _, rfl, kt.trans (kT.trans (k21.trans kn))⟩
      rintro σ' H7 ⟨d7, d8, d9, d10, rfl, k7⟩
      have t7 : Thing H7 th c j := thing_keep k7 (by simp) (by simp) tj
      -- if isinstance(thing, list): thing.append(0)
      refine ⟨fun σ' H' => σ' = [some (.ref a), some (.int (0 + (i : Int))), some (.ref p), some (.ref th), some (.int m), some (.str wd), some (.ref e), d7, d8, d9, d10] ∧ Thing H' th c (j + 1) ∧ Keep [th] H7 H', ?_, ?_⟩
      · obtain ⟨t, b, ty, kit, hb1, hb2⟩ := thing_ty (K := K) t7
        refine ⟨_, rfl, _, .ty "list", t, .type "list", b, rfl, .ty "list", ty, kit, b, rfl, ?_⟩
        cases b with
        | true =>
          obtain ⟨ys, hy, ly, ht'⟩ := thing_app (hb1 rfl) t7
          refine ⟨_, rfl, .inl ⟨rfl, _, SqL.of hy⟩, th, ys, _, rfl, rfl, hy, Nat.lt_of_le_of_lt ly (by show j + 2 < 16777216; omega), rfl, ht', Keep.at_ (by simp)⟩
        | false => exact ⟨rfl, hb2 rfl _, Keep.refl⟩
      rintro σ' H8 ⟨rfl, t8, k8⟩
      -- due
      refine ⟨fun σ' H' => ∃ D, σ' = [some (.ref a), some (.int (0 + (i : Int))), some (.ref p), some (.ref th), some (.int m), some (.str wd), some (.ref e), d7, d8, d9, some (.ref D)] ∧ Dq K H' (.ref D) (.list (dueL (dK c (j + 1)) wd m)) ∧ Keep [] H8 H', ?_, ?_⟩
      · refine ⟨_, rfl, (by show 1 ≤ sizeLine; decide), fun r1 m1 => ⟨r1, 6, _, rfl, rfl, upd_same, by decide, by decide, (by show 6 ≤ sizeLine; decide), fun r2 m2 => ?_⟩⟩
        refine ⟨_, rfl, (by show 1 ≤ sizeLine; decide), fun tt mt => ⟨_, rfl, _, rfl, _, rfl, _, rfl, _, rfl, _, rfl, (by show 7 ≤ sizeLine; decide), fun r3 m3 => ?_⟩⟩
        refine ⟨r2, r3, _, _, rfl, rfl, ((Keep.new (m := []) mt).trans (Keep.new m3)).to upd_same, upd_same, (by show 13 ≤ sizeLine; decide), fun r4 m4 => ?_⟩
        refine ⟨_, rfl, (by show 1 ≤ sizeLine; decide), fun r5 m5 => ⟨r5, 4, _, rfl, rfl, upd_same, by decide, by decide, (by show 4 ≤ sizeLine; decide), fun r6 m6 => ?_⟩⟩
        refine ⟨r4, r6, _, _, rfl, rfl, ((Keep.new (m := []) m5).trans (Keep.new m6)).to upd_same, upd_same, (by show 17 ≤ sizeLine; decide), fun D mD => ?_⟩
        have kb := Keep.pin ((Keep.new (m := []) m5).trans (Keep.new m6)) mD
        have kc := fun (o : HO) => (Keep.new (m := []) m4).trans (kb.trans (Keep.new (o := o) mD))
        have kd := fun (o : HO) => (Keep.new (m := []) m3).trans (kc o)
        have ke := fun (o : HO) => (Keep.new (m := []) mt).trans (kd o)
        have kf := fun (o : HO) => (Keep.new (m := []) m1).trans ((Keep.new m2).trans (ke o))
        have tup := fun (o : HO) => (kd o).to (upd_same : upd _ tt _ tt = _)
        refine ⟨D, rfl, .lst (SqL.of upd_same) ?_, kf _⟩
        have dT := (thing_dq (K := K) t8).mono (kf (.lst ((List.replicate (Int.toNat 6) [V.ref th]).flatten ++ [.ref tt, .ref th, .ref th, .str wd, .ref th, .ref th, .str wd] ++ (List.replicate (Int.toNat 4) [V.int m]).flatten))).same
        have dW := Dq.tup (K := K) (ds := [.str wd]) (SqT.of (tup (.lst ((List.replicate (Int.toNat 6) [V.ref th]).flatten ++ [.ref tt, .ref th, .ref th, .str wd, .ref th, .ref th, .str wd] ++ (List.replicate (Int.toNat 4) [V.int m]).flatten)))) (.cons (.str wd) .nil)
        exact .cons dT (.cons dT (.cons dT (.cons dT (.cons dT (.cons dT (.cons dW (.cons dT (.cons dT (.cons (.str wd) (.cons dT (.cons dT (.cons (.str wd) (.cons (.int m) (.cons (.int m) (.cons (.int m) (.cons (.int m) .nil))))))))))))))))
      rintro σ' H9 ⟨D, rfl, dD, k9⟩
      -- the reprs
      have t9 : Thing H9 th c (j + 1) := thing_keep k9 (by simp) (by simp) t8
      have muC : ∀ b ∈ [th], Mu H7 b := fun b z => by
        rw [List.mem_singleton.mp z]
        exact thing_mu t7
      have L9 := ((L'.keep k7).keepM k8 muC).keep k9
      have le9 := k9.to (k8 _ _ (off nee) (k7.to le'))
      obtain ⟨f1, f2, f3⟩ := fits_parts (fit_of (c := c) (n := j + 1) (w := wd) (m := m) hc (by omega) hw m0 m1)
      refine ⟨_, rfl, e, xs, us, .ref th, .str wd, .int m, rfl, le9, L9, len, fun r H10 k10 l10 => ?_⟩
      have dS : Dq K H10 (.ref r) (.list (dueL (dK c (j + 1)) wd m)) := .lst (SqL.of l10) ((L9.keep k10).data len ((thing_dq t9).mono k10.same))
      refine ⟨r, _, rfl, dS, f1, f2, f3, _, rfl, D, _, rfl, dD.mono k10.same, f1, f2, f3, rfl, _, rfl, iteNS rfl ?_⟩
      refine ⟨_, _, _, _, _, rfl, thing_keep k10 (by simp) (by simp) t9, ?_⟩
      exact kj.trans ((Keep.of_nil k7).trans (k8.trans ((Keep.of_nil k9).trans (Keep.of_nil k10))))
    · rintro σ' H' ⟨c6, c7, c8, c9, c10, rfl, tj, kj⟩
      exact ⟨_, _, _, _, _, _, _, _, _, _, rfl, kH.trans ((k3.trans (k4.trans (k5.trans k6))).offNew kj h0)⟩
end
end La
set_option Elab.async false
set_option linter.all false
set_option maxRecDepth 100000
set_option maxHeartbeats 4000000
namespace La
open PySem PySem.Spec PyProof.Rows L2 SM
theorem facts {w : World} {K : PySem.W.Frag} {h : Heap} {mg : Str → Option Value} {fa : Addr} (X : K.In h) (G : h.Ns mainGlobals mg) (hfa : mg ("law" : Str) = some (.ref fa)) (c : He.SaysD fas fns K) (hx : exB K = true) :
    ∃ fd : FuncData, (∀ (s : Shared) (v : Value), BindsTo s fd ⟨[v], []⟩ [("script", v)]) ∧ ∀ base : Heap, K.In base → base.Ns mainGlobals mg → Sm base → FnG (PySem.Challenge.rw_stillmine_k91_errors_by_hand).prog w K mg base CX0 5 fa fd ["script"] (spLaw K) := by
  have W : Cw fas fns K mg := ⟨⟨h, X, G⟩, c⟩
  obtain ⟨fd, F⟩ := c.def_ 24 (d := d_law) rfl
  have e := hfa.symm.trans (W.glo 25)
  cases e
  have b := FunD.bindsA (ps := ["script"]) F fun _ _ _ _ _ _ us hl => match us, hl with | [_], _ => rfl
  refine ⟨fd, fun s v => b s [v] rfl, fun base _ _ sm => ?_⟩
  have d1 := D_law_draw (P := (PySem.Challenge.rw_stillmine_k91_errors_by_hand).prog) (w := w) (base := base) W
  exact Dlaw W hx sm (D_law_source W) d1 (D_law_pick W d1) (D_law_kinds W hx) (D_law_by_place W hx) (D_law_by_name W hx) (D_law_stored W hx) F
end La
open PySem PySem.W PySem.Calls PyProof.Rows
set_option maxRecDepth 100000 in
set_option maxHeartbeats 0 in
theorem PySem.Challenge.cw_stillmine_k91_errors_by_hand_holds : PySem.Challenge.rw_stillmine_k91_errors_by_hand.Holds := by
  w_on; o_law
  refine HandSHeadRun.head_any (r := OpenLaw.row PySem.Challenge.rw_stillmine_k91_errors_by_hand) (q := La.qv) (H := La.hk) (ob := La.ob) (M := 20000) (loose := La.loose) (d := HandSHeadRun.topDef (OpenLaw.row PySem.Challenge.rw_stillmine_k91_errors_by_hand).prog 27) (kwd := []) La.ob_eq
    (by kernel_rfl) (fun s => by kernel_rfl) La.run (by kernel_rfl) (by kernel_rfl) (by kernel_rfl) (by rfl) (by first | assumption | decide +kernel) (by decide +kernel) ⟨rfl, rfl, rfl, rfl, rfl, by decide +kernel⟩ ?hw ?hc
  case hw => w_witness2
  case hc =>
    refine SM.walkG (l := PySem.Challenge.rw_stillmine_k91_errors_by_hand) (n := 63) (k := 5) (x := "script") (CX := L2.CX0) rfl (by decide) (by kernel_rfl) ⟨rfl, by decide, by decide⟩ (by kernel_rfl) ?F (fun _ _ _ _ z => z)
    intro w mg fa h Y G hmg0
    obtain ⟨K, KX, c, hx⟩ := Y
    have hmg : mg ("law" : PySem.Str) = some (.ref fa) := by
      have e : (HandSHeadRun.topDef (OpenLaw.row PySem.Challenge.rw_stillmine_k91_errors_by_hand).prog 27).name = ("law" : PySem.Str) := by kernel_rfl
      rw [← e]
      exact hmg0
    obtain ⟨fd, hb, hF⟩ := La.facts (w := w) KX G hmg c hx
    exact ⟨K, fd, La.spLaw K, KX, hb, fun H a ns hl hbits _ hS => ⟨a, ns, rfl, hS, hl, hbits, fun _ => rfl⟩, hF⟩
