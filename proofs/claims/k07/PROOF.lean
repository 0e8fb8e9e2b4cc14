import PyProof.Rows.All
import Wide.All
import OpenK.AllK
import Wide.FinOn
import KE.KExcIs
import HandS.ForMost
import HandS.ForExc
import HandS.EndBits
import HandS.Wide
import HandS.IsInst
import HandS.ExcInit
import HandS.ExcIs
import HandS.ExcField
import HandS.Evl
import PyProof.ReprLen
import HandS.Head0
import HandS.Head1
import HandS.Head2
import HandS.HeadEnd
import HandS.HeadHook1
import HandS.HeadHook2
import HandS.Defaults
import HandS.Deep
import HandS.Property
import HandS.Strs
import HandS.TryMany
import HandS.TupAny
import HandS.TupMul
import HandS.Style
import HandS.More
import HandS.Walk
import HandS.OwnEq
import KE.GoesMore
import PyProof.EnumMake
import HandS.DictComp
import HandS.ExcOwn
import HandS.MakeKwOnly
import PySem.Challenge.RW_stillmine_k07_files_compared_and_forked
import HandS.Zip
import HandS.NoneIn
import HandS.DictComp
import HandS.DictEq
set_option Elab.async false
set_option linter.all false
set_option maxRecDepth 100000
set_option maxHeartbeats 2000000
/-! Calls while no repr is under way: the same layer with one more fact of the surroundings. -/
namespace SM
open PySem PySem.Spec PyProof.Rows L2

structure FnG (P : Program) (w : World) (K : PySem.W.Frag) (mg : Str → Option Value) (base : Heap) (CX : CXT) (k : Nat) (f : Addr) (fd : FuncData) (ps : List Str) (sp : Sp) : Prop where
  len : ∀ vs H Q E, sp vs H Q E → vs.length = ps.length
  go : ∀ (B : Around) (up : List Env) (s : Shared) (H : Hp) (ar : Args) (us : List Value) (vs : List V) (Q : VK) (E : XK),
    B.guards = some [] → Room k B → Env0 P w K mg base B up s H → BindsTo s fd ar (ps.zip us) → Vals vs us → sp vs H Q E →
      codeAny (model P w) B (.call (.ref f) ar) (CR CX up P w H s Q E) s

section
variable {P : Program} {w : World} {K : PySem.W.Frag} {mg : Str → Option Value} {base : Heap} {CX : CXT} {k : Nat} {f : Addr} {fd : FuncData} {ps : List Str} {sp : Sp}
theorem FnG.of (F : FnOk P w K mg base CX k f fd ps sp) : FnG P w K mg base CX k f fd ps sp :=
  ⟨F.len, fun B up s H ar us vs Q E _ hr e b r h => F.run B up s H ar us vs Q E hr e b r h⟩

/-- a def by its body, no repr under way around it -/
theorem okG {x qual : Str} {st : Stmt} {N : List Str} (F : Fun K x qual st f fd) (S : FnScope N ps (defScope st)) (len : ∀ vs H Q E, sp vs H Q E → vs.length = ps.length)
    (body : ∀ (cdv : Value) (B : Around) (up : List Env) (s : Shared) (H : Hp) (vs : List V) (Q : VK) (E : XK), B.guards = some [] →
      Room k (B.deeper (envOfC qual (defScope st) s.heap.objs.size f cdv)) → sp vs H Q E →
      ∃ t, PSs (cxOf CX P w K mg base N qual (defScope st) f cdv B up s H E) (defBody st) t ∧ t { nx := fun _ H' => Q .non H', rt := Q } (start N vs) H) :
    FnG P w K mg base CX (k + 1) f fd ps sp := by
  obtain ⟨oc, od, kV, doc, pm, an, cdv, ct, osl, e, lk, hcd⟩ := F.ex
  subst e
  refine ⟨len, fun B up s H ar us vs Q E hg hr e0 bt rv want => ?_⟩
  have many := len _ _ _ _ want
  have kin : K.In s.heap := e0.mod.kin.keeps (fun b o z => (e0.bs b o z).1)
  have room : s.heap.NoLimit := e0.mod.nolimit.keeps (fun b o z => (e0.bs b o z).1)
  have kinds : ∀ y ∈ ps.zip us, (defScope st).names.lookup y.1 = some .local ∨
      ((defScope st).names.lookup y.1 = some .cell ∧ ((cellsFrom (s.heap.objs.size + 1) (defScope st).names []).lookup y.1).isSome = true) := by
    rintro ⟨n, v⟩ hy
    cases S.par n (List.of_mem_zip hy).1 with
    | inl q => exact Or.inl q
    | inr q => exact Or.inr ⟨q, PySem.W.cellsFrom_some _ _ _ (Or.inl q)⟩
  apply codeAny_call_function hr.depth (kin _ _ lk) rfl S.co S.gen rfl (PySem.W.codeRec_of kin hcd)
  apply bt
  apply wpAny_newFunctionEnv_cells S.kind kinds
  intro env he s1 x
  subst he
  refine ⟨room.keeps x.toInCall.keep, codeAny_func ?_⟩
  obtain ⟨t, ht, q⟩ := body cdv B up s H vs Q E hg (hr.deeper _) want
  have I := inv_start (CX := CX) (E := E) S hr.hd e0 many rv x
  apply wpAny_mono (ht.run [] s1 (start N vs) H _ I q)
  · intro fl s' z
    have fin : ∀ {σ' : L2.St} {H' : Hp} {v : V} {u : Value}, Inv (cxOf CX P w K mg base N qual (defScope st) f cdv B up s H E) [] σ' H' s' → RelV v u → Q v H' → CE up P w H s Q u s' := by
      intro σ' H' v u J rv' q'
      exact ⟨v, H', J.os, J.bare, J.base, J.hok, rv', q'⟩
    cases fl with
    | next =>
      obtain ⟨σ', H', J, q'⟩ := z
      exact fin (v := V.non) (u := Value.none) J rfl q'
    | ret u =>
      obtain ⟨v, σ', H', J, rv', q'⟩ := z
      exact fin J rv' q'
    | brk =>
      obtain ⟨_, _, _, q'⟩ := z
      exact q'.elim
    | cont =>
      obtain ⟨_, _, _, q'⟩ := z
      exact q'.elim
  · exact fun e s' z => z
end

section
variable {X : Cx} {CX : CXT} {k : Nat} {f : Addr} {fd : FuncData} {ps : List Str} {sp : Sp} {dvs : List V} {ds : List Value} {E : XK} {x : Str} {p pos : Pos} {e : Expr} {es : List Expr} {t : TA}
theorem go_fn {pins : List (Addr × Obj)} {σ : L2.St} {H : Hp} {s : Shared} {Q : VK} {us : List Value} {vs : List V} (F : FnG X.prog X.w X.K X.mg X.base CX k f fd ps sp) (hg : X.A.guards = some []) (hr : Room k X.A) (hb : Binds X.K fd ps ds) (hd : Vals dvs ds) (hx : Passes CX X E)
    (I : Inv X pins σ H s) (r : Vals vs us) (want : sp (vs ++ dvs) H Q E) : wpAny (model X.prog X.w) X.A (call (.ref f) us) (EP X pins σ Q) X.xe s := by
  have rr : Vals (vs ++ dvs) (us ++ ds) := Vals.append r hd
  have many : (us ++ ds).length = ps.length := (Vals.length rr).symm.trans (F.len _ _ _ _ want)
  apply wpAny_call
  apply codeAny_mono (F.go X.A X.stack s H ⟨us, []⟩ (us ++ ds) (vs ++ dvs) Q E hg hr I.env0 (hb s us I.kIn many) rr want)
  intro r' s' z
  cases r' with
  | error er => exact hx pins σ H s er s' I z
  | ok fl =>
    cases fl with
    | ret u => exact I.after z
    | next => exact z.elim
    | brk => exact z.elim
    | cont => exact z.elim
theorem pe_callG (F : FnG X.prog X.w X.K X.mg X.base CX k f fd ps sp) (gd : X.A.guards = some []) (hr : Room k X.A) (hg : Gl X x) (hm : X.mg x = some (.ref f)) (hk : PySem.W.keepIn X.K (.ref f) = true) (hb : Binds X.K fd ps ds) (hd : Vals dvs ds) (hx : Passes CX X E)
    (ha : PA X (e :: es) t) (hdb : (x == ("__debug__" : Str)) = false := by decide) (he : starEach (e :: es) X.env = (false, eval e X.env) :: starEach es X.env := by rfl) (hpl : (backTo pos (starEach es X.env)).any (·.1) = false := by rfl) :
    PE X (.Call (.Name x p) (e :: es) [] pos) (tCall sp dvs E t) := by
  constructor
  intro pins s σ H Q I h
  apply wpAny_Call_Name_kw
  apply ld_glob I hg hm _ hdb
  apply PySem.W.callWith_K (h₀ := X.base) I.ok.mod.kin hk _ he hpl
  apply thn (ha.run pos pins s σ H _ I h)
  rintro us s1 ⟨vs, H1, I1, r, q⟩
  exact ⟨I1.kIn, go_fn F gd hr hb hd hx I1 r q⟩
end
end SM
set_option Elab.async false
set_option linter.all false
set_option maxRecDepth 100000
set_option maxHeartbeats 2000000
/-! Data with dicts in it, and repr of it. -/
namespace SM
open PySem PySem.Spec PyProof.Rows L2

def keyD : Key → PyData
  | .inl i => .int i
  | .inr x => .str x
mutual
/-- v stands for the data d in H -/
inductive Dq (K : PySem.W.Frag) (H : Hp) : V → PyData → Prop
  | non : Dq K H .non .none
  | bl (b : Bool) : Dq K H (.bl b) (.bool b)
  | int (i : Int) : Dq K H (.int i) (.int i)
  | str (x : Str) : Dq K H (.str x) (.str x)
  | lst {a : Addr} {xs : List V} {ds : List PyData} : SqL K H a xs → DqAll K H xs ds → Dq K H (.ref a) (.list ds)
  | tup {a : Addr} {xs : List V} {ds : List PyData} : SqT K H a xs → DqAll K H xs ds → Dq K H (.ref a) (.tuple ds)
  | dic {a : Addr} {kvs : List (Key × V)} {ds : List PyData} : H a = some (.dK kvs) → DqAll K H (kvs.map (·.2)) ds → Dq K H (.ref a) (.dict ((kvs.map fun q => keyD q.1).zip ds))
inductive DqAll (K : PySem.W.Frag) (H : Hp) : List V → List PyData → Prop
  | nil : DqAll K H [] []
  | cons {v : V} {vs : List V} {d : PyData} {ds : List PyData} : Dq K H v d → DqAll K H vs ds → DqAll K H (v :: vs) (d :: ds)
end
theorem DqAll.length {K : PySem.W.Frag} {H : Hp} : ∀ {vs : List V} {ds : List PyData}, DqAll K H vs ds → vs.length = ds.length
  | _, _, .nil => rfl
  | _, _, .cons _ t => congrArg (· + 1) t.length
mutual
theorem Dq.mono {K : PySem.W.Frag} {H H' : Hp} (e : Same H H') : ∀ {v : V} {d : PyData}, Dq K H v d → Dq K H' v d
  | _, _, .non => .non
  | _, _, .bl b => .bl b
  | _, _, .int i => .int i
  | _, _, .str x => .str x
  | _, _, .lst s t => .lst (e.seq s) (DqAll.mono e t)
  | _, _, .tup s t => .tup (by
      rcases s with (s | ⟨o, s⟩) | s
      · exact .inl (.inl (e _ _ s))
      · exact .inl (.inr ⟨o, e _ _ s⟩)
      · exact .inr s) (DqAll.mono e t)
  | _, _, .dic s t => .dic (e _ _ s) (DqAll.mono e t)
theorem DqAll.mono {K : PySem.W.Frag} {H H' : Hp} (e : Same H H') : ∀ {vs : List V} {ds : List PyData}, DqAll K H vs ds → DqAll K H' vs ds
  | _, _, .nil => .nil
  | _, _, .cons s t => .cons (Dq.mono e s) (DqAll.mono e t)
end
/-- the table of modules stands as a dict -/
def Sm (base : Heap) : Prop := ∃ mm, base.Ns sysModules mm
section
variable {X : Cx} {pins : List (Addr × Obj)} {σ : L2.St} {H : Hp} {s : Shared}
theorem sm_at (I : Inv X pins σ H s) (sm : Sm X.base) : ∃ o es ep, s.heap.get? sysModules = some o ∧ o.data = .dict es ep := by
  obtain ⟨mm, o, es, ep, e, d, _⟩ := sm
  obtain ⟨e1, n⟩ := I.ok.bs _ _ e
  have nx := I.ok.noex _ _ e
  by_cases hf : sysModules ∈ X.fs
  · obtain ⟨sl, z⟩ := I.base.slot _ _ e1 n hf nx
    exact ⟨_, es, ep, z, d⟩
  · exact ⟨o, es, ep, I.base.keep _ _ e1 n hf nx, d⟩
theorem not_sm (I : Inv X pins σ H s) (sm : Sm X.base) {a : Addr} {o : Obj} {its : Array Value} {n : Nat} (e : s.heap.get? a = some o) (d : o.data = .seq its n) : sysModules ≠ a := by
  intro z
  obtain ⟨o', es, ep, e', d'⟩ := sm_at I sm
  rw [z, e] at e'
  cases e'
  rw [d] at d'
  cases d'
theorem keys_read {h : Heap} {P : Program} {w : World} : ∀ {es : List DictEntry} {kvs : List (Key × Value)}, PySem.Pairs (mixKind P w) es kvs → ReadsAll h (es.map (·.key)) (kvs.map fun q => keyD q.1) []
  | _, _, .nil => ReadsAll.nil
  | _, _, .cons (e := e) (kv := kv) hk hv t => by
    have z := keys_read (h := h) t
    have hk2 : keyIs kv.1 e.key = true := hk
    obtain ⟨k, v⟩ := kv
    rcases keyIs_shape hk2 with ⟨i, t, e1, e2⟩ | ⟨x, t, e1, e2⟩
    · simp only at e1
      subst e1
      simp only [List.map_cons, keyD, e2]
      exact ReadsAll.cons (as := []) (bs := []) (Reads.int i t) z
    · simp only at e1
      subst e1
      simp only [List.map_cons, keyD, e2]
      exact ReadsAll.cons (as := []) (bs := []) (Reads.str x t) z
theorem vals_of {P : Program} {w : World} : ∀ {es : List DictEntry} {kvs : List (Key × Value)}, PySem.Pairs (mixKind P w) es kvs → es.map (·.val) = kvs.map (·.2)
  | _, _, .nil => rfl
  | _, _, .cons (e := e) (kv := kv) hk hv t => by simp only [List.map_cons, hv, vals_of t]
theorem kv_keys {κ : Type} : ∀ {xs : List (κ × V)} {us : List (κ × Value)}, KV xs us → xs.map (·.1) = us.map (·.1) ∧ Vals (xs.map (·.2)) (us.map (·.2))
  | _, _, .nil => ⟨rfl, .nil⟩
  | _, _, .cons r t => by
    obtain ⟨h1, h2⟩ := kv_keys t
    exact ⟨by simp only [List.map_cons, r.1, h1], .cons r.2 h2⟩
theorem unzip_keys : ∀ {ks ds : List PyData}, ks.length = ds.length → (ks.zip ds).map (·.1) = ks ∧ (ks.zip ds).map (·.2) = ds
  | [], [], _ => ⟨rfl, rfl⟩
  | k :: ks, d :: ds, h => by
    obtain ⟨h1, h2⟩ := unzip_keys (ks := ks) (ds := ds) (by simpa using h)
    exact ⟨by simp [h1], by simp [h2]⟩
  | [], _ :: _, h => by cases h
  | _ :: _, [], h => by cases h
mutual
theorem Dq.reads (I : Inv X pins σ H s) (sm : Sm X.base) : ∀ {v : V} {d : PyData} {u : Value}, Dq X.K H v d → RelV v u → ∃ as, Reads s.heap u d as ∧ sysModules ∉ as
  | _, _, _, .non, r => by
    cases r
    exact ⟨_, Reads.none, by simp⟩
  | _, _, _, .bl b, r => by
    cases r
    exact ⟨_, Reads.bool b, by simp⟩
  | _, _, _, .int i, r => by
    obtain ⟨t, rfl⟩ := r
    exact ⟨_, Reads.int i t, by simp⟩
  | _, _, _, .str x, r => by
    obtain ⟨t, rfl⟩ := r
    exact ⟨_, Reads.str x t, by simp⟩
  | _, _, _, .lst hs ha, r => by
    cases r
    obtain ⟨its, rv, ⟨o, n, ho, hc, _, hd⟩, _⟩ := I.list hs
    obtain ⟨as, hr, hn⟩ := DqAll.reads I sm ha rv
    refine ⟨_, Reads.list ho hc hd hr, fun z => ?_⟩
    rcases List.mem_cons.mp z with z | z
    · exact not_sm I sm ho hd z
    · exact hn z
  | _, _, _, .tup hs ha, r => by
    cases r
    obtain ⟨its, rv, ⟨o, ho, hc, n, hd⟩, _⟩ := I.tuple hs
    obtain ⟨as, hr, hn⟩ := DqAll.reads I sm ha rv
    exact ⟨_, Reads.tuple ho hc hd hr, hn⟩
  | _, _, _, .dic (a := a) (kvs := kvs) (ds := ds) hs ha, r => by
    cases r
    obtain ⟨_, ne, vs, kv, o, es, ep, ho, ex, hd, hk, hp, _⟩ := I.hok _ _ hs
    obtain ⟨k1, k2⟩ := kv_keys kv
    obtain ⟨as, hr, hn⟩ := DqAll.reads I sm ha k2
    have lk := DqAll.length ha
    obtain ⟨z1, z2⟩ := unzip_keys (ks := kvs.map fun q => keyD q.1) (ds := ds) (by rw [List.length_map]; rw [List.length_map] at lk; exact lk)
    have rk := keys_read (h := s.heap) hp
    have ek : (vs.map fun q => keyD q.1) = kvs.map fun q => keyD q.1 := by
      have := congrArg (List.map keyD) k1
      simp only [List.map_map] at this
      exact this.symm
    refine ⟨_, Reads.dict ho ex.1 hd (as := []) (bs := as) ?_ ?_, fun z => ?_⟩
    · rw [z1, ← ek]; exact rk
    · rw [z2, vals_of hp]; exact hr
    · have z : sysModules ∈ a :: as := z
      rcases List.mem_cons.mp z with z | z
      · rw [z] at ne
        simp at ne
      · exact hn z
theorem DqAll.reads (I : Inv X pins σ H s) (sm : Sm X.base) : ∀ {vs : List V} {ds : List PyData} {us : List Value}, DqAll X.K H vs ds → Vals vs us → ∃ as, ReadsAll s.heap us ds as ∧ sysModules ∉ as
  | _, _, _, .nil, r => by
    cases r
    exact ⟨_, ReadsAll.nil, by simp⟩
  | _, _, _, .cons h1 h2, .cons r1 r2 => by
    obtain ⟨as, q1, n1⟩ := Dq.reads I sm h1 r1
    obtain ⟨bs, q2, n2⟩ := DqAll.reads I sm h2 r2
    refine ⟨_, ReadsAll.cons q1 q2, fun z => ?_⟩
    rcases List.mem_append.mp z with z | z
    · exact n1 z
    · exact n2 z
end
/-- repr(x), x a list, a tuple or a dict of data -/
def rRepr (K : PySem.W.Frag) : List V → Hp → VK → Prop := fun xs H Q => ∃ (a : Addr) (d : PyData), xs = [.ref a] ∧ Dq K H (.ref a) d ∧ d.showable = true ∧ d.depth ≤ 60 ∧ d.shown.length ≤ sizeLine ∧ Q (.str d.shown) H
theorem call_repr (sm : Sm X.base) (gd : X.A.guards = some []) (hu : X.A.units + 64 < cLine) : CallR X (.builtin "repr") (rRepr X.K) := by
  intro pins s σ H xs us Q I r h
  obtain ⟨a, d, rfl, hd, hs, hp, hz, q⟩ := h
  obtain ⟨u, rfl, ru⟩ := vals1 r
  obtain ⟨as, rd, ns⟩ := Dq.reads I sm hd ru
  obtain rfl : u = Value.ref a := ru
  refine repr_of_reads' rd hs (fun _ => ns) gd (by omega) (fun _ _ e => e) (fun h' t tk k => ?_) hz
  exact ⟨.str _, H, I.kept k, ⟨_, rfl⟩, q⟩
end
end SM
set_option Elab.async false
set_option linter.all false
set_option maxRecDepth 100000
set_option maxHeartbeats 2000000
/-! A law's end where its def asks that no repr is under way. -/
namespace SM
open PySem PySem.Spec PyProof.Rows L2



/-- the script as the one tracked thing, locked -/
def onlyScript (a : Addr) (o : Obj) (xs : List V) : Hp := fun b => if b = a then some (.frz o (.lst xs)) else none
theorem onlyScript_at {a : Addr} {o : Obj} {xs : List V} : onlyScript a o xs a = some (.frz o (.lst xs)) := if_pos rfl
theorem onlyScript_off {a b : Addr} {o : Obj} {xs : List V} (h : b ≠ a) : onlyScript a o xs b = none := if_neg h

section
variable {P : Program} {w : World} {K : PySem.W.Frag} {mg mb : Str → Option Value} {CX : CXT} {k : Nat} {fa a : Addr} {fd : FuncData} {x : Str} {sp : Sp} {s1 : Shared} {vs : List Value} {ns : List Int}
/-- from one abstract heap in which at most the script is tracked -/
theorem endFrom {H : Hp} (KX : K.In s1.heap) (gl : s1.heap.Ns mainGlobals mg) (hb : s1.heap.Ns builtinsNs mb) (hbb : ∀ x : Str, x ≠ "__name__" → mb x = bootBuiltins x) (hlim : s1.heap.NoLimit) (hg : s1.gens = #[])
    (ha : s1.heap.get? a = some { cls := .type "list", data := .seq vs.toArray }) (hr : Room k callerA)
    (sm : ∃ mm, s1.heap.Ns sysModules mm) (F : ∀ base : Heap, K.In base → base.Ns mainGlobals mg → Sm base → FnG P w K mg base CX k fa fd [x] sp) (hbind : ∀ (s : Shared) (u : Value), BindsTo s fd ⟨[u], []⟩ [(x, u)])
    (hCX : ∀ H e s', CX [] H s1 (fun _ _ _ => False) e s' → False)
    (off : ∀ b, b ≠ a → H b = none) (on : ∀ u, H a = some u → K.lookup a = none ∧ ∃ o xs, u = .frz o (.lst xs)) (hok : HOk P w H s1.heap)
    (want : sp [.ref a] H (fun v _ => v = .bl true) fun _ _ _ => False) :
    codeAny (model P w) callerA (.call (.ref fa) ⟨[.ref a], []⟩) (fun r s' => r = .ok (.ret (.bool true)) ∧ OldK s1.heap s'.heap ∧ s'.os = s1.os ∧ AllBare s'.gens) s1 := by
  -- what is no list stands outside of H
  have dictOff : ∀ {b : Addr} {o : Obj} {es : Array DictEntry} {ep : Nat}, s1.heap.get? b = some o → o.data = .dict es ep → H b = none := by
    intro b o es ep e d
    by_cases hba : b = a
    · rw [hba, ha] at e
      cases e
      cases (show Data.seq vs.toArray _ = Data.dict es ep from d)
    · exact off b hba
  have back : ∀ {b : Addr} {m : Str → Option Value}, s1.heap.Ns b m → (hidT s1.heap H).Ns b m := by
    rintro b m ⟨o, es, ep, e, d, r⟩
    exact ⟨o, es, ep, hidT_get e (dictOff e d), d, r⟩
  have kin : K.In (hidT s1.heap H) := by
    intro b o e
    refine hidT_get (KX b o e) ?_
    by_cases hba : b = a
    · cases q : H b with
      | none => rfl
      | some u =>
        rw [hba] at q e
        rw [(on u q).1] at e
        cases e
    · exact off b hba
  have M : Mod K mg (hidT s1.heap H) := by
    refine ⟨kin, back gl, ⟨mb, back hb, hbb⟩, ?_⟩
    obtain ⟨mc, h1, h2⟩ := hlim
    exact ⟨mc, back h1, h2⟩
  have e0 : Env0 P w K mg (hidT s1.heap H) callerA [] s1 H :=
    { frames := rfl, mod := M, bs := fun b o e => of_hidT e, bsz := Nat.le_of_eq (hidT_size _ _), funs := trivial,
      frf := fun b z => absurd (show b ∈ ([] : List Addr) from z) (by simp), hok := hok, bare := .of_eq hg }
  apply codeAny_mono ((F _ kin (back gl) (by obtain ⟨mm, z⟩ := sm; exact ⟨mm, back z⟩)).go callerA [] s1 H ⟨[.ref a], []⟩ [.ref a] [.ref a] _ _ rfl hr e0 (hbind s1 (.ref a)) (.cons rfl .nil) want)
  intro r s' z
  cases r with
  | error e => exact (hCX H e s' z).elim
  | ok fl =>
    cases fl with
    | next => exact z.elim
    | brk => exact z.elim
    | cont => exact z.elim
    | ret u =>
      obtain ⟨v, H', os, bare, un, hok', rv, q⟩ := z
      have q2 : v = .bl true := q
      subst q2
      obtain rfl : u = Value.bool true := rv
      refine ⟨rfl, OldK.of_keep (fun b o e => ?_), os, bare⟩
      have emptyN : ∀ c : Addr, c ∉ ([] : List Addr) := fun c => by simp
      by_cases hba : b = a
      · cases q3 : H b with
        | none => exact un.keep b o e q3 (emptyN b) (emptyN b)
        | some u =>
          have q4 := q3
          rw [hba] at q4
          obtain ⟨_, ob, xs, eu⟩ := on u q4
          subst eu
          obtain ⟨e1, _⟩ := hok b _ q3
          obtain ⟨e2, _⟩ := hok' b _ (un.frzs b ob _ q3)
          exact (e1.symm.trans e ▸ e2)
      · exact un.keep b o e (off b hba) (emptyN b) (emptyN b)
theorem endCall (KX : K.In s1.heap) (gl : s1.heap.Ns mainGlobals mg) (hb : s1.heap.Ns builtinsNs mb) (hbb : ∀ x : Str, x ≠ "__name__" → mb x = bootBuiltins x) (hlim : s1.heap.NoLimit) (hg : s1.gens = #[])
    (ha : s1.heap.get? a = some { cls := .type "list", data := .seq vs.toArray }) (hi : IntsAre vs ns) (hl : ns.length ≤ sizeLine) (hr : Room k callerA)
    (sm : ∃ mm, s1.heap.Ns sysModules mm) (F : ∀ base : Heap, K.In base → base.Ns mainGlobals mg → Sm base → FnG P w K mg base CX k fa fd [x] sp) (hbind : ∀ (s : Shared) (u : Value), BindsTo s fd ⟨[u], []⟩ [(x, u)])
    (hsp : ∀ H : Hp, Only H → SqL K H a (ns.map V.int) → sp [.ref a] H (fun v _ => v = .bl true) fun _ _ _ => False)
    (hCX : ∀ H e s', CX [] H s1 (fun _ _ _ => False) e s' → False) :
    codeAny (model P w) callerA (.call (.ref fa) ⟨[.ref a], []⟩) (fun r s' => r = .ok (.ret (.bool true)) ∧ OldK s1.heap s'.heap ∧ s'.os = s1.os ∧ AllBare s'.gens) s1 := by
  have rv := vals_ints hi
  have lv := hi.length
  cases hk : K.lookup a with
  | some o =>
    have e := KX a o hk
    rw [ha] at e
    cases e
    refine endFrom (H := fun _ => none) KX gl hb hbb hlim hg ha hr sm F hbind hCX (fun _ _ => rfl) (fun u z => by cases z) (fun b u z => by cases z) (hsp _ (fun _ => Or.inl rfl) (Or.inr ?_))
    exact ⟨_, vs.toArray, _, hk, rfl, rfl, rfl, by rw [List.size_toArray, lv]; exact hl, by simpa using rv⟩
  | none =>
    refine endFrom (H := onlyScript a { cls := .type "list", data := .seq vs.toArray } (ns.map V.int)) KX gl hb hbb hlim hg ha hr sm F hbind hCX (fun b h => onlyScript_off h) (fun u z => ?_) (fun b u z => ?_) (hsp _ (fun b => ?_) ?_)
    · rw [onlyScript_at] at z
      cases z
      exact ⟨hk, _, _, rfl⟩
    · by_cases hba : b = a
      · subst hba
        rw [onlyScript_at] at z
        cases z
        exact ⟨ha, by rw [List.length_map]; exact hl, vs, _, rv, ha⟩
      · rw [onlyScript_off hba] at z
        cases z
    · by_cases hba : b = a
      · subst hba
        exact Or.inr ⟨_, _, onlyScript_at⟩
      · exact Or.inl (onlyScript_off hba)
    · exact Or.inl (Or.inr ⟨_, onlyScript_at⟩)
end
/-- the law's walk, the script's bits told, the written part told by a Hook's word Y -/
theorem walkG {l : PySem.W.OpenLaw} {n k : Nat} {q : Program} {loose : List Str} {XP : (Str → Option Value) → Heap → Prop} {YP : World → Heap → Prop} {d : DefRec} {CX : CXT} {x : Str}
    (hn : l.most = some n) (hn2 : n ≤ sizeLine) (hdf : d.params.defaults = []) (hr : Room k callerA) (him : importsNone q = true)
    (F : ∀ (w : World) (mg : Str → Option Value) (fa : Addr) (h : Heap), YP w h → h.Ns mainGlobals mg → mg d.name = some (.ref fa) →
      ∃ (K : PySem.W.Frag) (fd : FuncData) (sp : Sp), K.In h ∧ (∀ (s : Shared) (u : Value), BindsTo s fd ⟨[u], []⟩ [(x, u)]) ∧
        (∀ (H : Hp) (a : Addr) (ns : List Int), ns.length ≤ n → (∀ z ∈ ns, Builtin.Int.intBits z ≤ 1048576) → Only H → SqL K H a (ns.map V.int) → sp [.ref a] H (fun v _ => v = .bl true) fun _ _ _ => False) ∧
        ∀ base : Heap, K.In base → base.Ns mainGlobals mg → Sm base → FnG l.prog w K mg base CX k fa fd [x] sp)
    (hCX : ∀ (H : Hp) (s : Shared) (e : Value) (s' : Shared), CX [] H s (fun _ _ _ => False) e s' → False) :
    PySem.W.WalkO q loose XP YP l.row.toRowW d [] (fun f vs => PySem.call f vs) := by
  apply Att.attach_callB hn hdf
  intro w s0 s1 mg mb fa o pm cd doc a vs ns G Y ho hd hcd hmg hobj hints many bits hg
  obtain ⟨K, fd, sp, kin, hb, hsp, hF⟩ := F w mg fa _ Y G.T.g hmg
  exact endCall kin G.T.g G.T.b G.T.builtins G.T.nolimit hg hobj hints (Nat.le_trans many hn2) hr (by obtain ⟨mm, z, _⟩ := (G.T.seer him).mods; exact ⟨mm, z⟩) hF hb (fun H ho hs => hsp H a ns many bits ho hs) (fun H e s' => hCX H s1 e s')
end SM
set_option Elab.async false
set_option linter.all false
set_option maxRecDepth 100000
set_option maxHeartbeats 2000000
/-! The head's facts, one more Bool of one's own beside. -/
namespace SM
open PySem PySem.Spec PyProof.Rows L2
abbrev AlS : Type := He.AlD × Bool
def obsS (n : Nat) (fa : List He.Fa) (fn : List He.DefD) (ex : PySem.W.Frag → Bool) (g : Addr → Option Obj) : AlS := (He.obsDG n fa fn g, ex (He.frG g (He.asD g n)))
def hookS (n : Nat) (fa : List He.Fa) (fn : List He.DefD) (ex : PySem.W.Frag → Bool) : PySem.W.Hook where
  α := AlS
  obs := fun s => obsS n fa fn ex s.heap.get?
  val := fun _ => (He.valD fn, true)
  says := fun _ h => ∃ K : PySem.W.Frag, K.In h ∧ He.SaysD fa fn K ∧ ex K = true
  of := fun _ _ e => ⟨_, He.frG_in, congrArg (fun z : AlS => z.1) e, congrArg (fun z : AlS => z.2) e⟩
  keeps := fun _ _ _ ⟨K, hK, c⟩ k => ⟨K, PySem.W.Frag.In.keeps hK k, c⟩
theorem obsS_eq {n : Nat} {fa : List He.Fa} {fn : List He.DefD} {ex : PySem.W.Frag → Bool} {g : Addr → Option Obj} {s : Shared} (h : ∀ a, g a = s.heap.get? a) : obsS n fa fn ex g = (hookS n fa fn ex).obs s := by
  have e : g = s.heap.get? := funext h
  rw [e] <;> rfl
end SM
set_option Elab.async false
set_option linter.all false
set_option maxRecDepth 100000
set_option maxHeartbeats 4000000
/-! An own exception class over ValueError, called with one keyword. -/
namespace SM
open PySem PySem.Spec PyProof.Rows L2 PySem.HandSPX
section
variable {M : Model} {A : Around} {E : Value → Shared → Prop} {h : Heap} {g : Array GenState} {d : Drawn} {t : Nat} {os : OsState}
variable {nm q : Str} {C N : Addr} {bs bm : List Value} {hdct : Bool} {sn : List Str} {sub : List Value} {ab : Bool} {col : Option Bool} {dd : Option Addr} {k0 k1 k2 k3 k5 : Option Value}
theorem kw_check (hT : refsVE bm = true) {f : Str} {v : Value} {Q : Unit → Shared → Prop}
    (hC : h.get? C = some (excClassObj nm q C N bs bm hdct sn sub ab col dd k0 k1 k2 k3 k5 "ValueError.__new__")) (want : Q () ⟨h, g, d, t, os⟩) :
    wpAny M A (checkBuiltinCall "ValueError.__new__" ⟨[.ref C], [(f, v)]⟩) Q E ⟨h, g, d, t, os⟩ := by
  have F := PySem.F.excBase_ValueError
  have holds : (Value.ref C :: bm).contains (.type "ValueError") = true := by
    rw [List.contains_cons, refsVE_contains "ValueError" bm hT, F.hasB, Bool.or_true]
  simp only [checkBuiltinCall, F.newKind, F.newSplit, F.newRow]
  repeat (first
    | refine wpAny_loadPart_at hC ?_
    | (refine wpAny_isSubtype_exc hC ?_; rw [holds])
    | refine wpAny_staticBase_exc hC ?_
    | refine wpAny_madeBy_exc hC ?_
    | wp_step
    | simp only [bne_self_eq_false, Bool.false_eq_true, if_false])
  exact want
end
section
variable {prog : Program} {w : World} {A : Around} {E : Value → Shared → Prop} {R : Result → Shared → Prop} {h : Heap} {g : Array GenState} {d : Drawn} {t : Nat} {os : OsState}
variable {nm q : Str} {C N : Addr} {bs bm : List Value} {hdct : Bool} {sn : List Str} {sub : List Value} {ab : Bool} {col : Option Bool} {dd : Option Addr} {k0 k1 k2 k3 k5 : Option Value} {f : Str} {v : Value}
/-- the heap with the fresh exception and its empty args -/
abbrev kwHeap (h : Heap) (C : Addr) : Heap := (h.push (PySem.W.kdv_tup [])).push (excO C h.objs.size)
theorem kw_new (hT : refsVE bm = true) (hC : h.get? C = some (excClassObj nm q C N bs bm hdct sn sub ab col dd k0 k1 k2 k3 k5 "ValueError.__new__"))
    (want : R (.ok (.ret (.ref (h.objs.size + 1)))) ⟨kwHeap h C, g, d, t, os⟩) :
    codeAny (model prog w) A (.builtin "ValueError.__new__" ⟨[.ref C], [(f, v)]⟩) R ⟨h, g, d, t, os⟩ := by
  have F := PySem.F.excBase_ValueError
  have e1 := F.ends
  have has : ∀ X : String, (Value.ref C :: bm).contains (.type X) = ([Value.type "ValueError", .type "Exception", .type "BaseException", .type "object"] : List Value).contains (.type X) := by
    intro X
    rw [List.contains_cons, refsVE_contains X bm hT]
    simp
  have c1 : (Value.ref C :: bm).contains (.type "ValueError") = true := (has _).trans F.hasB
  have c2 : (Value.ref C :: bm).contains (.type "AttributeError") = false := (has _).trans F.noAttr
  have c3 : (Value.ref C :: bm).contains (.type "NameError") = false := (has _).trans F.noName
  apply codeAny_builtinAt F.entry
  unfold Builtin.«BaseException.__new__»
  apply PySem.wpAt_bind
  show PySem.wpAt _ _ _ (stack >>= _) _ _ _
  refine PySem.wpAt_bind (PySem.wpAt_stack fun p below => ?_)
  refine PySem.wpAt_of_wpAny ?_
  wp_walk
  apply PySem.wpAt_of_wpAny
  rw [F.owner]
  repeat (first
    | with_reducible refine wpAny_loadPart_at hC ?_
    | with_reducible refine wpAny_madeHere_exc F.canon hC ?_
    | (with_reducible refine wpAny_isSubtype_exc hC ?_; first | rw [c1] | rw [c2] | rw [c3])
    | wp_step)
  show R _ _
  rw [Heap.size_push]
  exact want
theorem kw_type (hT : refsVE bm = true) {fI : Addr} {Q : Fin → Shared → Prop} (hC : h.get? C = some (excClassObj nm q C N bs bm hdct sn sub ab col dd k0 k1 k2 k3 k5 "ValueError.__new__"))
    (hi : PySem.W.Looks (model prog w) h (typeLookup (.ref C) "__init__") (some (.ref fI))) (hb : ∀ self, PySem.W.Looks (model prog w) h (bindSpecial (.ref fI) self) (.ref fI, [self]))
    (run : codeAny (model prog w) A (.call (.ref fI) ⟨[.ref (h.objs.size + 1)], [(f, v)]⟩)
      (fun r s' => match r with | .ok (.ret v) => v = .none ∧ Q (.done (.ret (.ref (h.objs.size + 1)))) s' | .ok _ => False | .error e => E e s') ⟨kwHeap h C, g, d, t, os⟩) :
    wpAny (model prog w) A (Builtin.«type.__call__» ⟨[.ref C], [(f, v)]⟩) Q E ⟨h, g, d, t, os⟩ := by
  have F := PySem.F.excBase_ValueError
  repeat (first
    | with_reducible refine wpAny_madeBy_exc hC ?_
    | with_reducible refine wpAny_loadPart_at hC ?_
    | wp_step)
  apply codeAny_call_builtin_code (Code.quiet_builtin _ F.quiet)
  apply kw_check hT hC
  apply kw_new hT hC
  show wpAny _ _ _ _ _ _
  have old : ∀ b o, h.get? b = some o → (kwHeap h C).get? b = some o := fun b o z => Heap.get?_push_of_some _ (Heap.get?_push_of_some _ z)
  have hC1 := old _ _ hC
  have made : (kwHeap h C).get? (h.objs.size + 1) = some (excO C h.objs.size) := by heap_get
  have own : (Value.ref C :: bm).contains (.ref C) = true := by simp
  have i1 := hi.keeps old
  have b1 := (hb (.ref (h.objs.size + 1))).keeps old
  unfold isInstance
  repeat (first
    | with_reducible refine wpAny_loadPart_at made ?_
    | (with_reducible refine wpAny_isSubtype_exc hC1 ?_; rw [own])
    | wp_step)
  show wpAny _ _ (typeLookup (.ref C) _) _ _ _
  apply i1.at
  apply wpAny_holding
  apply wpAny_bind
  apply b1.at
  apply wpAny_bind
  apply wpAny_call
  apply codeAny_mono run
  intro r s' z
  rcases r with e | (u | _ | _ | _)
  all_goals first
    | exact z.elim
    | exact z
    | (obtain ⟨rfl, z⟩ := z
       first
         | exact wpAny_pure (wpAny_pure z)
         | (wp_walk; exact z))
theorem kw_call (hT : refsVE bm = true) {fI : Addr} (hC : h.get? C = some (excClassObj nm q C N bs bm hdct sn sub ab col dd k0 k1 k2 k3 k5 "ValueError.__new__"))
    (hi : PySem.W.Looks (model prog w) h (typeLookup (.ref C) "__init__") (some (.ref fI))) (hb : ∀ self, PySem.W.Looks (model prog w) h (bindSpecial (.ref fI) self) (.ref fI, [self]))
    (run : codeAny (model prog w) (A.under (.builtin "type.__call__" ⟨[.ref C], [(f, v)]⟩)) (.call (.ref fI) ⟨[.ref (h.objs.size + 1)], [(f, v)]⟩) (PySem.W.InitBack (h.objs.size + 1) R) ⟨kwHeap h C, g, d, t, os⟩) :
    codeAny (model prog w) A (.call (.ref C) ⟨[], [(f, v)]⟩) R ⟨h, g, d, t, os⟩ := by
  have a1 := tc_lookup
  have a2 := tc_bind (.ref C)
  have ty : (⟨h, g, d, t, os⟩ : Shared).TypeIs (.ref C) "type" := ⟨_, hC, rfl⟩
  apply codeAny_of_tree
  show wpAny _ _ (callAny (.ref C) _) _ _ _
  repeat (any_goals (first
    | with_reducible refine wpAny_loadPart_at hC ?_
    | wp_step
    | assumption))
  refine ⟨rfl, ?_⟩
  apply codeAny_call_builtin_at (Code.quiet_builtin _ (by decide +kernel)) entry_typeCall
  apply wpAny_check_type_call_sub hC
  apply kw_type hT hC hi hb
  apply codeAny_mono run
  intro r s' z
  rcases r with e | (u | _ | _ | _) <;> exact z
end
end SM
set_option Elab.async false
set_option linter.all false
set_option maxRecDepth 100000
set_option maxHeartbeats 4000000
/-! Own errors held as values: made by place and by name, their field read, isinstance of them; a power of a great int. -/
namespace SM
open PySem PySem.Spec PyProof.Rows L2 PySem.HandSPX

/-- what the written part says of an own error class at C, its __init__ at fI -/
structure ErrC (K : PySem.W.Frag) (C fI : Addr) : Prop where
  ox : OexC K C
  iC : PySem.W.findIn K (.ref C) "__init__" = some (some (.ref fI))
  tI : PySem.W.typeIn K (.ref fI) = some (.type "function")
  is : ExcC K C
/-- the def __init__ of an error class that stores its one argument as f -/
def spErr (K : PySem.W.Frag) (f : Str) : Sp := fun vs H Q _ => ∃ (a C : Addr) (v : V), vs = [.ref a, v] ∧ OexC K C ∧ PySem.W.findIn K (.ref C) f = some none ∧ H a = some (exo a C none) ∧
  ∀ dx, H dx = none → dx ≠ a → Q .non (upd (upd H dx (exd dx [(f, v)])) a (exo a C (some dx)))
/-- C(e): a new error, its field told -/
def tErr (C : Addr) (f : Str) (te : TE) : TE := fun σ H Q => te σ H fun v H1 => ∀ a dx, H1 a = none → H1 dx = none → dx ≠ a → Q (.ref a) (upd (upd H1 dx (exd dx [(f, v)])) a (exo a C (some dx)))
theorem upd_over {H : Hp} {a b : Addr} {o o' u : HO} (h : b ≠ a) : upd (upd (upd H a o) b u) a o' = upd (upd H b u) a o' := by
  funext c
  by_cases hc : c = a
  · rw [hc, upd_same, upd_same]
  · rw [upd_ne hc, upd_ne hc]
    by_cases hb : c = b
    · rw [hb, upd_same, upd_same]
    · rw [upd_ne hb, upd_ne hb, upd_ne hc]
section
variable {X : Cx} {CX : CXT} {x f : Str} {C fI : Addr} {k : Nat} {fd : FuncData} {ps : List Str} {e : Expr} {te : TE} {p pos kpos : Pos}
theorem run_err {pins : List (Addr × Obj)} {σ : L2.St} {H : Hp} {s : Shared} {Q : VK} {v : V} {u : Value} {ar : Args} {kw : List (Str × Value)} {us : List Value} (T : ErrC X.K C fI) (hf : PySem.W.findIn X.K (.ref C) f = some none) (F : FnOk X.prog X.w X.K X.mg X.base CX k fI fd ps (spErr X.K f))
    (hr : Room (k + 1) X.A) (hx : Passes CX X (fun _ _ _ => False)) (I : Inv X pins σ H s) (rv : RelV v u) (ha : ar = ⟨us, kw⟩)
    (bt : ∀ (s' : Shared), X.K.In s'.heap → BindsTo s' fd ⟨.ref (s.heap.objs.size + 1) :: us, kw⟩ (ps.zip [.ref (s.heap.objs.size + 1), u])) (old : List Value) (hold : old.length ≤ sizeLine)
    (make : ∀ {R : Result → Shared → Prop}, codeAny (model X.prog X.w) (X.A.under (.builtin "type.__call__" ⟨.ref C :: us, kw⟩)) (.call (.ref fI) ⟨.ref (s.heap.objs.size + 1) :: us, kw⟩) (PySem.W.InitBack (s.heap.objs.size + 1) R)
      { s with heap := (s.heap.push (PySem.W.kdv_tup old)).push (excO C s.heap.objs.size) } → codeAny (model X.prog X.w) X.A (.call (.ref C) ar) R s)
    (want : ∀ a dx, H a = none → H dx = none → dx ≠ a → Q (.ref a) (upd (upd H dx (exd dx [(f, v)])) a (exo a C (some dx)))) :
    wpAny (model X.prog X.w) X.A (call (.ref C) us kw) (EP X pins σ Q) X.xe s := by
  subst ha
  have fresh : H (s.heap.objs.size + 1) = none := I.hok.fresh (Nat.le_succ _)
  have keep : ∀ b o, s.heap.get? b = some o → ((s.heap.push (PySem.W.kdv_tup old)).push (excO C s.heap.objs.size)).get? b = some o := fun b o z => Heap.get?_push_of_some _ (Heap.get?_push_of_some _ z)
  have there : ((s.heap.push (PySem.W.kdv_tup old)).push (excO C s.heap.objs.size)).get? (s.heap.objs.size + 1) = some (excO C s.heap.objs.size) := by heap_get
  have I2 : Inv X pins σ (upd H (s.heap.objs.size + 1) (exo (s.heap.objs.size + 1) C none)) { s with heap := (s.heap.push (PySem.W.kdv_tup old)).push (excO C s.heap.objs.size), toks := s.toks } :=
    I.laid (t' := s.toks) (a := s.heap.objs.size + 1) (o := exo (s.heap.objs.size + 1) C none) keep (Nat.le_succ _) (exo_ok there)
  apply wpAny_call
  apply make
  have rr : Vals [V.ref (s.heap.objs.size + 1), v] [Value.ref (s.heap.objs.size + 1), u] := .cons rfl (.cons rv .nil)
  have q : spErr X.K f [V.ref (s.heap.objs.size + 1), v] (upd H (s.heap.objs.size + 1) (exo (s.heap.objs.size + 1) C none)) (fun z H2 => z = .non ∧ Q (.ref (s.heap.objs.size + 1)) H2) (fun _ _ _ => False) := by
    refine ⟨_, C, v, rfl, T.ox, hf, upd_same, fun dx n ne => ⟨rfl, ?_⟩⟩
    rw [upd_over ne]
    rw [upd_ne ne] at n
    exact want _ _ fresh n ne
  apply codeAny_mono (F.run _ X.stack _ _ ⟨.ref (s.heap.objs.size + 1) :: us, kw⟩ [.ref (s.heap.objs.size + 1), u] _ _ (fun _ _ _ => False) (hr.make C us kw) (I2.env0.make C us kw) (bt _ I2.kIn) rr q)
  intro r s' z
  cases r with
  | error er => exact hx pins σ _ _ er s' I2 z
  | ok fl =>
    cases fl with
    | next => exact z.elim
    | brk => exact z.elim
    | cont => exact z.elim
    | ret w =>
      obtain ⟨y, H', I3, ry, ey, q3⟩ := I2.after z
      subst ey
      exact ⟨ry, ⟨V.ref (s.heap.objs.size + 1), H', I3, rfl, q3⟩⟩
theorem pe_err (T : ErrC X.K C fI) (hf : PySem.W.findIn X.K (.ref C) f = some none) (F : FnOk X.prog X.w X.K X.mg X.base CX k fI fd ["self", f] (spErr X.K f)) (hr : Room (k + 1) X.A) (hb : Binds X.K fd ["self", f] []) (hx : Passes CX X (fun _ _ _ => False))
    (hm : X.mg x = some (.ref C)) (hg : Gl X x) (he : PE X e te) (hdb : (x == ("__debug__" : Str)) = false := by decide) (hs : starEach [e] X.env = (false, eval e X.env) :: starEach [] X.env := by rfl) (hpl : (backTo pos (starEach [] X.env)).any (·.1) = false := by rfl) :
    PE X (.Call (.Name x p) [e] [] pos) (tErr C f te) := by
  constructor
  intro pins s σ H Q I h
  obtain ⟨nm, q, N, bs, bm, sn, sub, ab, col, dd, k0, k1, k2, k3, k5, hC, hbm⟩ := T.ox.cls
  apply wpAny_Call_Name_kw
  apply ld_glob I hg hm _ hdb
  let W : List V → Hp → Prop := fun vs H1 => match vs with
    | [v] => ∀ a dx, H1 a = none → H1 dx = none → dx ≠ a → Q (.ref a) (upd (upd H1 dx (exd dx [(f, v)])) a (exo a C (some dx)))
    | _ => False
  refine PySem.W.callWith_K (h₀ := X.base) I.ok.mod.kin T.ox.kC (thn ((pa_cons he pa_nil hs).run pos pins s σ H W I h) fun us s1 z => ?_) hs hpl
  obtain ⟨vs, H1, I1, r, want⟩ := z
  match vs, r, want with
  | [v], .cons (b := u) ru .nil, want =>
    refine ⟨I1.kIn, run_err (us := [u]) (kw := []) (ps := ["self", f]) (old := [u]) T hf F hr hx I1 ru rfl (fun s' kin => hb s' [.ref (s1.heap.objs.size + 1), u] kin rfl) (by show 1 ≤ sizeLine; rw [sizeLine_eq]; omega) (fun run => ?_) want⟩
    obtain ⟨hp, g, d, t, os⟩ := s1
    exact call_own PySem.F.excBase_ValueError (fun Y => refsVE_contains Y bm hbm) (I1.kIn _ _ hC) (PySem.W.looks_findIn I1.kIn T.iC) (fun self => PySem.W.bind_fn I1.kIn self T.tI) (by show 1 ≤ sizeLine; rw [sizeLine_eq]; omega) run
/-- C(f=e) -/
theorem pe_errK (T : ErrC X.K C fI) (hf : PySem.W.findIn X.K (.ref C) f = some none) (F : FnOk X.prog X.w X.K X.mg X.base CX k fI fd ["self", f] (spErr X.K f)) (hr : Room (k + 1) X.A)
    (hb : ∀ (s : Shared) (self u : Value), BindsTo s fd ⟨[self], [(f, u)]⟩ [("self", self), (f, u)]) (hx : Passes CX X (fun _ _ _ => False))
    (hm : X.mg x = some (.ref C)) (hg : Gl X x) (he : PE X e te) (hdb : (x == ("__debug__" : Str)) = false := by decide) (hall : (backToKw pos (keywordEach [⟨some f, e, kpos⟩] X.env)).all (·.1.isSome) = true := by rfl)
    (hks : (backToKw pos (keywordEach [⟨some f, e, kpos⟩] X.env)).filterMap (·.1) = [f] := by rfl) (hpl : ((backTo pos (starEach [] X.env)).any (·.1) || (backToKw pos (keywordEach [⟨some f, e, kpos⟩] X.env)).any (·.1.isNone)) = false := by rfl) :
    PE X (.Call (.Name x p) [] [⟨some f, e, kpos⟩] pos) (tErr C f te) := by
  constructor
  intro pins s σ H Q I h
  obtain ⟨nm, q, N, bs, bm, sn, sub, ab, col, dd, k0, k1, k2, k3, k5, hC, hbm⟩ := T.ox.cls
  apply wpAny_Call_Name_kw
  apply ld_glob I hg hm _ hdb
  let W : List V → Hp → Prop := fun vs H1 => match vs with
    | [v] => ∀ a dx, H1 a = none → H1 dx = none → dx ≠ a → Q (.ref a) (upd (upd H1 dx (exd dx [(f, v)])) a (exo a C (some dx)))
    | _ => False
  refine PySem.W.callWith_KW0 (h₀ := X.base) I.ok.mod.kin T.ox.kC hall (thn ((pk_cons he pk_nil).run pos pins s σ H W I h) fun us s1 z => ?_) hpl
  obtain ⟨vs, H1, I1, r, want⟩ := z
  rw [hks]
  match vs, r, want with
  | [v], .cons (b := u) ru .nil, want =>
    refine ⟨I1.kIn, run_err (us := []) (kw := [(f, u)]) (ps := ["self", f]) (old := []) T hf F hr hx I1 ru rfl (fun s' kin => hb s' _ u) (Nat.zero_le _) (fun run => ?_) want⟩
    obtain ⟨hp, g, d, t, os⟩ := s1
    exact kw_call hbm (I1.kIn _ _ hC) (PySem.W.looks_findIn I1.kIn T.iC) (fun self => PySem.W.bind_fn I1.kIn self T.tI) run

/-- e.f, e an error that is held -/
def tErrF (K : PySem.W.Frag) (f : Str) (te : TE) : TE := fun σ H Q => te σ H fun z H1 => ∃ (a C dx : Addr) (fs : List (Str × V)) (v : V), z = .ref a ∧ H1 a = some (exo a C (some dx)) ∧ H1 dx = some (exd dx fs) ∧ ExcC K C ∧ PySem.W.findIn K (.ref C) f = some none ∧ fs.lookup f = some v ∧ Q v H1
theorem inst_err {pins : List (Addr × Obj)} {σ : L2.St} {H : Hp} {s : Shared} {a dx : Addr} {fs : List (Str × V)} (I : Inv X pins σ H s) (ea : H a = some (exo a C (some dx))) (ed : H dx = some (exd dx fs)) :
    ∃ (ox : Obj) (od : Obj) (mA : Str → Option Value), PySem.W.InstAt s.heap a ox C (some od) ∧ (∀ g, PySem.W.lookIn g od = some (mA g)) ∧ ∀ g, RelO (fs.lookup g) (mA g) := by
  obtain ⟨t1, ho⟩ := exo_at I.hok ea
  obtain ⟨mA, hns, rel⟩ := exd_at I.hok ed
  obtain ⟨od, hod, hl⟩ := lookIn_ns hns
  exact ⟨_, od, mA, ⟨ho, rfl, rfl, hod⟩, hl, rel⟩
theorem pe_errF (he : PE X e te) (hb : attributeBase e f X.env (eval e X.env) = eval e X.env := by rfl) : PE X (.Attribute e f pos) (tErrF X.K f te) := by
  constructor
  intro pins s σ H Q I h
  refine attr_of hb (thn (he.run pins s σ H _ I h) fun u s1 z => ?_)
  obtain ⟨y, H1, I1, ry, a, C, dx, fs, v, ey, ea, ed, T, hno, l, q⟩ := z
  subst ey
  obtain rfl : u = Value.ref a := ry
  obtain ⟨ox, od, mA, J, hl, rel⟩ := inst_err I1 ea ed
  obtain ⟨w, hw, rw'⟩ := RelO.some_of (v := v) (o := mA f) (by rw [← l]; exact rel f)
  exact exc_get I1.kIn J T.hg T.hk T.hs (PySem.W.findObj_own T.hd hno rfl (by rw [hl, hw])) (handed_of rw') ⟨v, H1, I1.tok _, rw', q⟩
/-- isinstance(e, c), e an error that is held -/
def rErrI (K : PySem.W.Frag) : List V → Hp → VK → Prop := fun xs H Q => ∃ (a C dx : Addr) (fs : List (Str × V)) (c : V) (cv : Value) (b : Bool), xs = [.ref a, c] ∧ H a = some (exo a C (some dx)) ∧ H dx = some (exd dx fs) ∧ ExcC K C ∧ (∀ u, RelV c u → u = cv) ∧ PySem.W.kitOne K (.ref C) cv = some b ∧ Q (.bl b) H
theorem call_errI : CallR X (.builtin "isinstance") (rErrI X.K) := by
  intro pins s σ H xs us Q I r h
  obtain ⟨a, C, dx, fs, c, cv, b, rfl, ea, ed, T, hcv, hk, q⟩ := h
  match us, r with
  | [_, uc], .cons ra (.cons rc .nil) =>
    obtain rfl := ra
    have ec := hcv _ rc
    subst ec
    obtain ⟨ox, od, mA, J, hl, rel⟩ := inst_err I ea ed
    have cl : (PySem.W.clsIn X.K C).isSome = true := by
      obtain ⟨cd, hc, _⟩ := PySem.W.any_some T.hd
      rw [hc]
      rfl
    exact PySem.W.kia_one (PySem.W.kitx_exc cl T.hg T.hk T.hs T.ha T.hn T.ht T.hm) I.kIn J hk (fun z => nomatch z) fun tk => ⟨.bl b, H, I.tok tk, rfl, q⟩
end
/-- a power of a great int -/
theorem op_powW {X : Cx} : OpR X (binaryOp .Pow) (rI (fun i j => 0 ≤ j ∧ j ≤ 60 ∧ Builtin.Int.intBits i ≤ 2000000) fun i j => .int (i ^ j.toNat)) :=
  opI fun i j _ _ _ _ _ hc q => pow_int hc.1 (by
    obtain ⟨h0, h1, h2⟩ := hc
    have h3 : ((Builtin.Int.intBits i : Nat) : Int) * j ≤ 2000000 * 60 := Int.mul_le_mul (by omega) h1 h0 (by decide)
    exact Int.le_trans h3 (by decide)) q
end SM
set_option Elab.async false
set_option linter.all false
set_option maxRecDepth 100000
set_option maxHeartbeats 2000000
/-! Names of the top by their places in two lists; a def's promise as one thing; operators for whatever kinds meet. -/
namespace SM
open PySem PySem.Spec PyProof.Rows L2

structure Cw (fas : List He.Fa) (fns : List He.DefD) (K : PySem.W.Frag) (mg : Str → Option Value) : Prop where
  ex : ∃ h : Heap, K.In h ∧ h.Ns mainGlobals mg
  says : He.SaysD fas fns K
section
variable {fas : List He.Fa} {fns : List He.DefD} {K : PySem.W.Frag} {mg : Str → Option Value}
theorem Cw.glo (W : Cw fas fns K mg) (i : Nat) {x : Str} (h : fas[i]? = some (.glo x) := by rfl) : mg x = some (.ref (He.ga K x)) := by
  obtain ⟨hp, X, G⟩ := W.ex
  exact He.glo_ok X G (W.says.fact i h)
theorem Cw.fre (W : Cw fas fns K mg) (i : Nat) {x : Str} (h : fas[i]? = some (.free x) := by rfl) : mg x = none := by
  obtain ⟨hp, X, G⟩ := W.ex
  exact He.free_ok X G (W.says.fact i h)
theorem Cw.fact (W : Cw fas fns K mg) (i : Nat) {f : He.Fa} (h : fas[i]? = some f := by rfl) : f.ok K = true := W.says.fact i h
end

/-- a def of the top, by its name: where it stands, how it binds, what it promises -/
structure DefOk (P : Program) (w : World) (K : PySem.W.Frag) (mg : Str → Option Value) (base : Heap) (CX : CXT) (k : Nat) (x : Str) (ps : List Str) (sp : Sp) : Prop where
  ex : ∃ fd, FnOk P w K mg base CX k (He.ga K x) fd ps sp ∧ Binds K fd ps []
  kp : PySem.W.keepIn K (.ref (He.ga K x)) = true
  at_ : mg x = some (.ref (He.ga K x))
structure DefG (P : Program) (w : World) (K : PySem.W.Frag) (mg : Str → Option Value) (base : Heap) (CX : CXT) (k : Nat) (x : Str) (ps : List Str) (sp : Sp) : Prop where
  ex : ∃ fd, FnG P w K mg base CX k (He.ga K x) fd ps sp ∧ Binds K fd ps []
  kp : PySem.W.keepIn K (.ref (He.ga K x)) = true
  at_ : mg x = some (.ref (He.ga K x))
section
variable {P : Program} {w : World} {K : PySem.W.Frag} {mg : Str → Option Value} {base : Heap} {CX : CXT} {k : Nat} {x : Str} {ps : List Str} {sp : Sp}
theorem DefOk.g (D : DefOk P w K mg base CX k x ps sp) : DefG P w K mg base CX k x ps sp := by
  obtain ⟨⟨fd, F, b⟩, kp, at_⟩ := D
  exact ⟨⟨fd, FnG.of F, b⟩, kp, at_⟩
/-- from the body of a def of the top; it may let out what CX says -/
theorem DefOk.of {fas : List He.Fa} {fns : List He.DefD} (W : Cw fas fns K mg) (i j : Nat) {st : Stmt} {N : List Str} (hd : fns[i]? = some ⟨(x, none), x, x, defArgs st, defBody st, defScope st, [], []⟩) (hg : fas[j]? = some (.glo x))
    (S : FnScope N ps (defScope st)) (bnd : ∀ (kV doc pm : Value) (an : Option Addr) (cdv ct : Value) (us : List Value), us.length = ps.length → bindArgs (PySem.W.fnOf x x (defArgs st) (defBody st) (defScope st) .none kV doc pm an cdv ct) ⟨us, []⟩ = pure (ps.zip us))
    (len : ∀ vs H Q E, sp vs H Q E → vs.length = ps.length)
    (body : ∀ (cdv : Value) (A : Around) (outer : List Env) (s : Shared) (H : Hp) (vs : List V) (Q : VK) (E : XK), Room k (A.deeper (envOfC x (defScope st) s.heap.objs.size (He.ga K x) cdv)) → sp vs H Q E →
      ∃ t, PSs (cxOf CX P w K mg base N x (defScope st) (He.ga K x) cdv A outer s H E) (defBody st) t ∧ t { nx := fun _ H' => Q .non H', rt := Q } (start N vs) H) :
    DefOk P w K mg base CX (k + 1) x ps sp := by
  obtain ⟨fd, F⟩ := W.says.def_ i hd
  exact ⟨⟨fd, FunD.ok F S len body, FunD.bindsN F bnd⟩, F.kp, W.glo j hg⟩
theorem DefG.of {fas : List He.Fa} {fns : List He.DefD} (W : Cw fas fns K mg) (i j : Nat) {st : Stmt} {N : List Str} (hd : fns[i]? = some ⟨(x, none), x, x, defArgs st, defBody st, defScope st, [], []⟩) (hg : fas[j]? = some (.glo x))
    (S : FnScope N ps (defScope st)) (bnd : ∀ (kV doc pm : Value) (an : Option Addr) (cdv ct : Value) (us : List Value), us.length = ps.length → bindArgs (PySem.W.fnOf x x (defArgs st) (defBody st) (defScope st) .none kV doc pm an cdv ct) ⟨us, []⟩ = pure (ps.zip us))
    (len : ∀ vs H Q E, sp vs H Q E → vs.length = ps.length)
    (body : ∀ (cdv : Value) (B : Around) (up : List Env) (s : Shared) (H : Hp) (vs : List V) (Q : VK) (E : XK), B.guards = some [] → Room k (B.deeper (envOfC x (defScope st) s.heap.objs.size (He.ga K x) cdv)) → sp vs H Q E →
      ∃ t, PSs (cxOf CX P w K mg base N x (defScope st) (He.ga K x) cdv B up s H E) (defBody st) t ∧ t { nx := fun _ H' => Q .non H', rt := Q } (start N vs) H) :
    DefG P w K mg base CX (k + 1) x ps sp := by
  obtain ⟨fd, F⟩ := W.says.def_ i hd
  obtain ⟨oc, od, dV, kV, doc, pm, an, cdv, ct, osl, e, lk, hcd, hD, hK⟩ := F.ex
  have e0 : dV = .none := by
    rcases hD with ⟨_, z⟩ | ⟨z, _⟩
    · exact z
    · exact absurd rfl z
  subst e0
  refine ⟨⟨fd, okG ⟨⟨oc, od, kV, doc, pm, an, cdv, ct, osl, e, lk, hcd⟩, F.kp⟩ S len body, FunD.bindsN F bnd⟩, F.kp, W.glo j hg⟩
theorem FnG.ofF {f : Addr} {fd : FuncData} {st : Stmt} {N : List Str} (F : FunD K x x (defArgs st) (defBody st) (defScope st) [] [] f fd) (S : FnScope N ps (defScope st)) (len : ∀ vs H Q E, sp vs H Q E → vs.length = ps.length)
    (body : ∀ (cdv : Value) (B : Around) (up : List Env) (s : Shared) (H : Hp) (vs : List V) (Q : VK) (E : XK), B.guards = some [] → Room k (B.deeper (envOfC x (defScope st) s.heap.objs.size f cdv)) → sp vs H Q E →
      ∃ t, PSs (cxOf CX P w K mg base N x (defScope st) f cdv B up s H E) (defBody st) t ∧ t { nx := fun _ H' => Q .non H', rt := Q } (start N vs) H) :
    FnG P w K mg base CX (k + 1) f fd ps sp := by
  obtain ⟨oc, od, dV, kV, doc, pm, an, cdv, ct, osl, e, lk, hcd, hD, hK⟩ := F.ex
  have e0 : dV = .none := by
    rcases hD with ⟨_, z⟩ | ⟨z, _⟩
    · exact z
    · exact absurd rfl z
  subst e0
  exact okG ⟨⟨oc, od, kV, doc, pm, an, cdv, ct, osl, e, lk, hcd⟩, F.kp⟩ S len body
end
section
variable {X : Cx} {CX : CXT} {k : Nat} {x : Str} {ps : List Str} {sp : Sp} {E : XK} {p pos : Pos} {e : Expr} {es : List Expr} {t : TA}
theorem pe_callD (D : DefOk X.prog X.w X.K X.mg X.base CX k x ps sp) (hr : Room k X.A) (hx : Passes CX X E) (ha : PA X (e :: es) t) (hg : Gl X x := by rfl) (hdb : (x == ("__debug__" : Str)) = false := by decide)
    (he : starEach (e :: es) X.env = (false, eval e X.env) :: starEach es X.env := by rfl) (hpl : (backTo pos (starEach es X.env)).any (·.1) = false := by rfl) :
    PE X (.Call (.Name x p) (e :: es) [] pos) (tCall sp [] E t) := by
  obtain ⟨⟨fd, F, b⟩, kp, at_⟩ := D
  exact pe_call F hr hg at_ kp b .nil hx ha hdb he hpl
theorem pe_callDG (D : DefG X.prog X.w X.K X.mg X.base CX k x ps sp) (gd : X.A.guards = some []) (hr : Room k X.A) (hx : Passes CX X E) (ha : PA X (e :: es) t) (hg : Gl X x := by rfl) (hdb : (x == ("__debug__" : Str)) = false := by decide)
    (he : starEach (e :: es) X.env = (false, eval e X.env) :: starEach es X.env := by rfl) (hpl : (backTo pos (starEach es X.env)).any (·.1) = false := by rfl) :
    PE X (.Call (.Name x p) (e :: es) [] pos) (tCall sp [] E t) := by
  obtain ⟨⟨fd, F, b⟩, kp, at_⟩ := D
  exact pe_callG F gd hr hg at_ kp b .nil hx ha hdb he hpl
end

/-! ### operators of whatever kind -/
section
variable {X : Cx}
def orR (r r' : R2) : R2 := fun x y H Q => r x y H Q ∨ r' x y H Q
theorem op_or2 {f : Value → Value → Sem Value} {r r' : R2} (h : OpR X f r) (h' : OpR X f r') : OpR X f (orR r r') := by
  intro pins s σ H x y u v Q I rx ry z
  rcases z with z | z
  · exact h pins s σ H x y u v Q I rx ry z
  · exact h' pins s σ H x y u v Q I rx ry z
def orC (r r' : List V → Hp → VK → Prop) : List V → Hp → VK → Prop := fun xs H Q => r xs H Q ∨ r' xs H Q
theorem call_or {f : Value} {r r' : List V → Hp → VK → Prop} (h : CallR X f r) (h' : CallR X f r') : CallR X f (orC r r') := by
  intro pins s σ H xs us Q I rv z
  rcases z with z | z
  · exact h pins s σ H xs us Q I rv z
  · exact h' pins s σ H xs us Q I rv z
end
end SM
set_option Elab.async false
set_option linter.all false
set_option maxRecDepth 100000
set_option maxHeartbeats 2000000
/-! What stays of a heap; the drawing of numbers. -/
namespace SM
open PySem PySem.Spec PyProof.Rows L2

/-- all that was tracked stands as it stood, but what m names -/
def Keep (m : List Addr) (H H' : Hp) : Prop := ∀ b o, b ∉ m → H b = some o → H' b = some o
theorem Keep.refl {m : List Addr} {H : Hp} : Keep m H H := fun _ _ _ h => h
theorem Keep.trans {m : List Addr} {H H1 H2 : Hp} (h : Keep m H H1) (h' : Keep m H1 H2) : Keep m H H2 := fun b o n e => h' b o n (h b o n e)
theorem Keep.up {m m' : List Addr} {H H' : Hp} (h : Keep m H H') (s : ∀ a ∈ m, a ∈ m') : Keep m' H H' := fun b o n e => h b o (fun z => n (s b z)) e
theorem Keep.of_nil {m : List Addr} {H H' : Hp} (h : Keep [] H H') : Keep m H H' := h.up (fun a z => by cases z)
theorem Keep.new {m : List Addr} {H : Hp} {p : Addr} {o : HO} (h : H p = none) : Keep m H (upd H p o) := fun b u _ e => by
  rw [upd_ne (ne_of_none e h)]
  exact e
theorem Keep.at_ {m : List Addr} {H : Hp} {p : Addr} {o : HO} (h : p ∈ m) : Keep m H (upd H p o) := fun b u n e => by
  rw [upd_ne (fun z => n (by rw [z]; exact h))]
  exact e
/-- what was new to H may change -/
theorem Keep.own {m : List Addr} {H H' : Hp} {p : Addr} {o : HO} (k : Keep m H H') (h : H p = none) : Keep m H (upd H' p o) := fun b u n e => by
  rw [upd_ne (ne_of_none e h)]
  exact k b u n e
theorem Keep.same {H H' : Hp} (h : Keep [] H H') : Same H H' := fun b o e => h b o (by simp) e
theorem Keep.ofSame {m : List Addr} {H H' : Hp} (h : Same H H') : Keep m H H' := fun b o _ e => h b o e
theorem Keep.seqL {K : PySem.W.Frag} {m : List Addr} {H H' : Hp} {a : Addr} {xs : List V} (k : Keep m H H') (n : a ∉ m) (h : SqL K H a xs) : SqL K H' a xs := by
  rcases h with (h | ⟨o, h⟩) | h
  · exact .inl (.inl (k _ _ n h))
  · exact .inl (.inr ⟨o, k _ _ n h⟩)
  · exact .inr h
theorem Keep.seqT {K : PySem.W.Frag} {m : List Addr} {H H' : Hp} {a : Addr} {xs : List V} (k : Keep m H H') (n : a ∉ m) (h : SqT K H a xs) : SqT K H' a xs := by
  rcases h with (h | ⟨o, h⟩) | h
  · exact .inl (.inl (k _ _ n h))
  · exact .inl (.inr ⟨o, k _ _ n h⟩)
  · exact .inr h
theorem Keep.free {m : List Addr} {H H' : Hp} (k : Keep m H H') {p : Addr} (n : p ∉ m) (h : H' p = none) : H p = none := by
  cases e : H p with
  | none => rfl
  | some o =>
    rw [k p o n e] at h
    cases h

/-- the source of draws: two numbers, none below nought, the second one bounded -/
def Src (H : Hp) (a : Addr) : Prop := ∃ x y : Int, H a = some (.lst [.int x, .int y]) ∧ 0 ≤ x ∧ 0 ≤ y ∧ y < 1099511627776
theorem Src.keep {m : List Addr} {H H' : Hp} {a : Addr} (h : Src H a) (k : Keep m H H') (n : a ∉ m) : Src H' a := by
  obtain ⟨x, y, e, r⟩ := h
  exact ⟨x, y, k _ _ n e, r⟩

/-! ### bits -/
theorem bits_lt {N : Nat} {i : Int} (h : Builtin.Int.intBits i ≤ N) : i.natAbs < 2 ^ N := by
  unfold Builtin.Int.intBits at h
  by_cases z : i = 0
  · subst z
    exact Nat.two_pow_pos N
  · have e : (i == 0) = false := by simpa using z
    rw [e] at h
    have h' : i.natAbs.log2 + 1 ≤ N := h
    exact (Nat.log2_lt (by omega)).mp h'
theorem bits_le {N : Nat} {i : Int} (h : i.natAbs < 2 ^ N) : Builtin.Int.intBits i ≤ N := by
  unfold Builtin.Int.intBits
  by_cases z : i = 0
  · subst z
    exact Nat.zero_le N
  · have e : (i == 0) = false := by simpa using z
    rw [e]
    exact (Nat.log2_lt (by omega)).mpr h
theorem bits_sum {N : Nat} (hN : 60 ≤ N) {m c : Int} (hm : m.natAbs < 2 ^ 60) (hc : Builtin.Int.intBits c ≤ N) : Builtin.Int.intBits (m + c) ≤ N + 1 := by
  apply bits_le
  have h1 := bits_lt hc
  have h2 : 2 ^ 60 ≤ 2 ^ N := Nat.pow_le_pow_right (by decide) hN
  have h3 : (m + c).natAbs ≤ m.natAbs + c.natAbs := Int.natAbs_add_le m c
  rw [Nat.pow_succ]
  generalize 2 ^ N = Z at *
  generalize 2 ^ 60 = Y at *
  omega
theorem fmod_pos {i j : Int} (h : 0 < j) : 0 ≤ i.fmod j ∧ i.fmod j < j := by
  rw [Int.fmod_eq_emod_of_nonneg _ (by omega)]
  exact ⟨Int.emod_nonneg _ (by omega), Int.emod_lt_of_pos _ h⟩
theorem fdiv_nn {i j : Int} (h0 : 0 ≤ i) (h : 0 < j) : 0 ≤ i.fdiv j := by
  rw [Int.fdiv_eq_ediv_of_nonneg _ (by omega)]
  exact Int.ediv_nonneg h0 (by omega)

/-! ### promises of the drawing -/
def spSource (K : PySem.W.Frag) : Sp := fun vs H Q _ => ∃ (s : Addr) (ns : List Int) (start : Int), vs = [.ref s, .int start] ∧ SqL K H s (ns.map V.int) ∧ ns.length ≤ 63 ∧ (∀ n ∈ ns, Builtin.Int.intBits n ≤ 1048576) ∧ 0 ≤ start ∧ start < 1000 ∧
  ∀ p H', H p = none → Keep [] H H' → Src H' p → Q (.ref p) H'
def spDraw : Sp := fun vs H Q _ => ∃ (a : Addr) (span : Int), vs = [.ref a, .int span] ∧ Src H a ∧ 0 < span ∧ span < 1000000 ∧
  ∀ (r : Int) (H' : Hp), 0 ≤ r → r < span → Keep [a] H H' → Src H' a → Q (.int r) H'
/-- things[draw]: a list or a tuple -/
def spPick (K : PySem.W.Frag) : Sp := fun vs H Q _ => ∃ (a l : Addr) (xs : List V), vs = [.ref a, .ref l] ∧ Src H a ∧ (SqL K H l xs ∨ SqT K H l xs) ∧ l ≠ a ∧ 0 < xs.length ∧ xs.length < 100000 ∧
  ∀ (i : Nat) (v : V) (H' : Hp), xs[i]? = some v → Keep [a] H H' → Src H' a → Q v H'
end SM
set_option Elab.async false
set_option linter.all false
set_option maxRecDepth 100000
set_option maxHeartbeats 2000000
/-! What a head must look at of an own error class. -/
namespace SM
open PySem PySem.Spec PyProof.Rows L2 PySem.HandSPX He
def ve? (K : PySem.W.Frag) (C : Addr) : Bool := match K.lookup C with
  | some ⟨.type t, _, .cls cd, sl⟩ => (match cd.mro, sl.toList with
    | .ref C' :: bm, [_, _, _, _, some (.builtin n), _] => decide (t = "type") && (decide (C' = C) && (decide (n = "ValueError.__new__") && (!cd.hasDel && (cd.hasDict && refsVE bm))))
    | _, _ => false)
  | _ => false
theorem ve_ok {K : PySem.W.Frag} {C : Addr} (h : ve? K C = true) :
    ∃ nm q N bs bm sn sub ab col dd k0 k1 k2 k3 k5, K.lookup C = some (excClassObj nm q C N bs bm true sn sub ab col dd k0 k1 k2 k3 k5 "ValueError.__new__") ∧ refsVE bm = true := by
  unfold ve? at h
  split at h
  · rename_i t dd cd sl ho
    split at h
    · rename_i C' bm k0 k1 k2 k3 n k5 hm hs
      obtain ⟨h1, h⟩ := ba h
      obtain ⟨h2, h⟩ := ba h
      obtain ⟨h3, h⟩ := ba h
      obtain ⟨h4, h⟩ := ba h
      obtain ⟨h5, h6⟩ := ba h
      have e1 := of_decide_eq_true h1
      have e2 := of_decide_eq_true h2
      have e3 := of_decide_eq_true h3
      have e4 : cd.hasDel = false := by simpa using h4
      subst e1 e2 e3
      obtain ⟨nm, bs, mro, ns, qn, hd, sn, sub, ab, col, del⟩ := cd
      dsimp only at hm e4 h5
      subst hm e4 h5
      have z : sl = #[k0, k1, k2, k3, some (.builtin "ValueError.__new__"), k5] := by
        obtain ⟨l⟩ := sl
        dsimp only at hs
        rw [hs]
      subst z
      exact ⟨nm, qn, ns, bs, bm, sn, sub, ab, col, dd, k0, k1, k2, k3, k5, ho, h6⟩
    · cases h
  · cases h
/-- the error class C, its __init__ at f -/
def err? (K : PySem.W.Frag) (C f : Addr) : Bool :=
  ve? K C && (eqO (PySem.W.findIn K (.ref C) "__setattr__") (some (some (.builtin "object.__setattr__"))) && (decide (PySem.W.subIn K (.ref C) (.type "BaseException") = some true) &&
  (decide (PySem.W.typeIn K (.ref C) = some (.type "type")) && (PySem.W.keepIn K (.ref C) && (eqO (PySem.W.findIn K (.ref C) "__init__") (some (some (.ref f))) && (decide (PySem.W.typeIn K (.ref f) = some (.type "function")) &&
  (eqO (PySem.W.findIn K (.ref C) "__getattribute__") (some (some (.builtin "BaseException.__getattribute__"))) && (eqO (PySem.W.findIn K (.ref C) "__getattr__") (some none) && (PySem.W.hasDictIn K C &&
  (eqO (PySem.W.findIn K (.ref C) "__class__") (some (some (.builtin "object.__class__"))) && (eqO (PySem.W.specialIn K (.builtin "object.__class__") "__get__") (some (some (.builtin "getset_descriptor.__get__"))) &&
  (decide (PySem.W.takesIn K (.builtin "object.__class__") = some true) && decide (PySem.W.mroIn K C (.type "object") = some true)))))))))))))
theorem err_ok {K : PySem.W.Frag} {C f : Addr} (h : err? K C f = true) : ErrC K C f := by
  obtain ⟨h1, h⟩ := ba h
  obtain ⟨h2, h⟩ := ba h
  obtain ⟨h3, h⟩ := ba h
  obtain ⟨h4, h⟩ := ba h
  obtain ⟨h5, h⟩ := ba h
  obtain ⟨h6, h⟩ := ba h
  obtain ⟨h7, h⟩ := ba h
  obtain ⟨h8, h⟩ := ba h
  obtain ⟨h9, h⟩ := ba h
  obtain ⟨h10, h⟩ := ba h
  obtain ⟨h11, h⟩ := ba h
  obtain ⟨h12, h⟩ := ba h
  obtain ⟨h13, h14⟩ := ba h
  exact ⟨⟨ve_ok h1, eqO_ok h2, of_decide_eq_true h3, of_decide_eq_true h4, h5⟩, eqO_ok h6, of_decide_eq_true h7, ⟨eqO_ok h8, eqO_ok h9, of_decide_eq_true h3, h10, eqO_ok h11, eqO_ok h12, of_decide_eq_true h13, of_decide_eq_true h14⟩⟩
end SM
set_option Elab.async false
set_option linter.all false
set_option maxRecDepth 100000
set_option maxHeartbeats 2000000
/-! Errors that are held, their readings; how long a repr is. -/
namespace SM
open PySem PySem.Spec PyProof.Rows L2 PySem.HandSPX
/-- x is an error of the class at C whose one field f holds v -/
def ErrAt (H : Hp) (C : Addr) (f : Str) (v x : V) : Prop := ∃ a dx : Addr, x = .ref a ∧ H a = some (exo a C (some dx)) ∧ H dx = some (exd dx [(f, v)])
/-- a list or a dict stands at b -/
def Mu (H : Hp) (b : Addr) : Prop := (∃ xs, H b = some (.lst xs)) ∨ ∃ kvs, H b = some (.dK kvs)
theorem ErrAt.keep {m : List Addr} {H H' : Hp} {C : Addr} {f : Str} {v x : V} (h : ErrAt H C f v x) (k : Keep m H H') (n : ∀ b ∈ m, Mu H b) : ErrAt H' C f v x := by
  obtain ⟨a, dx, e, h1, h2⟩ := h
  refine ⟨a, dx, e, k _ _ (fun z => ?_) h1, k _ _ (fun z => ?_) h2⟩
  · rcases n _ z with ⟨xs, q⟩ | ⟨xs, q⟩ <;>
    · rw [q] at h1
      exact absurd (Option.some.inj h1) (by intro y; cases y)
  · rcases n _ z with ⟨xs, q⟩ | ⟨xs, q⟩ <;>
    · rw [q] at h2
      exact absurd (Option.some.inj h2) (by intro y; cases y)
theorem rd_err {C : Addr} {f : Str} {te : TE} {σ : L2.St} {H : Hp} {Q : VK} (h : te σ H fun v H1 => ∀ x H2, Keep [] H1 H2 → ErrAt H2 C f v x → Q x H2) (mono : ∀ {W W' : VK}, (∀ v H1, W v H1 → W' v H1) → te σ H W → te σ H W') : tErr C f te σ H Q :=
  mono (fun v H1 q a dx na nd ne => q _ _ (fun b o _ e => by
    rw [upd_ne (ne_of_none e na), upd_ne (ne_of_none e nd)]
    exact e) ⟨a, dx, rfl, upd_same, by rw [upd_ne ne, upd_same]⟩) h
theorem rd_errV {C : Addr} {f : Str} {n : Nat} {v : V} {σ : L2.St} {H : Hp} {Q : VK} (hv : σ[n]? = some (some v)) (h : ∀ x H2, Keep [] H H2 → ErrAt H2 C f v x → Q x H2) : tErr C f (tVar n) σ H Q :=
  rd_err ⟨v, hv, h⟩ (fun w z => by
    obtain ⟨u, e, q⟩ := z
    exact ⟨u, e, w _ _ q⟩)
theorem rd_errT {C : Addr} {f : Str} {n : Nat} {v : V} {σ : L2.St} {H : Hp} {Q : VK} (hv : σ[n]? = some (some v)) (h : ∀ t x H2, Keep [] H H2 → H2 t = some (.tup [v]) → ErrAt H2 C f (.ref t) x → Q x H2) : tErr C f (tTup (tCons (tVar n) tNil)) σ H Q :=
  rd_err (te := tTup (tCons (tVar n) tNil)) ⟨v, hv, by show 1 ≤ sizeLine; decide, fun p hp x H2 k e => h p x H2 (Keep.trans (Keep.new hp) k) (k _ _ (by simp) upd_same) e⟩ (fun w z => by
    obtain ⟨u, e, hz, q⟩ := z
    exact ⟨u, e, hz, fun p hp => w _ _ (q p hp)⟩)
/-- isinstance(error, c) -/
theorem rd_isi {K : PySem.W.Frag} {H : Hp} {C : Addr} {f : Str} {v x c : V} {cv : Value} {b : Bool} {Q : VK} (h : ErrAt H C f v x) (T : ExcC K C) (hc : ∀ u, RelV c u → u = cv) (hk : PySem.W.kitOne K (.ref C) cv = some b) (q : Q (.bl b) H) : rErrI K [x, c] H Q := by
  obtain ⟨a, dx, rfl, h1, h2⟩ := h
  exact ⟨a, C, dx, _, c, cv, b, rfl, h1, h2, T, hc, hk, q⟩
/-- error.f -/
theorem rd_errF {K : PySem.W.Frag} {H : Hp} {C : Addr} {f : Str} {v x : V} {te : TE} {σ : L2.St} {Q : VK} (h : ErrAt H C f v x) (T : ExcC K C) (hn : PySem.W.findIn K (.ref C) f = some none) (q : Q v H) : ∃ (a C dx : Addr) (fs : List (Str × V)) (v' : V), x = .ref a ∧ H a = some (exo a C (some dx)) ∧ H dx = some (exd dx fs) ∧ ExcC K C ∧ PySem.W.findIn K (.ref C) f = some none ∧ fs.lookup f = some v' ∧ Q v' H := by
  obtain ⟨a, dx, rfl, h1, h2⟩ := h
  exact ⟨a, C, dx, _, v, rfl, h1, h2, T, hn, by simp [List.lookup], q⟩

/-! ### how long a repr is -/
mutual
def cost : PyData → Nat
  | .none => 4
  | .bool _ => 5
  | .int i => i.natAbs.log2 + 3
  | .str x => 10 * x.length + 2
  | .list xs => costAll xs + 2
  | .tuple xs => costAll xs + 3
  | .dict kvs => costKv kvs + 2
def costAll : List PyData → Nat
  | [] => 0
  | x :: xs => cost x + 2 + costAll xs
def costKv : List (PyData × PyData) → Nat
  | [] => 0
  | (k, v) :: r => cost k + 2 + cost v + 2 + costKv r
end
end SM
namespace SM
open PySem PySem.Spec PyProof.Rows L2
/-- a repr that fits -/
def fits (d : PyData) : Bool := d.showable && (d.leavesShort 13 && (decide (d.weight ≤ 1048576) && decide (d.depth ≤ 60)))
theorem rd_repr {K : PySem.W.Frag} {H : Hp} {a : Addr} {d : PyData} {Q : VK} (h : Dq K H (.ref a) d) (f : fits d = true) (q : Q (.str d.shown) H) : rRepr K [.ref a] H Q := by
  obtain ⟨h1, f⟩ := He.ba f
  obtain ⟨h2, f⟩ := He.ba f
  obtain ⟨h3, h4⟩ := He.ba f
  exact ⟨a, d, rfl, h, h1, of_decide_eq_true h4, PyData.shown_fits (B := 13) (by decide) (by decide) h2 (Nat.le_trans (of_decide_eq_true h3) (by decide)), q⟩
theorem fits_parts {d : PyData} (f : fits d = true) : d.showable = true ∧ d.depth ≤ 60 ∧ d.shown.length ≤ sizeLine := by
  obtain ⟨h1, f⟩ := He.ba f
  obtain ⟨h2, f⟩ := He.ba f
  obtain ⟨h3, h4⟩ := He.ba f
  exact ⟨h1, of_decide_eq_true h4, PyData.shown_fits (B := 13) (by decide) (by decide) h2 (Nat.le_trans (of_decide_eq_true h3) (by decide))⟩
/-- a chain of steps, its end told by a fresh place -/
theorem Keep.pin {m : List Addr} {H H' : Hp} {q : Addr} (k : Keep m H H') (_ : H' q = none) : Keep m H H' := k
theorem Keep.pinTo {H H' : Hp} {q a : Addr} {o : HO} (k : Keep [] H H') (h : H a = some o) (_ : H' q = none) : H' a = some o := k a o (by simp) h
/-- what is new to H0 may change behind -/
theorem Keep.offNew {H0 H1 H2 : Hp} {p : Addr} (k : Keep [] H0 H1) (k2 : Keep [p] H1 H2) (n : H0 p = none) : Keep [] H0 H2 := fun b o _ e => k2 b o (by
    intro z
    rw [List.mem_singleton.mp z, n] at e
    cases e) (k b o (by simp) e)
theorem DqAll.get {K : PySem.W.Frag} {H : Hp} : ∀ {vs : List V} {ds : List PyData}, DqAll K H vs ds → ∀ {i : Nat} {v : V}, vs[i]? = some v → ∃ d, ds[i]? = some d ∧ Dq K H v d
  | _, _, .nil, i, v, e => by simp at e
  | _, _, .cons h t, 0, v, e => by
    simp at e
    subst e
    exact ⟨_, rfl, h⟩
  | _, _, .cons h t, i + 1, v, e => by
    obtain ⟨d, e1, h1⟩ := t.get (i := i) (v := v) (by simpa using e)
    exact ⟨d, by simpa using e1, h1⟩
/-- for i, x in enumerate(xs) -/
theorem for_enumL {K : PySem.W.Frag} {a : Addr} {xs : List V} {g : TG} {tb : TS} {D : Ends} {σ : L2.St} {H : Hp} (Pv : Nat → L2.St → Hp → Prop) (h0 : Pv 0 σ H) (hl : ∀ i σ H, i ≤ xs.length → Pv i σ H → SqL K H a xs)
    (hs : ∀ (i : Nat) (x : V) (T : Addr) (σ : L2.St) (H : Hp), xs[i]? = some x → Pv i σ H → H T = none → g (.ref T) σ (upd H T (.tup [.int (i : Int), x])) fun σ2 H2 => tb { D with nx := Pv (i + 1), ct := Pv (i + 1), bk := D.nx } σ2 H2)
    (hd : ∀ σ H, Pv xs.length σ H → D.nx σ H) :
    ∃ W : Nat → Nat → L2.St → Hp → Prop, (∃ m, W 0 m σ H) ∧ ∀ i m σ H, W i m σ H →
      ((Ite K a).stop i H ∧ D.nx σ H) ∨ ((Ite K a).go i H ∧ ∃ N : L2.St → Hp → Prop, (∀ σ' H', N σ' H' → ∃ m', m' < m ∧ W (i + 1) m' σ' H') ∧ ∀ x H', (Ite K a).yld i H x H' → g x σ H' fun σ2 H2 => tb { D with nx := N, ct := N, bk := D.nx } σ2 H2) := by
  refine ⟨fun i m σ H => m + i = xs.length ∧ Pv i σ H, ⟨xs.length, rfl, h0⟩, ?_⟩
  intro i m σ H w
  obtain ⟨em, p⟩ := w
  have sq := hl i σ H (by omega) p
  by_cases c : i < xs.length
  · right
    refine ⟨⟨xs, xs[i], sq, List.getElem?_eq_getElem c⟩, Pv (i + 1), fun σ' H' q => ⟨m - 1, by omega, by omega, q⟩, fun v H' y => ?_⟩
    obtain ⟨T, x, rfl, hT, rfl, hx⟩ := y
    exact hs i x T σ H (hx xs sq) p hT
  · left
    have e : i = xs.length := by omega
    subst e
    exact ⟨⟨xs, sq, Nat.le_refl _⟩, hd σ H p⟩
end SM
namespace SM
open PySem PySem.Spec PyProof.Rows L2
theorem rd_lst {H : Hp} {xs : List V} {Q : VK} (z : xs.length ≤ 1000) (h : ∀ p H', H p = none → Keep [] H H' → H' p = some (.lst xs) → Q (.ref p) H') : xs.length ≤ sizeLine ∧ ∀ p, H p = none → Q (.ref p) (upd H p (.lst xs)) :=
  ⟨Nat.le_trans z (by decide), fun p hp => h p _ hp (Keep.new hp) upd_same⟩
theorem rd_tup {H : Hp} {xs : List V} {Q : VK} (z : xs.length ≤ 1000) (h : ∀ p H', H p = none → Keep [] H H' → H' p = some (.tup xs) → Q (.ref p) H') : xs.length ≤ sizeLine ∧ ∀ p, H p = none → Q (.ref p) (upd H p (.tup xs)) :=
  ⟨Nat.le_trans z (by decide), fun p hp => h p _ hp (Keep.new hp) upd_same⟩
theorem rd_cat {H : Hp} {l b : Addr} {xs zs : List V} {Q : VK} (hl : H l = some (.lst xs)) (hb : H b = some (.lst zs)) (z : xs.length + zs.length ≤ 1000) (h : ∀ p H', H p = none → Keep [] H H' → H' p = some (.lst (xs ++ zs)) → Q (.ref p) H') : rCat (.ref l) (.ref b) H Q :=
  ⟨l, b, xs, zs, rfl, rfl, hl, hb, Nat.le_trans z (by decide), fun p hp => h p _ hp (Keep.new hp) upd_same⟩
theorem rd_rep {H : Hp} {l : Addr} {xs : List V} {k : Int} {Q : VK} (hl : H l = some (.lst xs)) (k0 : 0 ≤ k) (k1 : k ≤ 1000) (z : xs.length * k.toNat ≤ 1000) (h : ∀ p H', H p = none → Keep [] H H' → H' p = some (.lst (List.replicate k.toNat xs).flatten) → Q (.ref p) H') : rRep (.ref l) (.int k) H Q :=
  ⟨l, k, xs, rfl, rfl, hl, by omega, by omega, Nat.le_trans z (by decide), fun p hp => h p _ hp (Keep.new hp) upd_same⟩
/-- a step that does nothing to the heap, then what follows -/
theorem Keep.to {m : List Addr} {H1 H2 : Hp} {a : Addr} {o : HO} (k : Keep m H1 H2) (h : H1 a = some o) (n : a ∉ m := by simp) : H2 a = some o := k a o n h
end SM
set_option Elab.async false
set_option linter.all false
set_option maxRecDepth 100000
set_option maxHeartbeats 2000000
/-! Data of tuples and flat things alone: it stands, whatever happens to lists. -/
namespace SM
open PySem PySem.Spec PyProof.Rows L2
mutual
inductive Dt (K : PySem.W.Frag) (H : Hp) : V → PyData → Prop
  | non : Dt K H .non .none
  | bl (b : Bool) : Dt K H (.bl b) (.bool b)
  | int (i : Int) : Dt K H (.int i) (.int i)
  | str (x : Str) : Dt K H (.str x) (.str x)
  | tup {a : Addr} {xs : List V} {ds : List PyData} : SqT K H a xs → DtAll K H xs ds → Dt K H (.ref a) (.tuple ds)
inductive DtAll (K : PySem.W.Frag) (H : Hp) : List V → List PyData → Prop
  | nil : DtAll K H [] []
  | cons {v : V} {vs : List V} {d : PyData} {ds : List PyData} : Dt K H v d → DtAll K H vs ds → DtAll K H (v :: vs) (d :: ds)
end
/-- what may change is no tuple -/
def Soft (m : List Addr) (H : Hp) : Prop := ∀ b ∈ m, ∀ xs, H b ≠ some (.tup xs) ∧ ∀ o, H b ≠ some (.frz o (.tup xs))
theorem Soft.nil {H : Hp} : Soft [] H := fun b z => by cases z
theorem Soft.lst {H : Hp} {a : Addr} {xs : List V} (h : H a = some (.lst xs)) : Soft [a] H := fun b z ys => by
  rw [List.mem_singleton.mp z, h]
  exact ⟨(fun e => by cases e), (fun o e => by cases e)⟩
theorem Src.soft {H : Hp} {a : Addr} (h : Src H a) : Soft [a] H := by
  obtain ⟨x, y, e, _⟩ := h
  exact Soft.lst e
theorem seqT_keep {K : PySem.W.Frag} {m : List Addr} {H H' : Hp} (k : Keep m H H') (n : Soft m H) {a : Addr} {xs : List V} (h : SqT K H a xs) : SqT K H' a xs := by
  rcases h with (h | ⟨o, h⟩) | h
  · exact .inl (.inl (k _ _ (fun z => (n _ z xs).1 h) h))
  · exact .inl (.inr ⟨o, k _ _ (fun z => (n _ z xs).2 o h) h⟩)
  · exact .inr h
mutual
theorem Dt.keep {K : PySem.W.Frag} {m : List Addr} {H H' : Hp} (k : Keep m H H') (n : Soft m H) : ∀ {v : V} {d : PyData}, Dt K H v d → Dt K H' v d
  | _, _, .non => .non
  | _, _, .bl b => .bl b
  | _, _, .int i => .int i
  | _, _, .str x => .str x
  | _, _, .tup s t => .tup (seqT_keep k n s) (DtAll.keep k n t)
theorem DtAll.keep {K : PySem.W.Frag} {m : List Addr} {H H' : Hp} (k : Keep m H H') (n : Soft m H) : ∀ {vs : List V} {ds : List PyData}, DtAll K H vs ds → DtAll K H' vs ds
  | _, _, .nil => .nil
  | _, _, .cons s t => .cons (Dt.keep k n s) (DtAll.keep k n t)
end
theorem Dt.k0 {K : PySem.W.Frag} {H H' : Hp} (k : Keep [] H H') {v : V} {d : PyData} (h : Dt K H v d) : Dt K H' v d := h.keep k Soft.nil
theorem DtAll.k0 {K : PySem.W.Frag} {H H' : Hp} (k : Keep [] H H') {vs : List V} {ds : List PyData} (h : DtAll K H vs ds) : DtAll K H' vs ds := h.keep k Soft.nil
mutual
theorem Dt.dp {K : PySem.W.Frag} {H : Hp} : ∀ {v : V} {d : PyData}, Dt K H v d → Dp K H v d
  | _, _, .non => .non
  | _, _, .bl b => .bl b
  | _, _, .int i => .int i
  | _, _, .str x => .str x
  | _, _, .tup s t => .tup s (DtAll.dp t)
theorem DtAll.dp {K : PySem.W.Frag} {H : Hp} : ∀ {vs : List V} {ds : List PyData}, DtAll K H vs ds → DpAll K H vs ds
  | _, _, .nil => .nil
  | _, _, .cons s t => .cons (Dt.dp s) (DtAll.dp t)
end
mutual
theorem Dt.dq {K : PySem.W.Frag} {H : Hp} : ∀ {v : V} {d : PyData}, Dt K H v d → Dq K H v d
  | _, _, .non => .non
  | _, _, .bl b => .bl b
  | _, _, .int i => .int i
  | _, _, .str x => .str x
  | _, _, .tup s t => .tup s (DtAll.dq t)
theorem DtAll.dq {K : PySem.W.Frag} {H : Hp} : ∀ {vs : List V} {ds : List PyData}, DtAll K H vs ds → DqAll K H vs ds
  | _, _, .nil => .nil
  | _, _, .cons s t => .cons (Dt.dq s) (DtAll.dq t)
end
theorem DtAll.length {K : PySem.W.Frag} {H : Hp} : ∀ {vs : List V} {ds : List PyData}, DtAll K H vs ds → vs.length = ds.length
  | _, _, .nil => rfl
  | _, _, .cons _ t => congrArg (· + 1) t.length
theorem DtAll.get {K : PySem.W.Frag} {H : Hp} : ∀ {vs : List V} {ds : List PyData}, DtAll K H vs ds → ∀ {i : Nat} {v : V}, vs[i]? = some v → ∃ d, ds[i]? = some d ∧ Dt K H v d
  | _, _, .nil, i, v, e => by simp at e
  | _, _, .cons h t, 0, v, e => by
    simp at e
    subst e
    exact ⟨_, rfl, h⟩
  | _, _, .cons h t, i + 1, v, e => by
    obtain ⟨d, e1, h1⟩ := t.get (i := i) (v := v) (by simpa using e)
    exact ⟨d, by simpa using e1, h1⟩
theorem DtAll.getD {K : PySem.W.Frag} {H : Hp} : ∀ {vs : List V} {ds : List PyData}, DtAll K H vs ds → ∀ {i : Nat} {d : PyData}, ds[i]? = some d → ∃ v, vs[i]? = some v ∧ Dt K H v d
  | _, _, .nil, i, v, e => by simp at e
  | _, _, .cons h t, 0, v, e => by
    simp at e
    subst e
    exact ⟨_, rfl, h⟩
  | _, _, .cons h t, i + 1, v, e => by
    obtain ⟨d, e1, h1⟩ := t.getD (i := i) (d := v) (by simpa using e)
    exact ⟨d, by simpa using e1, h1⟩
theorem DtAll.append {K : PySem.W.Frag} {H : Hp} : ∀ {vs us : List V} {ds es : List PyData}, DtAll K H vs ds → DtAll K H us es → DtAll K H (vs ++ us) (ds ++ es)
  | _, _, _, _, .nil, h => h
  | _, _, _, _, .cons h t, z => .cons h (DtAll.append t z)
theorem DtAll.take {K : PySem.W.Frag} {H : Hp} : ∀ (n : Nat) {vs : List V} {ds : List PyData}, DtAll K H vs ds → DtAll K H (vs.take n) (ds.take n)
  | 0, _, _, _ => .nil
  | _ + 1, _, _, .nil => .nil
  | n + 1, _, _, .cons h t => .cons h (DtAll.take n t)
theorem DtAll.drop {K : PySem.W.Frag} {H : Hp} : ∀ (n : Nat) {vs : List V} {ds : List PyData}, DtAll K H vs ds → DtAll K H (vs.drop n) (ds.drop n)
  | 0, _, _, h => h
  | _ + 1, _, _, .nil => .nil
  | n + 1, _, _, .cons _ t => DtAll.drop n t
theorem DtAll.rev {K : PySem.W.Frag} {H : Hp} : ∀ {vs : List V} {ds : List PyData}, DtAll K H vs ds → DtAll K H vs.reverse ds.reverse
  | _, _, .nil => .nil
  | v :: vs, d :: ds, .cons h t => by
    rw [List.reverse_cons, List.reverse_cons]
    exact DtAll.append (DtAll.rev t) (.cons h .nil)
theorem DtAll.strs {K : PySem.W.Frag} {H : Hp} : ∀ (xs : List Str), DtAll K H (xs.map V.str) (xs.map PyData.str)
  | [] => .nil
  | x :: xs => .cons (.str x) (DtAll.strs xs)
/-- of a tuple's data: its items -/
theorem Dt.items {K : PySem.W.Frag} {H : Hp} {v : V} {ds : List PyData} (h : Dt K H v (.tuple ds)) : ∃ a xs, v = .ref a ∧ SqT K H a xs ∧ DtAll K H xs ds := by
  cases h with
  | tup s t => exact ⟨_, _, rfl, s, t⟩

/-! ### plans: names, lines of tests and steps -/
structure Ln where
  tests : List (Str × Str × Bool)
  steps : List (Str × Str)
  keep : Option (List (Str × Str))
def stepD (s : Str × Str) : PyData := .tuple [.str s.1, .str s.2]
def stepsD (l : List (Str × Str)) : PyData := .tuple (l.map stepD)
def testD (t : Str × Str × Bool) : PyData := .tuple [.str t.1, .str t.2.1, .bool t.2.2]
def testsD (l : List (Str × Str × Bool)) : PyData := .tuple (l.map testD)
def keepD : Option (List (Str × Str)) → List PyData
  | none => []
  | some l => [stepsD l]
def lnD (l : Ln) : PyData := .tuple (testsD l.tests :: stepsD l.steps :: keepD l.keep)
def linesD (ls : List Ln) : List PyData := ls.map lnD
def planD (names : List Str) (ls : List Ln) : PyData := .tuple [.tuple (names.map .str), .tuple (linesD ls)]
/-- a step, a test, a line over some names -/
def GoodS (ns : List Str) (s : Str × Str) : Prop := (s.1 = "here" ∨ s.1 ∈ ns) ∧ (s.2 = "new" ∨ s.2 = "here" ∨ s.2 = "nothing" ∨ s.2 ∈ ns)
def GoodT (ns : List Str) (t : Str × Str × Bool) : Prop := (t.1 = "here" ∨ t.1 = "new" ∨ t.1 ∈ ns) ∧ (t.2.1 = "new" ∨ t.2.1 = "here" ∨ t.2.1 = "nothing" ∨ t.2.1 ∈ ns)
structure GoodL (ns : List Str) (l : Ln) : Prop where
  tests : l.tests.length ≤ 4 ∧ ∀ t ∈ l.tests, GoodT ns t
  steps : l.steps.length ≤ 4 ∧ ∀ s ∈ l.steps, GoodS ns s
  keep : ∀ k, l.keep = some k → k.length ≤ 4 ∧ ∀ s ∈ k, GoodS ns s
end SM
set_option Elab.async false
set_option linter.all false
set_option maxRecDepth 100000
set_option maxHeartbeats 2000000
/-! Which data may be compared and told. -/
namespace SM
open PySem PySem.Spec PyProof.Rows L2
def Lay (n : Nat) (d : PyData) : Prop := d.canLay0 = true ∧ d.depth ≤ n
theorem Lay.shaped {n : Nat} {d : PyData} (h : Lay n d) (k : n ≤ 64) : SeqAt.shaped d = true := by
  rw [SeqAt.shaped, h.1, Bool.true_and, decide_eq_true_eq]
  exact Nat.le_trans h.2 k
theorem Lay.mono {m n : Nat} {d : PyData} (h : Lay m d) (k : m ≤ n) : Lay n d := ⟨h.1, Nat.le_trans h.2 k⟩
theorem layAll {n : Nat} : ∀ (ds : List PyData), (∀ d ∈ ds, Lay n d) → PyData.canLayAll0 ds = true ∧ PyData.depthAll ds ≤ n
  | [], _ => ⟨by rw [PyData.canLayAll0], by rw [PyData.depthAll]; exact Nat.zero_le _⟩
  | d :: ds, h => by
    obtain ⟨a, b⟩ := layAll ds fun e z => h e (List.mem_cons_of_mem _ z)
    obtain ⟨c, e⟩ := h d List.mem_cons_self
    refine ⟨by rw [PyData.canLayAll0, a, c]; rfl, ?_⟩
    rw [PyData.depthAll]
    exact Nat.max_le.mpr ⟨e, b⟩
theorem Lay.tuple {n : Nat} {ds : List PyData} (h : ∀ d ∈ ds, Lay n d) : Lay (n + 1) (.tuple ds) := by
  obtain ⟨a, b⟩ := layAll ds h
  exact ⟨by rw [PyData.canLay0]; exact a, by rw [PyData.depth]; omega⟩
theorem Lay.list {n : Nat} {ds : List PyData} (h : ∀ d ∈ ds, Lay n d) : Lay (n + 1) (.list ds) := by
  obtain ⟨a, b⟩ := layAll ds h
  exact ⟨by rw [PyData.canLay0]; exact a, by rw [PyData.depth]; omega⟩
theorem Lay.str {n : Nat} {x : Str} (h : PyData.strOk x = true) : Lay n (.str x) := ⟨by rw [PyData.canLay0]; exact h, by rw [PyData.depth]; exact Nat.zero_le _⟩
theorem Lay.bool {n : Nat} (b : Bool) : Lay n (.bool b) := ⟨by rw [PyData.canLay0], by rw [PyData.depth]; exact Nat.zero_le _⟩
theorem Lay.int {n : Nat} (b : Int) : Lay n (.int b) := ⟨by rw [PyData.canLay0], by rw [PyData.depth]; exact Nat.zero_le _⟩
theorem Lay.none {n : Nat} : Lay n .none := ⟨by rw [PyData.canLay0], by rw [PyData.depth]; exact Nat.zero_le _⟩
theorem eqv_nil (ds : List PyData) : PyData.eqv (.list ds) (.list []) = ds.isEmpty := by
  cases ds <;> rw [PyData.eqv, PyData.eqvAll] <;> rfl
theorem eqv_tnil (ds : List PyData) : PyData.eqv (.tuple ds) (.tuple []) = ds.isEmpty := by
  cases ds <;> rw [PyData.eqv, PyData.eqvAll] <;> rfl
/-- names that may be told -/
def OkN (ns : List Str) : Prop := ∀ s ∈ ns, PyData.strOk s = true
theorem ok_here : PyData.strOk "here" = true := by decide +kernel
theorem ok_new : PyData.strOk "new" = true := by decide +kernel
theorem ok_nothing : PyData.strOk "nothing" = true := by decide +kernel
theorem GoodS.lay {n : Nat} {ns : List Str} {s : Str × Str} (o : OkN ns) (h : GoodS ns s) : Lay (n + 1) (stepD s) := by
  refine Lay.tuple fun d z => ?_
  rcases List.mem_cons.mp z with e | z
  · rw [e]
    rcases h.1 with e | e
    · rw [e]; exact .str ok_here
    · exact .str (o _ e)
  · rw [List.mem_singleton.mp z]
    rcases h.2 with e | e | e | e
    · rw [e]; exact .str ok_new
    · rw [e]; exact .str ok_here
    · rw [e]; exact .str ok_nothing
    · exact .str (o _ e)
theorem GoodT.lay {n : Nat} {ns : List Str} {s : Str × Str × Bool} (o : OkN ns) (h : GoodT ns s) : Lay (n + 1) (testD s) := by
  refine Lay.tuple fun d z => ?_
  rcases List.mem_cons.mp z with e | z
  · rw [e]
    rcases h.1 with e | e | e
    · rw [e]; exact .str ok_here
    · rw [e]; exact .str ok_new
    · exact .str (o _ e)
  · rcases List.mem_cons.mp z with e | z
    · rw [e]
      rcases h.2 with e | e | e | e
      · rw [e]; exact .str ok_new
      · rw [e]; exact .str ok_here
      · rw [e]; exact .str ok_nothing
      · exact .str (o _ e)
    · rw [List.mem_singleton.mp z]
      exact .bool _
theorem steps_lay {n : Nat} {ns : List Str} {l : List (Str × Str)} (o : OkN ns) (h : ∀ s ∈ l, GoodS ns s) : Lay (n + 2) (stepsD l) := by
  refine Lay.tuple fun d z => ?_
  obtain ⟨s, hs, rfl⟩ := List.mem_map.mp z
  exact (h s hs).lay o
theorem tests_lay {n : Nat} {ns : List Str} {l : List (Str × Str × Bool)} (o : OkN ns) (h : ∀ s ∈ l, GoodT ns s) : Lay (n + 2) (testsD l) := by
  refine Lay.tuple fun d z => ?_
  obtain ⟨s, hs, rfl⟩ := List.mem_map.mp z
  exact (h s hs).lay o
theorem GoodL.lay {n : Nat} {ns : List Str} {l : Ln} (o : OkN ns) (h : GoodL ns l) : Lay (n + 3) (lnD l) := by
  refine Lay.tuple fun d z => ?_
  rcases List.mem_cons.mp z with e | z
  · rw [e]; exact tests_lay o h.tests.2
  · rcases List.mem_cons.mp z with e | z
    · rw [e]; exact steps_lay o h.steps.2
    · cases hk : l.keep with
      | none =>
        rw [hk] at z
        cases z
      | some k =>
        rw [hk] at z
        rw [List.mem_singleton.mp z]
        exact steps_lay o (h.keep k hk).2
theorem lines_lay {n : Nat} {ns : List Str} {ls : List Ln} (o : OkN ns) (h : ∀ l ∈ ls, GoodL ns l) : Lay (n + 4) (.list (ls.map lnD)) := by
  refine Lay.list fun d z => ?_
  obtain ⟨s, hs, rfl⟩ := List.mem_map.mp z
  exact (h s hs).lay o
theorem DtAll.eraseIdx {K : PySem.W.Frag} {H : Hp} : ∀ {vs : List V} {ds : List PyData}, DtAll K H vs ds → ∀ i, DtAll K H (vs.eraseIdx i) (ds.eraseIdx i)
  | _, _, .nil, _ => .nil
  | _, _, .cons _ t, 0 => t
  | _, _, .cons h t, i + 1 => .cons h (DtAll.eraseIdx t i)
theorem map_erase {α β : Type} (f : α → β) : ∀ (l : List α) (i : Nat), (l.map f).eraseIdx i = (l.eraseIdx i).map f
  | [], _ => rfl
  | _ :: _, 0 => rfl
  | _ :: l, i + 1 => congrArg _ (map_erase f l i)
theorem mem_erase {α : Type} {x : α} : ∀ {l : List α} {i : Nat}, x ∈ l.eraseIdx i → x ∈ l
  | [], _, z => z
  | _ :: _, 0, z => List.mem_cons_of_mem _ z
  | _ :: l, i + 1, z => by
    rcases List.mem_cons.mp z with e | z
    · rw [e]; exact List.mem_cons_self
    · exact List.mem_cons_of_mem _ (mem_erase z)
theorem seqIndex_nat {i n : Nat} (h : i < n) : seqIndex? (i : Int) n = some i := by
  unfold seqIndex?
  have e : ¬ ((i : Int) < 0) := by omega
  have f : (i : Int) < n := by omega
  simp [e, f]
end SM
set_option Elab.async false
set_option linter.all false
set_option maxRecDepth 100000
set_option maxHeartbeats 2000000
/-! xs[::-1] of a tuple -/
namespace HT
open PySem PyProof.Rows
open PySem.SeqAt
section
variable {prog : Program} {w : World} {A : Around} {E : Value → Shared → Prop} {s : Shared}
theorem adjust_rev (n : Nat) : Builtin.Slice.sliceAdjust none none (-1) (n : Int) = ((n : Int) - 1, -1) := by
  unfold Builtin.Slice.sliceAdjust
  rfl
theorem places_rev (n : Nat) : Builtin.Slice.slicePlaces ((n : Int) - 1) (-1) (-1) = n := by
  unfold Builtin.Slice.slicePlaces
  have h1 : ¬ ((-1 : Int) > 0) := by omega
  simp only [h1, if_false]
  rw [show (- -1 : Int) = 1 by decide, Int.ediv_one]
  split <;> omega
theorem sliceApplied_rev {sl : Addr} {vs : Value} {n : Nat} {Q : Int × Int × Nat → Shared → Prop} (hs : s.heap.IsSliceOf sl .none .none vs) (ps : IsPart vs (some (-1)))
    (h : Q ((n : Int) - 1, -1, n) s) : wpAny (model prog w) A (Builtin.Slice.sliceApplied (.ref sl) (pure (n : Int))) Q E s := by
  obtain ⟨os, hos, hcs, hds⟩ := id hs
  unfold Builtin.Slice.sliceApplied Builtin.Slice.sliceFields
  refine wpAny_bind (wpAny_bind (wpAny_field hos hds (x := .none) rfl (wpAny_bind (wpAny_field hos hds (x := .none) rfl (wpAny_bind (wpAny_field hos hds (x := vs) rfl (wpAny_pure ?_)))))))
  refine wpAny_bind (slicePart_ ps ?_)
  show wpAny _ _ (if ((-1 : Int) == 0) = true then _ else _) _ _ s
  rw [if_neg (by decide)]
  refine wpAny_bind (slicePart_none (wpAny_bind (slicePart_none (wpAny_bind (wpAny_pure ?_)))))
  show wpAny _ _ (match Builtin.Slice.sliceAdjust none none (-1) (n : Int) with | (lo, hi) => pure (lo, (-1 : Int), Builtin.Slice.slicePlaces lo hi (-1))) _ _ s
  rw [adjust_rev n]
  show wpAny _ _ (pure ((n : Int) - 1, (-1 : Int), Builtin.Slice.slicePlaces ((n : Int) - 1) (-1) (-1))) _ _ s
  rw [places_rev]
  exact wpAny_pure h
theorem filterMap_cong {α β : Type} {f g : α → Option β} : ∀ (l : List α), (∀ x ∈ l, f x = g x) → l.filterMap f = l.filterMap g
  | [], _ => rfl
  | x :: l, h => by
    rw [List.filterMap_cons, List.filterMap_cons, h x List.mem_cons_self, filterMap_cong l fun y z => h y (List.mem_cons_of_mem _ z)]
theorem pick_rev (xs : Array Value) : ((List.range xs.size).filterMap fun (m : Nat) => xs[((xs.size : Int) - 1 + (m : Int) * (-1)).toNat]?).toArray = xs.toList.reverse.toArray := by
  have e : ((List.range xs.size).filterMap fun (m : Nat) => xs[((xs.size : Int) - 1 + (m : Int) * (-1)).toNat]?) = ((List.range xs.size).map fun k => xs.size - 1 - k).filterMap (xs[·]?) := by
    rw [List.filterMap_map]
    apply filterMap_cong
    intro m hm
    have := List.mem_range.mp hm
    have e2 : ((xs.size : Int) - 1 + (m : Int) * (-1)).toNat = xs.size - 1 - m := by omega
    rw [e2]
    rfl
  rw [e, PySem.W.krv_range, List.filterMap_reverse, PySem.W.krv_all]
theorem getItem_tuple_rev {t sl : Addr} {items : Array Value} {vs : Value} {Q : Value → Shared → Prop} (ht : IsTup s.heap t items) (hs : s.heap.IsSliceOf sl .none .none vs) (ps : IsPart vs (some (-1)))
    (h : Q (.ref s.heap.objs.size) { s with heap := s.heap.push { cls := .type "tuple", data := .seq items.toList.reverse.toArray } })
    (hsz : items.size ≤ sizeLine) : wpAny (model prog w) A (getItem (.ref t) (.ref sl)) Q E s := by
  have htake : sizeOk (.seq items.toList.reverse.toArray) := by
    show items.toList.reverse.toArray.size ≤ sizeLine
    rw [List.size_toArray, List.length_reverse, Array.length_toList]
    exact hsz
  obtain ⟨os, hos, hcs, hds⟩ := id hs
  have hTs : s.TypeIs (.ref sl) "slice" := ⟨os, hos, hcs⟩
  unfold getItem
  try with_reducible refine wpAny_holding ?_
  first | refine wpAny_bind (wpAny_pure ?_) | skip
  refine wpAny_bind (wpAny_sequenceKey ht.typeIs (by decide) ?_)
  refine wpAny_bind (wpAny_callSpecial?_slot (name := Str.ofString "__getitem__") ht.typeIs PyProof.Rows.slot_tuple_getitem
    (wpAny_call_entry PyProof.Rows.slot_tuple_getitem ht.typeIs entry_tuple_getitem ?_ (args_tuple_getitem _ _)))
  show wpAny _ _ (Builtin.Tuple.tupleItemsOf (.ref t) >>= _) _ _ s
  refine wpAny_bind (tupleItemsOf_ ht ?_)
  refine wpAny_bind (wpAny_typeOf hTs ?_)
  rw [if_pos (by decide)]
  refine wpAny_bind (sliceApplied_rev hs ps ?_)
  have hno : ¬ ((((items.size : Int) - 1) == 0 && (-1 : Int) == 1 && items.size == items.size) = true) := by
    intro q
    rw [Bool.and_eq_true, Bool.and_eq_true] at q
    exact absurd q.1.2 (by decide)
  show wpAny _ _ (if (((items.size : Int) - 1) == 0 && (-1 : Int) == 1 && items.size == items.size) = true then _ else _) _ _ s
  rw [if_neg hno, pick_rev]
  first
    | exact wpAny_bind (m := Builtin.Tuple.tupleExact _) (wpAny_newObj_type (wpAny_pure ⟨_, rfl, wpAny_pure h⟩) htake)
    | exact wpAny_bind (m := Builtin.Tuple.tupleExact _) (wpAny_newObj_type (wpAny_bind (wpAny_pure (wpAny_pure ⟨_, rfl, wpAny_pure h⟩))) htake)
    | exact wpAny_bind (wpAny_bind (m := Builtin.Tuple.tupleExact _) (wpAny_newObj_type (wpAny_pure (wpAny_pure ⟨_, rfl, wpAny_pure h⟩)) htake))
    | exact wpAny_bind (wpAny_bind (m := Builtin.Tuple.tupleExact _) (wpAny_newObj_type (wpAny_pure ⟨_, rfl, wpAny_pure h⟩) htake))
end
end HT
namespace SM
open PySem PySem.Spec PyProof.Rows L2
section
variable {X : Cx}
def tRevT (K : PySem.W.Frag) (te : TE) : TE := fun σ H Q => te σ H fun x H1 => ∃ a xs, x = .ref a ∧ SqT K H1 a xs ∧ ∀ p, H1 p = none → Q (.ref p) (upd H1 p (.tup xs.reverse))
theorem pe_revT {e : Expr} {te : TE} {k : Nat} {p1 p2 p3 pos : Pos} (he : PE X e te) : PE X (.Subscript e (.Slice none none (some (.UnaryOp .USub (.Constant (.int 1) k p1) p2)) p3) pos) (tRevT X.K te) := by
  refine ⟨fun pins s σ H Q I h => ?_⟩
  refine Subscript_ (thn (he.run pins s σ H _ I h) fun v s1 ⟨x, H1, I1, r1, q1⟩ => ?_)
  obtain ⟨a, xs, ex, hx, q⟩ := q1
  subst ex
  cases r1
  have hst : PO X (some (.UnaryOp .USub (.Constant (.int 1) k p1) p2)) (tPart (tUn (rU fun i => .int (-i)) (tC (.int 1)))) := po_some (pe_un un_neg pe_int)
  refine wpAny_Slice (thn (po_none.run pins s1 σ H1 (fun o H2 => o = none ∧ H2 = H1) I1 ⟨rfl, rfl⟩) fun vl s2 ⟨l, H2, I2, pl, el, e2⟩ => ?_)
  subst el e2
  refine thn (po_none.run pins s2 σ H2 (fun o H3 => o = none ∧ H3 = H2) I2 ⟨rfl, rfl⟩) fun vu s3 ⟨u, H3, I3, pu, eu, e3⟩ => ?_
  subst eu e3
  refine thn (hst.run pins s3 σ H3 (fun o H4 => o = some (-1) ∧ H4 = H3) I3 ⟨1, rfl, -1, rfl, rfl, rfl⟩) fun vs s4 ⟨o, H4, I4, ps, eo, e4⟩ => ?_
  subst eo e4
  cases pl
  cases pu
  have I5 : Inv X pins σ H4 { s4 with heap := s4.heap.push { cls := .type "slice", data := .fields #[.none, .none, vs] } } := I4.kept (t' := s4.toks) fun b ob q => Heap.get?_push_of_some _ q
  obtain ⟨its, r, ht, hz⟩ := I5.tuple hx
  have hlen := r.length
  show wpAny (model X.prog X.w) X.A (subscriptTail e (.Slice none none (some (.UnaryOp .USub (.Constant (.int 1) k p1) p2)) p3) (.ref a) (.ref s4.heap.objs.size)) (EP X pins σ Q) X.xe { s4 with heap := s4.heap.push { cls := .type "slice", data := .fields #[.none, .none, vs] } }
  refine tail_any (ops := [.ref a, .ref s4.heap.objs.size]) ht.typeIs (PyProof.Rows.slot_tuple_getitem.lookup) ?_ (by with_unfolding_all rfl)
  refine HT.getItem_tuple_rev ht (Heap.IsSliceOf.new _ .none .none vs) ps ?_ (by rw [List.size_toArray]; omega)
  refine ⟨.ref _, _, I5.laid (t' := s4.toks) (o := .tup xs.reverse) (fun b ob q => Heap.get?_push_of_some _ q) (Nat.le_refl _) ?_, rfl, q _ (I5.hok.fresh (Nat.le_refl _))⟩
  exact ⟨by rw [List.length_reverse]; exact hz, _, r.reverse, ⟨_, Heap.get?_push_size _ rfl, rfl, 0, rfl⟩⟩
def rInT (K : PySem.W.Frag) : R2 := fun x y H Q => ∃ d ds, Dp K H x d ∧ Dp K H y (.tuple ds) ∧ SeqAt.shaped d = true ∧ SeqAt.shaped (.tuple ds) = true ∧ Q (.bl (ds.any fun z => PyData.eqv z d)) H
def rNotInT (K : PySem.W.Frag) : R2 := fun x y H Q => ∃ d ds, Dp K H x d ∧ Dp K H y (.tuple ds) ∧ SeqAt.shaped d = true ∧ SeqAt.shaped (.tuple ds) = true ∧ Q (.bl (!ds.any fun z => PyData.eqv z d)) H
theorem op_inT (hu : X.A.units + 65 < cLine) : OpR X (compareOp .In) (rInT X.K) := by
  intro pins s σ H x y v u Q I rx ry h
  obtain ⟨d, ds, hd, he, sd, se, q⟩ := h
  obtain ⟨as, r1⟩ := Dp.reads I d x v hd rx
  obtain ⟨bs, r2⟩ := Dp.reads I (.tuple ds) y u he ry
  exact SeqAt.in_tuple_reads r2 r1 (SeqAt.canLay_of_shaped se) (SeqAt.canLay_of_shaped sd) (room_in_shaped sd hu) ⟨.bl _, H, I, rfl, q⟩
theorem op_notInT (hu : X.A.units + 65 < cLine) : OpR X (compareOp .NotIn) (rNotInT X.K) := by
  intro pins s σ H x y v u Q I rx ry h
  obtain ⟨d, ds, hd, he, sd, se, q⟩ := h
  obtain ⟨as, r1⟩ := Dp.reads I d x v hd rx
  obtain ⟨bs, r2⟩ := Dp.reads I (.tuple ds) y u he ry
  exact SeqAt.notIn_tuple_reads r2 r1 (SeqAt.canLay_of_shaped se) (SeqAt.canLay_of_shaped sd) (room_in_shaped sd hu) ⟨.bl _, H, I, rfl, q⟩
def rInA (K : PySem.W.Frag) : R2 := fun x y H Q => rInD K x y H Q ∨ rInT K x y H Q
def rNotInA (K : PySem.W.Frag) : R2 := fun x y H Q => rNotInD K x y H Q ∨ rNotInT K x y H Q
theorem op_inA (hu : X.A.units + 65 < cLine) : OpR X (compareOp .In) (rInA X.K) := (op_inD hu).or (op_inT hu)
theorem op_notInA (hu : X.A.units + 65 < cLine) : OpR X (compareOp .NotIn) (rNotInA X.K) := (op_notInD hu).or (op_notInT hu)
theorem units65 {k : Nat} {A : Around} (r : Room k A) : A.units + 65 < cLine := by have := r.un; omega
theorem any_str (x : Str) : ∀ ns : List Str, ((ns.map PyData.str).any fun z => PyData.eqv z (.str x)) = decide (x ∈ ns)
  | [] => by simp
  | n :: ns => by
    rw [List.map_cons, List.any_cons, any_str x ns, PyData.eqv]
    by_cases h : n = x
    · subst h
      simp
    · have h' : ¬ x = n := fun z => h z.symm
      simp [h, h']
end
end SM
set_option Elab.async false
set_option linter.all false
set_option maxRecDepth 100000
set_option maxHeartbeats 2000000
/-! Displays of tuples and flat things: data, all new. -/
namespace SM
open PySem PySem.Spec PyProof.Rows L2
variable {K : PySem.W.Frag} {σ : L2.St}
def LtE (K : PySem.W.Frag) (te : TE) (σ : L2.St) (d : PyData) : Prop := ∀ H Q, (∀ v H', Keep [] H H' → Dt K H' v d → Q v H') → te σ H Q
def LtA (K : PySem.W.Frag) (ta : TA) (σ : L2.St) (ds : List PyData) : Prop := ∀ H Q, (∀ xs H', Keep [] H H' → DtAll K H' xs ds → Q xs H') → ta σ H Q
theorem LtA.nil : LtA K tNil σ [] := fun H Q k => k [] H Keep.refl .nil
theorem LtA.cons {te : TE} {ta : TA} {d : PyData} {ds : List PyData} (h : LtE K te σ d) (t : LtA K ta σ ds) : LtA K (tCons te ta) σ (d :: ds) :=
  fun H Q k => h H _ fun v H1 k1 d1 => t H1 _ fun xs H2 k2 d2 => k _ _ (k1.trans k2) (.cons (d1.k0 k2) d2)
theorem LtE.str {x : Str} : LtE K (tC (.str x)) σ (.str x) := fun H Q k => k _ _ Keep.refl (.str x)
theorem LtE.bl {x : Bool} : LtE K (tC (.bl x)) σ (.bool x) := fun H Q k => k _ _ Keep.refl (.bl x)
theorem LtE.int {x : Int} : LtE K (tC (.int x)) σ (.int x) := fun H Q k => k _ _ Keep.refl (.int x)
theorem LtE.non : LtE K (tC .non) σ .none := fun H Q k => k _ _ Keep.refl .non
theorem LtE.var {i : Nat} {x : Str} (h : σ[i]? = some (some (.str x))) : LtE K (tVar i) σ (.str x) := fun H Q k => ⟨_, h, k _ _ Keep.refl (.str x)⟩
theorem LtE.tup {ta : TA} {ds : List PyData} (h : LtA K ta σ ds) (n : Nat.ble ds.length 100 = true := by rfl) : LtE K (tTup ta) σ (.tuple ds) :=
  fun H Q k => h H _ fun xs H1 k1 d1 => ⟨by rw [d1.length]; exact Nat.le_trans (Nat.le_of_ble_eq_true n) (by decide), fun p hp => k _ _ (k1.trans (Keep.new hp)) (.tup (SqT.of upd_same) (d1.k0 (Keep.new hp)))⟩
/-- a list display of such -/
theorem LtA.lst {ta : TA} {ds : List PyData} {H : Hp} {Q : VK} (h : LtA K ta σ ds) (n : Nat.ble ds.length 100 = true) (k : ∀ p xs H', H p = none → Keep [] H H' → H' p = some (.lst xs) → DtAll K H' xs ds → Q (.ref p) H') : tLst ta σ H Q :=
  h H _ fun xs H1 k1 d1 => ⟨by rw [d1.length]; exact Nat.le_trans (Nat.le_of_ble_eq_true n) (by decide), fun p hp => k p xs _ (k1.free (by simp) hp) (k1.trans (Keep.new hp)) upd_same (d1.k0 (Keep.new hp))⟩
end SM
set_option Elab.async false
set_option linter.all false
set_option maxRecDepth 100000
set_option maxHeartbeats 2000000
/-! comprehensions in comprehensions -/
namespace SM
open PySem PySem.Spec PyProof.Rows L2
/-- tuple(..) of a list or a tuple -/
def teTup (K : PySem.W.Frag) (te : TE) : TE := tCB (fun xs H Q => ∃ p ys, xs = [.ref p] ∧ ((SqL K H p ys ∧ ∀ l, H l = none → Q (.ref l) (upd H l (.tup ys))) ∨ (SqT K H p ys ∧ Q (.ref p) H))) (tCons te tNil)
theorem relabel_look {env : Env} : ∀ {names : List (Str × NameKind)} {x : Str}, (names.lookup x = some .cell ∨ names.lookup x = some .free) →
    ((names.map fun (n, k) => if (k == NameKind.free && env.scope.kind == .function && env.kindOf n == some .cell) then (n, NameKind.cell) else (n, k)).lookup x = some .cell ∨
    (names.map fun (n, k) => if (k == NameKind.free && env.scope.kind == .function && env.kindOf n == some .cell) then (n, NameKind.cell) else (n, k)).lookup x = some .free)
  | [], _, h => by simp at h
  | (n, k) :: r, x, h => by
    have ih := @relabel_look env r x
    show List.lookup x ((if (k == NameKind.free && env.scope.kind == .function && env.kindOf n == some .cell) = true then (n, NameKind.cell) else (n, k)) :: _) = _ ∨ List.lookup x ((if (k == NameKind.free && env.scope.kind == .function && env.kindOf n == some .cell) = true then (n, NameKind.cell) else (n, k)) :: _) = _
    cases hx : x == n with
    | true =>
      simp only [List.lookup_cons, hx] at h
      by_cases hc : (k == NameKind.free && env.scope.kind == .function && env.kindOf n == some .cell) = true
      · rw [if_pos hc]
        simp [List.lookup_cons, hx]
      · rw [if_neg hc]
        simpa [List.lookup_cons, hx] using h
    | false =>
      simp only [List.lookup_cons, hx] at h
      by_cases hc : (k == NameKind.free && env.scope.kind == .function && env.kindOf n == some .cell) = true
      · rw [if_pos hc]; simp only [List.lookup_cons, hx]; exact ih h
      · rw [if_neg hc]; simp only [List.lookup_cons, hx]; exact ih h
theorem blkOk_nest {N : List Str} {sc scope : Scope} {env : Env} {own : List (Str × Nat)} (h : blkC N sc scope own = true) : BlkOk N (relabel sc env) scope own := by
  obtain ⟨a, b, c, d, e⟩ := blkOk_by h
  exact ⟨a, b, c, fun y hy z => relabel_look (d y hy z), e⟩
variable {K : PySem.W.Frag}
/-- from H on, te gives d, and leaves what stands -/
def LtH (K : PySem.W.Frag) (te : TE) (σ : L2.St) (H : Hp) (d : PyData) : Prop := ∀ H1, Keep [] H H1 → ∀ Q, (∀ v H', Keep [] H1 H' → Dt K H' v d → Q v H') → te σ H1 Q
/-- a comprehension over a tuple, item by item -/
theorem lcT {i j : Nat} {σ : L2.St} {H : Hp} {t : Addr} {xs : List V} {ds : List PyData} {f : PyData → PyData} {te : TE} {Q : VK} (hv : σ[i]? = some (some (.ref t))) (hq : SqT K H t xs) (hd : DtAll K H xs ds) (hl : ds.length ≤ 100)
    (he : ∀ H2, Keep [] H H2 → ∀ v d, d ∈ ds → Dt K H2 v d → LtH K te ((σ.set j none).set j (some v)) H2 (f d))
    (k : ∀ D ys H', H D = none → Keep [] H H' → H' D = some (.lst ys) → DtAll K H' ys (ds.map f) → Q (.ref D) H') : tLc (iTup K (tVar i)) (gName j) tYes te [j] σ H Q := by
  have len := hd.length
  refine ⟨_, hv, t, rfl, ⟨xs, hq⟩, fun D hD => ?_⟩
  refine lc_tup (xs := xs) (Qd := fun H' => Q (.ref D) H') (fun i H' => ∃ acc, Keep [] H H' ∧ H' D = some (.lst acc) ∧ acc.length = i ∧ DtAll K H' acc ((ds.take i).map f)) ⟨[], Keep.new hD, upd_same, rfl, by simpa using DtAll.nil⟩ ?_ ?_ ?_
  · rintro n H' _ ⟨acc, k1, _⟩
    exact seqT_keep k1 Soft.nil hq
  · rintro n x H' hx ⟨acc, k1, e1, en, da⟩
    obtain ⟨d, hd', dx⟩ := hd.get hx
    have hn : n < ds.length := by
      rcases Nat.lt_or_ge n ds.length with h | h
      · exact h
      · rw [List.getElem?_eq_none h] at hd'
        cases hd'
    refine ⟨?_, ?_⟩
    · show ((σ.set j none).set j (some x)).set j none = σ.set j none
      rw [List.set_set, List.set_set]
    · show te _ H' _
      refine he H' k1 x d (List.mem_of_getElem? hd') (dx.k0 k1) H' Keep.refl _ fun y H2 k2 dy => ?_
      refine ⟨acc, k2.to e1, ?_, acc ++ [y], Keep.own (k1.trans k2) hD, upd_same, by rw [List.length_append, en]; rfl, ?_⟩
      · rw [en]
        exact Nat.lt_of_lt_of_le (show n < 101 by omega) (by decide)
      · rw [List.take_succ, hd', Option.toList_some, List.map_append]
        exact ((da.k0 k2).append (.cons dy .nil)).keep (Keep.at_ (m := [D]) (by simp)) (Soft.lst (k2.to e1))
  · rintro H' ⟨acc, k1, e1, en, da⟩
    rw [len, List.take_length] at da
    exact k D acc H' hD k1 e1 da
/-- tuple(a list of new data) -/
theorem LtH.tup {i j : Nat} {σ : L2.St} {H : Hp} {t : Addr} {xs : List V} {ds : List PyData} {f : PyData → PyData} {te : TE} (hv : σ[i]? = some (some (.ref t))) (hq : SqT K H t xs) (hd : DtAll K H xs ds) (hl : ds.length ≤ 100)
    (he : ∀ H2, Keep [] H H2 → ∀ v d, d ∈ ds → Dt K H2 v d → LtH K te ((σ.set j none).set j (some v)) H2 (f d)) : LtH K (teTup K (tLc (iTup K (tVar i)) (gName j) tYes te [j])) σ H (.tuple (ds.map f)) := by
  intro H1 k1 Q k
  refine lcT (Q := fun x H2 => ∃ p ys, [x] = [V.ref p] ∧ ((SqL K H2 p ys ∧ ∀ l, H2 l = none → Q (.ref l) (upd H2 l (.tup ys))) ∨ (SqT K H2 p ys ∧ Q (.ref p) H2))) hv (seqT_keep k1 Soft.nil hq) (hd.k0 k1) hl (fun H2 k2 => he H2 (k1.trans k2)) fun D ys H2 hD k2 e2 d2 => ?_
  refine ⟨D, ys, rfl, .inl ⟨SqL.of e2, fun l hl => ?_⟩⟩
  exact k _ _ (k2.trans (Keep.new hl)) (.tup (SqT.of upd_same) (d2.k0 (Keep.new hl)))
/-! ### another word for "was" -/
def ren (w s : Str) : Str := if s = "was" then w else s
def renD (w : Str) : PyData → PyData
  | .str s => .str (ren w s)
  | d => d
def renE (w : Str) : PyData → PyData
  | .tuple ds => .tuple (ds.map (renD w))
  | d => d
def renP (w : Str) : PyData → PyData
  | .tuple ds => .tuple (ds.map (renE w))
  | d => d
def renS (w : Str) (s : Str × Str) : Str × Str := (ren w s.1, ren w s.2)
def renT (w : Str) (s : Str × Str × Bool) : Str × Str × Bool := (ren w s.1, ren w s.2.1, s.2.2)
def renL (w : Str) (l : Ln) : Ln := ⟨l.tests.map (renT w), l.steps.map (renS w), l.keep.map (List.map (renS w))⟩
theorem renP_steps (w : Str) (l : List (Str × Str)) : renP w (stepsD l) = stepsD (l.map (renS w)) := by
  show PyData.tuple _ = PyData.tuple _
  rw [List.map_map, List.map_map]
  rfl
theorem renP_tests (w : Str) (l : List (Str × Str × Bool)) : renP w (testsD l) = testsD (l.map (renT w)) := by
  show PyData.tuple _ = PyData.tuple _
  rw [List.map_map, List.map_map]
  rfl
def partsD (l : Ln) : List PyData := testsD l.tests :: stepsD l.steps :: keepD l.keep
theorem renP_line (w : Str) (l : Ln) : (partsD l).map (renP w) = partsD (renL w l) := by
  obtain ⟨t, s, k⟩ := l
  cases k with
  | none => simp only [partsD, keepD, renL, List.map_cons, List.map_nil, renP_steps, renP_tests, Option.map_none]
  | some k => simp only [partsD, keepD, renL, List.map_cons, List.map_nil, renP_steps, renP_tests, Option.map_some]
theorem ren_ne {w s : Str} (h : s ≠ "was") : ren w s = s := if_neg h
theorem ren_mem {w s : Str} {ns : List Str} (h : s ∈ ns) : ren w s ∈ ns.map (ren w) := List.mem_map_of_mem h
theorem here_ne : ("here" : Str) ≠ "was" := by decide +kernel
theorem new_ne : ("new" : Str) ≠ "was" := by decide +kernel
theorem nothing_ne : ("nothing" : Str) ≠ "was" := by decide +kernel
theorem GoodS.ren {w : Str} {ns : List Str} {s : Str × Str} (h : GoodS ns s) : GoodS (ns.map (ren w)) (renS w s) := by
  refine ⟨?_, ?_⟩
  · rcases h.1 with e | e
    · exact .inl (show SM.ren w s.1 = _ by rw [e]; exact ren_ne here_ne)
    · exact .inr (ren_mem e)
  · rcases h.2 with e | e | e | e
    · exact .inl (show SM.ren w s.2 = _ by rw [e]; exact ren_ne new_ne)
    · exact .inr (.inl (show SM.ren w s.2 = _ by rw [e]; exact ren_ne here_ne))
    · exact .inr (.inr (.inl (show SM.ren w s.2 = _ by rw [e]; exact ren_ne nothing_ne)))
    · exact .inr (.inr (.inr (ren_mem e)))
theorem GoodT.ren {w : Str} {ns : List Str} {s : Str × Str × Bool} (h : GoodT ns s) : GoodT (ns.map (ren w)) (renT w s) := by
  refine ⟨?_, ?_⟩
  · rcases h.1 with e | e | e
    · exact .inl (show SM.ren w s.1 = _ by rw [e]; exact ren_ne here_ne)
    · exact .inr (.inl (show SM.ren w s.1 = _ by rw [e]; exact ren_ne new_ne))
    · exact .inr (.inr (ren_mem e))
  · rcases h.2 with e | e | e | e
    · exact .inl (show SM.ren w s.2.1 = _ by rw [e]; exact ren_ne new_ne)
    · exact .inr (.inl (show SM.ren w s.2.1 = _ by rw [e]; exact ren_ne here_ne))
    · exact .inr (.inr (.inl (show SM.ren w s.2.1 = _ by rw [e]; exact ren_ne nothing_ne)))
    · exact .inr (.inr (.inr (ren_mem e)))
theorem GoodL.ren {w : Str} {ns : List Str} {l : Ln} (h : GoodL ns l) : GoodL (ns.map (ren w)) (renL w l) := by
  refine ⟨⟨by rw [renL, List.length_map]; exact h.tests.1, fun t z => ?_⟩, ⟨by rw [renL, List.length_map]; exact h.steps.1, fun t z => ?_⟩, fun k z => ?_⟩
  · obtain ⟨s, hs, rfl⟩ := List.mem_map.mp z
    exact (h.tests.2 s hs).ren
  · obtain ⟨s, hs, rfl⟩ := List.mem_map.mp z
    exact (h.steps.2 s hs).ren
  · cases hk : l.keep with
    | none =>
      rw [renL, hk] at z
      cases z
    | some k0 =>
      have e : k0.map (renS w) = k := by
        rw [renL, hk] at z
        exact Option.some.inj z
      subst e
      refine ⟨by rw [List.length_map]; exact (h.keep k0 hk).1, fun t z => ?_⟩
      obtain ⟨s, hs, rfl⟩ := List.mem_map.mp z
      exact ((h.keep k0 hk).2 s hs).ren
end SM
set_option Elab.async false
set_option linter.all false
set_option maxRecDepth 100000
set_option maxHeartbeats 2000000
/-! Kinds of data, and isinstance of any value. -/
namespace SM
open PySem PySem.Spec PyProof.Rows L2
variable {K : PySem.W.Frag} {H : Hp}
def tyN : PyData → String
  | .none => "NoneType"
  | .bool _ => "bool"
  | .int _ => "int"
  | .str _ => "str"
  | .list _ => "list"
  | .tuple _ => "tuple"
  | .dict _ => "dict"
theorem sqL_ty {a : Addr} {xs : List V} (h : SqL K H a xs) : TyX K H (.ref a) (.type "list") := by
  rcases h with (h | ⟨o, h⟩) | ⟨o, its, n, h, c, _⟩
  · exact .base (.lst h)
  · exact .base (.frz h)
  · exact .kList h c
theorem sqT_ty {a : Addr} {xs : List V} (h : SqT K H a xs) : TyX K H (.ref a) (.type "tuple") := by
  rcases h with (h | ⟨o, h⟩) | ⟨o, its, n, h, c, _⟩
  · exact .base (.tup h)
  · exact .fTuple h
  · exact .kTuple h c
theorem Dq.ty {v : V} {d : PyData} (h : Dq K H v d) : TyX K H v (.type (tyN d)) := by
  cases h with
  | non => exact .base .non
  | bl b => exact .base (.bl b)
  | int i => exact .base (.int i)
  | str x => exact .base (.str x)
  | lst s t => exact sqL_ty s
  | tup s t => exact sqT_ty s
  | dic s t => exact .base (.dK s)
def isTup : PyData → Bool
  | .tuple _ => true
  | _ => false
def isLst : PyData → Bool
  | .list _ => true
  | _ => false
def isSeq : PyData → Bool
  | .tuple _ => true
  | .list _ => true
  | _ => false
def isStr : PyData → Bool
  | .str _ => true
  | _ => false
def isBool : PyData → Bool
  | .bool _ => true
  | _ => false
theorem kit_tup (d : PyData) : PySem.W.kitOne K (.type (tyN d)) (.type "tuple") = some (isTup d) := by cases d <;> rfl
theorem kit_lst (d : PyData) : PySem.W.kitOne K (.type (tyN d)) (.type "list") = some (isLst d) := by cases d <;> rfl
theorem kit_str (d : PyData) : PySem.W.kitOne K (.type (tyN d)) (.type "str") = some (isStr d) := by cases d <;> rfl
theorem kit_bool (d : PyData) : PySem.W.kitOne K (.type (tyN d)) (.type "bool") = some (isBool d) := by cases d <;> rfl
theorem kit_seq (d : PyData) : PySem.W.kitAny K (.type (tyN d)) [.type "list", .type "tuple"] = some (isSeq d) := by cases d <;> rfl
theorem isi_tup {v : V} {d : PyData} {Q : VK} (h : Dq K H v d) (q : Q (.bl (isTup d)) H) : rIsi K [v, .ty "tuple"] H Q := ⟨_, _, _, _, _, rfl, .ty _, h.ty, kit_tup d, q⟩
theorem isi_lst {v : V} {d : PyData} {Q : VK} (h : Dq K H v d) (q : Q (.bl (isLst d)) H) : rIsi K [v, .ty "list"] H Q := ⟨_, _, _, _, _, rfl, .ty _, h.ty, kit_lst d, q⟩
theorem isi_str {v : V} {d : PyData} {Q : VK} (h : Dq K H v d) (q : Q (.bl (isStr d)) H) : rIsi K [v, .ty "str"] H Q := ⟨_, _, _, _, _, rfl, .ty _, h.ty, kit_str d, q⟩
theorem isi_bool {v : V} {d : PyData} {Q : VK} (h : Dq K H v d) (q : Q (.bl (isBool d)) H) : rIsi K [v, .ty "bool"] H Q := ⟨_, _, _, _, _, rfl, .ty _, h.ty, kit_bool d, q⟩
mutual
/-- data without dicts -/
theorem Dq.toDp : ∀ {v : V} {d : PyData}, Dq K H v d → d.canLay0 = true → Dp K H v d
  | _, _, .non, _ => .non
  | _, _, .bl b, _ => .bl b
  | _, _, .int i, _ => .int i
  | _, _, .str x, _ => .str x
  | _, _, .lst s t, h => .lst s (DqAll.toDp t (by simpa [PyData.canLay0] using h))
  | _, _, .tup s t, h => .tup s (DqAll.toDp t (by simpa [PyData.canLay0] using h))
  | _, _, .dic s t, h => by simp [PyData.canLay0] at h
theorem DqAll.toDp : ∀ {vs : List V} {ds : List PyData}, DqAll K H vs ds → PyData.canLayAll0 ds = true → DpAll K H vs ds
  | _, _, .nil, _ => .nil
  | _, _, .cons s t, h => by
    rw [PyData.canLayAll0, Bool.and_eq_true] at h
    exact .cons (s.toDp h.1) (DqAll.toDp t h.2)
end
/-- among some words -/
def memS (ns : List Str) (d : PyData) : Bool := (ns.map PyData.str).any fun z => PyData.eqv z d
theorem Lay.items {n : Nat} {ds : List PyData} (h : Lay (n + 1) (.tuple ds)) : ∀ d ∈ ds, Lay n d := by
  obtain ⟨a, b⟩ := h
  rw [PyData.canLay0] at a
  rw [PyData.depth] at b
  have b' : PyData.depthAll ds ≤ n := by omega
  clear b
  induction ds with
  | nil => exact fun d z => by cases z
  | cons e ds ih =>
    rw [PyData.canLayAll0, Bool.and_eq_true] at a
    rw [PyData.depthAll] at b'
    intro d z
    rcases List.mem_cons.mp z with rfl | z
    · exact ⟨a.1, Nat.le_trans (Nat.le_max_left _ _) b'⟩
    · exact ih a.2 (Nat.le_trans (Nat.le_max_right _ _) b') d z
theorem Lay.itemsL {n : Nat} {ds : List PyData} (h : Lay (n + 1) (.list ds)) : ∀ d ∈ ds, Lay n d := by
  obtain ⟨a, b⟩ := h
  rw [PyData.canLay0] at a
  rw [PyData.depth] at b
  exact Lay.items (ds := ds) ⟨by rw [PyData.canLay0]; exact a, by rw [PyData.depth]; exact b⟩
/-- from H on, te gives the bool b, and leaves what stands -/
def LtB (te : TE) (σ : L2.St) (H : Hp) (b : Bool) : Prop := ∀ H1, Keep [] H H1 → ∀ Q : VK, (∀ H', Keep [] H1 H' → Q (.bl b) H') → te σ H1 Q
/-- bools, item by item of a tuple -/
theorem lcB {j : Nat} {σ : L2.St} {H : Hp} {t : Addr} {xs : List V} {ds : List PyData} {f : PyData → Bool} {te : TE} {D : Addr} {Qd : Hp → Prop} (hq : SqT K H t xs) (hd : DqAll K H xs ds) (hl : ds.length ≤ 1000)
    (he : ∀ H2, Keep [] H H2 → ∀ v d, d ∈ ds → Dq K H2 v d → LtB te ((σ.set j none).set j (some v)) H2 (f d)) (hD : H D = none)
    (k : ∀ H', Keep [] H H' → H' D = some (.lst ((ds.map f).map V.bl)) → Qd H') :
    ∃ W : Nat → Nat → Hp → Prop, (∃ m, W 0 m (upd H D (.lst []))) ∧ ∀ i m H, W i m H →
      ((Itt K t).stop i H ∧ Qd H) ∨ ((Itt K t).go i H ∧ ∃ Nx : Hp → Prop, (∀ H', Nx H' → ∃ m', m' < m ∧ W (i + 1) m' H') ∧ ∀ x H', (Itt K t).yld i H x H' → gName j x (wipe σ [j]) H' fun σ2 H2 => wipe σ2 [j] = wipe σ [j] ∧ tYes σ2 H2 fun b H3 =>
        if b = true then te σ2 H3 fun y H4 => ∃ acc, H4 D = some (.lst acc) ∧ acc.length < sizeLine ∧ Nx (upd H4 D (.lst (acc ++ [y]))) else Nx H3) := by
  have len := hd.length
  refine lc_tup (xs := xs) (Qd := Qd) (fun i H' => Keep [] H H' ∧ H' D = some (.lst (((ds.take i).map f).map V.bl))) ⟨Keep.new hD, upd_same⟩ ?_ ?_ ?_
  · rintro n H' _ ⟨k1, _⟩
    exact seqT_keep k1 Soft.nil hq
  · rintro n x H' hx ⟨k1, e1⟩
    obtain ⟨d, hd', dx⟩ := hd.get hx
    have hn : n < ds.length := by
      rcases Nat.lt_or_ge n ds.length with h | h
      · exact h
      · rw [List.getElem?_eq_none h] at hd'
        cases hd'
    refine ⟨?_, ?_⟩
    · show ((σ.set j none).set j (some x)).set j none = σ.set j none
      rw [List.set_set, List.set_set]
    · show te _ H' _
      refine he H' k1 x d (List.mem_of_getElem? hd') (dx.mono k1.same) H' Keep.refl _ fun H2 k2 => ?_
      refine ⟨_, k2.to e1, ?_, Keep.own (k1.trans k2) hD, ?_⟩
      · rw [List.length_map, List.length_map, List.length_take]
        exact Nat.lt_of_lt_of_le (show min n ds.length < 1001 by omega) (by decide)
      · rw [List.take_succ, hd', Option.toList_some, List.map_append, List.map_append]
        exact upd_same
  · rintro H' ⟨k1, e1⟩
    rw [len, List.take_length] at e1
    exact k H' k1 e1
/-- bools, item by item of a list -/
theorem lcBL {j : Nat} {σ : L2.St} {H : Hp} {t : Addr} {xs : List V} {ds : List PyData} {f : PyData → Bool} {te : TE} {D : Addr} {Qd : Hp → Prop} (hq : SqL K H t xs) (hd : DqAll K H xs ds) (hl : ds.length ≤ 1000)
    (he : ∀ H2, Keep [] H H2 → ∀ v d, d ∈ ds → Dq K H2 v d → LtB te ((σ.set j none).set j (some v)) H2 (f d)) (hD : H D = none)
    (k : ∀ H', Keep [] H H' → H' D = some (.lst ((ds.map f).map V.bl)) → Qd H') :
    ∃ W : Nat → Nat → Hp → Prop, (∃ m, W 0 m (upd H D (.lst []))) ∧ ∀ i m H, W i m H →
      ((Itl K t).stop i H ∧ Qd H) ∨ ((Itl K t).go i H ∧ ∃ Nx : Hp → Prop, (∀ H', Nx H' → ∃ m', m' < m ∧ W (i + 1) m' H') ∧ ∀ x H', (Itl K t).yld i H x H' → gName j x (wipe σ [j]) H' fun σ2 H2 => wipe σ2 [j] = wipe σ [j] ∧ tYes σ2 H2 fun b H3 =>
        if b = true then te σ2 H3 fun y H4 => ∃ acc, H4 D = some (.lst acc) ∧ acc.length < sizeLine ∧ Nx (upd H4 D (.lst (acc ++ [y]))) else Nx H3) := by
  have len := hd.length
  refine lc_list (xs := xs) (Qd := Qd) (fun i H' => Keep [] H H' ∧ H' D = some (.lst (((ds.take i).map f).map V.bl))) ⟨Keep.new hD, upd_same⟩ ?_ ?_ ?_
  · rintro n H' _ ⟨k1, _⟩
    exact k1.same.seq hq
  · rintro n x H' hx ⟨k1, e1⟩
    obtain ⟨d, hd', dx⟩ := hd.get hx
    have hn : n < ds.length := by
      rcases Nat.lt_or_ge n ds.length with h | h
      · exact h
      · rw [List.getElem?_eq_none h] at hd'
        cases hd'
    refine ⟨?_, ?_⟩
    · show ((σ.set j none).set j (some x)).set j none = σ.set j none
      rw [List.set_set, List.set_set]
    · show te _ H' _
      refine he H' k1 x d (List.mem_of_getElem? hd') (dx.mono k1.same) H' Keep.refl _ fun H2 k2 => ?_
      refine ⟨_, k2.to e1, ?_, Keep.own (k1.trans k2) hD, ?_⟩
      · rw [List.length_map, List.length_map, List.length_take]
        exact Nat.lt_of_lt_of_le (show min n ds.length < 1001 by omega) (by decide)
      · rw [List.take_succ, hd', Option.toList_some, List.map_append, List.map_append]
        exact upd_same
  · rintro H' ⟨k1, e1⟩
    rw [len, List.take_length] at e1
    exact k H' k1 e1
theorem all_id (bs : List PyData) (f : PyData → Bool) : (bs.map f).all (fun b => b) = bs.all f := by
  induction bs with
  | nil => rfl
  | cons b bs ih => rw [List.map_cons, List.all_cons, List.all_cons, ih]
/-- bools, sign by sign of a text -/
theorem lcBstr {j : Nat} {σ : L2.St} {H : Hp} {z : Str} {f : Nat → Bool} {te : TE} {D : Addr} {Qd : Hp → Prop} (hl : z.cps.size ≤ 1000)
    (he : ∀ H2, Keep [] H H2 → ∀ c, LtB te ((σ.set j none).set j (some (.str ⟨#[c]⟩))) H2 (f c)) (hD : H D = none)
    (k : ∀ H', Keep [] H H' → H' D = some (.lst ((z.cps.toList.map f).map V.bl)) → Qd H') :
    ∃ W : Nat → Nat → Hp → Prop, (∃ m, W 0 m (upd H D (.lst []))) ∧ ∀ i m H, W i m H →
      ((Its z).stop i H ∧ Qd H) ∨ ((Its z).go i H ∧ ∃ Nx : Hp → Prop, (∀ H', Nx H' → ∃ m', m' < m ∧ W (i + 1) m' H') ∧ ∀ x H', (Its z).yld i H x H' → gName j x (wipe σ [j]) H' fun σ2 H2 => wipe σ2 [j] = wipe σ [j] ∧ tYes σ2 H2 fun b H3 =>
        if b = true then te σ2 H3 fun y H4 => ∃ acc, H4 D = some (.lst acc) ∧ acc.length < sizeLine ∧ Nx (upd H4 D (.lst (acc ++ [y]))) else Nx H3) := by
  have wk : Walk (Its z) z.cps.size (fun _ => True) (fun i H x H' => H' = H ∧ ∃ c, z.cps[i]? = some c ∧ x = .str ⟨#[c]⟩) :=
    ⟨fun _ _ hi _ => hi, fun _ _ => Nat.le_refl _, fun _ _ _ _ _ _ y => y⟩
  refine lc_it wk (Qd := Qd) (fun i H' => Keep [] H H' ∧ H' D = some (.lst (((z.cps.toList.take i).map f).map V.bl))) ⟨Keep.new hD, upd_same⟩ (fun _ _ _ _ => trivial) ?_ ?_
  · rintro i x H1 H' hi ⟨k1, e1⟩ ⟨rfl, c, hc, rfl⟩
    refine ⟨?_, ?_⟩
    · show ((σ.set j none).set j _).set j none = σ.set j none
      rw [List.set_set, List.set_set]
    · show te _ H' _
      refine he H' k1 c H' Keep.refl _ fun H2 k2 => ?_
      have hc' : z.cps.toList[i]? = some c := by rw [Array.getElem?_toList]; exact hc
      refine ⟨_, k2.to e1, ?_, Keep.own (k1.trans k2) hD, ?_⟩
      · rw [List.length_map, List.length_map, List.length_take]
        exact Nat.lt_of_lt_of_le (show min i z.cps.toList.length < 1001 by omega) (by decide)
      · rw [List.take_succ, hc', Option.toList_some, List.map_append, List.map_append]
        exact upd_same
  · rintro H' ⟨k1, e1⟩
    rw [← Array.length_toList, List.take_length] at e1
    exact k H' k1 e1
/-- over a list or a tuple -/
def iSeq (K : PySem.W.Frag) (tl : TE) : TI := fun σ H R => tl σ H fun x H1 => ∃ a, x = .ref a ∧ (((∃ xs, SqL K H1 a xs) ∧ R (Itl K a) H1) ∨ ((∃ xs, SqT K H1 a xs) ∧ R (Itt K a) H1))
theorem pi_seq {X : Cx} {tg l : Expr} {tl : TE} (hl : PE X l tl) : PI X tg l (iSeq X.K tl) := by
  refine ⟨fun pins s σ H R I h => ?_⟩
  refine thn (hl.run pins s σ H _ I h) fun v s1 ⟨x, H1, I1, r1, a, e, q⟩ => ?_
  subst e
  cases r1
  have fpo : ∀ b, b ∈ [s1.heap.objs.size] → FpOk X pins H1 b := fun b hb => by
    have e : b = s1.heap.objs.size := by simpa using hb
    rw [e]
    exact I1.fpOk (Nat.le_refl _) (I1.hok.fresh (Nat.le_refl _))
  rcases q with ⟨⟨xs, hq⟩, q⟩ | ⟨⟨xs, hq⟩, q⟩
  · obtain ⟨its, rv, p, hz⟩ := I1.list hq
    exact wpAny_pyIter_list p.isList ⟨s1.heap.objs.size, [s1.heap.objs.size], _, _, H1, rfl, I1.kept (t' := s1.toks) fun b o e => Heap.get?_push_of_some _ e, turn_list a _, ⟨_, Heap.get?_push_size _ rfl, rfl, rfl⟩, fpo, q⟩
  · obtain ⟨its, rv, p, hz⟩ := I1.tuple hq
    exact wpAny_pyIter_tuple (show s1.heap.IsTuple a its.toArray from p) ⟨s1.heap.objs.size, [s1.heap.objs.size], _, _, H1, rfl, I1.kept (t' := s1.toks) fun b o e => Heap.get?_push_of_some _ e, turn_tuple a _, ⟨_, Heap.get?_push_size _ rfl, rfl, rfl⟩, fpo, q⟩
end SM
set_option Elab.async false
set_option linter.all false
set_option maxRecDepth 100000
set_option maxHeartbeats 4000000
/-! enumerate of a tuple -/
namespace PySem
open Sem (wp)
open AutoSeq1 (wpAny_loadPart')
theorem meets_enumerate_newT (l : Addr) (items : Array Value) (n : Nat) (dct : Option Addr) (sl : Array (Option Value)) :
    Meets (Builtin.«enumerate.__new__» ⟨[.type "enumerate", .ref l], []⟩) (fun _ R s => s.heap.get? l = some { cls := .type "tuple", dict := dct, data := .seq items n, slots := sl } ∧
      R (.ok (.ret (.ref (s.heap.push { cls := .type "tuple_iterator", data := .fields #[.ref l, .int 0 0] }).objs.size)))
        { s with heap := (s.heap.push { cls := .type "tuple_iterator", data := .fields #[.ref l, .int 0 0] }).push { cls := .type "enumerate", data := .fields #[.none, .bool false, .ref s.heap.objs.size, rawInt 0, .none, .none] } }) :=
  .of_wp fun prog w A R s h => by
    obtain ⟨hp, g, d, tk, os⟩ := s; obtain ⟨hl, h⟩ := h
    have hsub := sub_enumerate
    have hL : Heap.IsTuple (Shared.heap ⟨hp, g, d, tk, os⟩) l items := ⟨_, hl, rfl, n, rfl⟩
    wp_walk using wpAny_loadPart' hl
    refine wpAny_stack_any fun st => wpAny_pure ?_
    split
    · rename_i c _ _ _ _ _
      cases (c == Value.type "enumerate")
      · wp_walk using wpAny_loadPart' hl, wpAny_pyIter_tuple hL
        exact ⟨_, rfl, h⟩
      · wp_walk using wpAny_loadPart' hl, wpAny_pyIter_tuple hL
        exact ⟨_, rfl, h⟩
    · wp_walk using wpAny_loadPart' hl, wpAny_pyIter_tuple hL
      exact ⟨_, rfl, h⟩
section
variable {prog : Program} {w : World} {A : Around} {E : Value → Shared → Prop} {s : Shared}
theorem call_enumerate_tuple {l : Addr} {items : Array Value} {Q : Value → Shared → Prop} (hL : s.heap.IsTuple l items)
    (h : ∀ h', IsEnum h' (s.heap.objs.size + 1) s.heap.objs.size 0 .none → h'.IsTupleIter s.heap.objs.size l 0 → h'.objs.size = s.heap.objs.size + 2 →
      (∀ b o, s.heap.get? b = some o → h'.get? b = some o) → Q (.ref (s.heap.objs.size + 1)) { s with heap := h' }) :
    wpAny (model prog w) A (call (.type "enumerate") [.ref l]) Q E s := by
  obtain ⟨⟨c, dct, dt, sl⟩, hl, hc, n, hd⟩ := hL
  replace hc : c = .type "tuple" := hc
  replace hd : dt = .seq items n := hd
  subst hc hd
  refine callType_new F.called_enumerate (by decide) (F.typeCall_enumerate_1 _) (F.newCall_enumerate_1 _) (fun obj => F.args_object_init_2 obj _) F.entry_enumerate_new
    (meets_enumerate_newT l items n dct sl) ⟨hl, ?_⟩
  have hz : (s.heap.push { cls := .type "tuple_iterator", data := .fields #[.ref l, .int 0 0] }).objs.size = s.heap.objs.size + 1 := Heap.size_push ..
  show _ ∧ _
  rw [hz]
  have he : IsEnum ((s.heap.push { cls := .type "tuple_iterator", data := .fields #[.ref l, .int 0 0] }).push
      { cls := .type "enumerate", data := .fields #[.none, .bool false, .ref s.heap.objs.size, rawInt 0, .none, .none] }) (s.heap.objs.size + 1) s.heap.objs.size 0 .none := by
    have := Heap.get?_push_size (s.heap.push { cls := .type "tuple_iterator", data := .fields #[.ref l, .int 0 0] })
      (o := { cls := .type "enumerate", data := .fields #[.none, .bool false, .ref s.heap.objs.size, rawInt 0, .none, .none] }) rfl
    rw [hz] at this; exact this
  refine ⟨⟨_, he, rfl⟩, h _ he ⟨_, Heap.get?_push_of_some _ (Heap.get?_push_size _ rfl), rfl, rfl⟩ (by rw [Heap.size_push, hz]) fun b o x => Heap.get?_push_of_some _ (Heap.get?_push_of_some _ x)⟩
end
end PySem
set_option Elab.async false
set_option linter.all false
set_option maxRecDepth 100000
set_option maxHeartbeats 4000000
/-! for i, x in enumerate(tuple) -/
namespace SM
open PySem PySem.Spec PyProof.Rows L2
/-- the tuple at a, each item in a new pair -/
def ItT (K : PySem.W.Frag) (a : Addr) : It :=
  ⟨fun i H => ∃ (xs : List V) (x : V), SqT K H a xs ∧ xs[i]? = some x, fun i H v H' => ∃ T x, v = .ref T ∧ H T = none ∧ H' = upd H T (.tup [.int (i : Nat), x]) ∧ ∀ xs, SqT K H a xs → xs[i]? = some x, fun i H => ∃ xs : List V, SqT K H a xs ∧ xs.length = i⟩
theorem enum_ne_tup {h : Heap} {e it a : Addr} {i : Int} {old : Value} {items : Array Value} (he : IsEnum h e it i old) (ht : h.IsTuple a items) : e ≠ a := by
  intro z
  obtain ⟨o, ho, hc, _⟩ := ht
  rw [← z, he] at ho
  cases ho
  exact absurd (Value.type.inj hc) (by decide)
theorem it_ne_tup {h : Heap} {it a t : Addr} {i : Nat} {items : Array Value} (he : h.IsTupleIter it t i) (ht : h.IsTuple a items) : a ≠ it := by
  intro z
  obtain ⟨o, ho, hc, _⟩ := ht
  obtain ⟨o', ho', hc', _⟩ := he
  rw [z, ho'] at ho
  cases ho
  rw [hc'] at hc
  exact absurd (Value.type.inj hc) (by decide)
theorem turn_enumT {P : Program} {w : World} {K : PySem.W.Frag} {elts : List Expr} {kk : Nat} {tpos : Pos} (a e it : Addr) :
    Turn P w K (.Tuple elts kk tpos) (ItT K a) [e, it] e (fun i h => (∃ old, IsEnum h e it ((i : Nat) : Int) old) ∧ h.IsTupleIter it a i ∧ e ≠ it) where
  mem := by simp
  obj := fun i h st b hb => by
    obtain ⟨⟨old, he⟩, ⟨o, ho, hc, hd⟩, _⟩ := st
    have e' : b = e ∨ b = it := by simpa using hb
    rcases e' with z | z
    · rw [z]; exact ⟨_, he, fun v q => nomatch q⟩
    · rw [z]; exact ⟨o, ho, fun v q => by rw [hd] at q; cases q⟩
  keep := fun i h h' st k => let ⟨⟨old, he⟩, hi, hne⟩ := st; ⟨⟨old, k e (by simp) _ he⟩, hi.at fun o q => k it (by simp) o q, hne⟩
  item := by
    intro X hP hw hK hc i pins s σ H E I hf st hg
    subst hP hw hK
    obtain ⟨⟨old, he⟩, hit, hne⟩ := st
    obtain ⟨xs, x, hq, hx⟩ := hg
    obtain ⟨its, rv, p, hz⟩ := I.tuple hq
    obtain ⟨u, hu, ru⟩ := rv.get hx
    have hel : e < s.heap.objs.size := Heap.lt_size he
    have hil : it < s.heap.objs.size := by obtain ⟨_, q, _⟩ := hit; exact Heap.lt_size q
    have pt : s.heap.IsTuple a its.toArray := p
    have hi : i < its.toArray.size := by
      rw [List.size_toArray]
      exact (List.getElem?_eq_some_iff.mp hu).1
    have D := Draws.tuple (prog := X.prog) (w := X.w) (A := X.A.in1) (show X.A.in1.handled = none from I.ok.hd hc) it a (it_ne_tup hit pt) its.toArray
    refine wpAny_pyNext_enum_itemD D he ⟨hit, pt⟩ hi hne (by simp [hne, enum_ne_tup he pt]) fun y h' tk hy ho ⟨hit', pt'⟩ hT hsz hk => ?_
    have ey : y = u := by
      have : its.toArray[i]? = some u := by simpa using hu
      rw [this] at hy
      exact (Option.some.inj hy).symm
    subst ey
    refine ⟨_, rfl, wpAny_letOwnedTupleGo_enum (s := { s with heap := h', toks := tk + 1 }) ho fun h'' he' sb => ?_⟩
    have hT2 : h''.get? s.heap.objs.size = some { cls := .type "tuple", data := .seq #[.int i tk, y] } := (sb.2 _ (Nat.ne_of_gt hel)).trans hT
    have new : ObjOk X.prog X.w (upd H s.heap.objs.size (.tup [.int (i : Nat), x])) h'' s.heap.objs.size (.tup [.int (i : Nat), x]) :=
      ⟨by show 2 ≤ sizeLine; decide, [.int i tk, y], .cons ⟨_, rfl⟩ (.cons ru .nil), ⟨_, hT2, rfl, _, rfl⟩⟩
    have I1 : Inv X pins σ (upd H s.heap.objs.size (.tup [.int (i : Nat), x])) { s with heap := h'', toks := tk + 1 } :=
      I.turnedNew (ch := [e, it]) (fun b ob hb q => (sb.2 b (fun z => hb (by simp [z]))).trans (hk b ob (fun z => hb (by simp [z])) (fun z => hb (by simp [z])) q)) hf (Nat.le_refl _) new
    refine ⟨.ref s.heap.objs.size, _, I1, rfl, ⟨_, x, rfl, I.hok.fresh (Nat.le_refl _), rfl, fun ys hy => by rw [I.tuple_inj hy hq]; exact hx⟩, ⟨⟨y, ?_⟩, hit'.at fun o q => (sb.2 it (Ne.symm hne)).trans q, hne⟩, fun b hb => ?_⟩
    · have e1 : ((i + 1 : Nat) : Int) = (i : Int) + 1 := by omega
      rw [e1]; exact he'
    · have hb' : b < s.heap.objs.size := by
        have e' : b = e ∨ b = it := by simpa using hb
        rcases e' with z | z
        · rw [z]; exact hel
        · rw [z]; exact hil
      rw [upd_ne (Nat.ne_of_lt hb')]
      exact (hf b hb).1
  done := by
    intro X hP hw hK hc i pins s σ H E I hf st hg
    subst hP hw hK
    obtain ⟨⟨old, he⟩, hit, hne⟩ := st
    obtain ⟨xs, hq, hx⟩ := hg
    obtain ⟨its, rv, p, hz⟩ := I.tuple hq
    obtain ⟨f0, f1, f2, f3, f4, f5⟩ := hf it (by simp)
    have hl := rv.length
    have pt : s.heap.IsTuple a its.toArray := p
    have D := Draws.tuple (prog := X.prog) (w := X.w) (A := X.A.in1) (show X.A.in1.handled = none from I.ok.hd hc) it a (it_ne_tup hit pt) its.toArray
    have hn : i = its.toArray.size := by rw [List.size_toArray]; omega
    exact wpAny_pyNext_enum_endD D he (by rw [← hn]; exact ⟨hit, pt⟩) fun h' eb => ⟨rfl, I.turned (t' := s.toks) (fun b o hb q => eb b o hb q) f0 f1 f3 f4 f5⟩
  self := fun A i s Q E st h => let ⟨⟨_, he⟩, _⟩ := st; wpAny_pyIter_enum he h
/-- enumerate of a list or a tuple -/
def iEnumA (K : PySem.W.Frag) (ta : TA) : TI := fun σ H R => ta σ H fun vs H1 => ∃ a xs, vs = [.ref a] ∧ ((SqL K H1 a xs ∧ R (Ite K a) H1) ∨ (SqT K H1 a xs ∧ R (ItT K a) H1))
theorem pi_enumA {X : Cx} {e : Expr} {ta : TA} {p pos tpos : Pos} {elts : List Expr} {kk : Nat} (hg : Gl X "enumerate") (hm : X.mg "enumerate" = none) (ha : PA X [e] ta) (hs : starEach [e] X.env = [(false, eval e X.env)] := by rfl) :
    PI X (.Tuple elts kk tpos) (.Call (.Name "enumerate" p) [e] [] pos) (iEnumA X.K ta) := by
  refine ⟨fun pins s σ H R I h => ?_⟩
  refine Call_ (ld_blt I hg hm boot_enumerate (PyProof.Rows.callWith_type1 (thn (ha.run pos pins s σ H _ I h) fun us s1 ⟨vs, H1, I1, r1, q1⟩ => ?_) hs rfl))
  obtain ⟨a, xs, ex, q1⟩ := q1
  subst ex
  cases r1 with
  | cons r rr =>
    cases rr
    cases r
    have fpo : ∀ b, b = s1.heap.objs.size + 1 ∨ b = s1.heap.objs.size → s1.heap.objs.size ≤ b := by
      intro b e'
      rcases e' with z | z
      · rw [z]; exact Nat.le_add_right _ _
      · rw [z]; exact Nat.le_refl _
    rcases q1 with ⟨hq, q⟩ | ⟨hq, q⟩
    · obtain ⟨its, rv, p', hz⟩ := I1.list hq
      refine call_enumerate_list p'.isList fun h' he hit hsz hk => wpAny_pyIter_enum he ?_
      have I2 : Inv X pins σ H1 { s1 with heap := h' } := I1.kept (t' := s1.toks) hk
      refine ⟨s1.heap.objs.size + 1, [s1.heap.objs.size + 1, s1.heap.objs.size], _, _, H1, rfl, I2, turn_enum a (s1.heap.objs.size + 1) s1.heap.objs.size, ⟨⟨.none, he⟩, hit, Nat.succ_ne_self _⟩, fun b hb => ?_, q⟩
      have hle := fpo b (by simpa using hb)
      exact I1.fpOk hle (I1.hok.fresh hle)
    · obtain ⟨its, rv, p', hz⟩ := I1.tuple hq
      refine call_enumerate_tuple (show s1.heap.IsTuple a its.toArray from p') fun h' he hit hsz hk => wpAny_pyIter_enum he ?_
      have I2 : Inv X pins σ H1 { s1 with heap := h' } := I1.kept (t' := s1.toks) hk
      refine ⟨s1.heap.objs.size + 1, [s1.heap.objs.size + 1, s1.heap.objs.size], _, _, H1, rfl, I2, turn_enumT a (s1.heap.objs.size + 1) s1.heap.objs.size, ⟨⟨.none, he⟩, hit, Nat.succ_ne_self _⟩, fun b hb => ?_, q⟩
      have hle := fpo b (by simpa using hb)
      exact I1.fpOk hle (I1.hok.fresh hle)
/-- for i, x in enumerate(a tuple) -/
theorem for_enumT {K : PySem.W.Frag} {a : Addr} {xs : List V} {g : TG} {tb : TS} {D : Ends} {σ : L2.St} {H : Hp} (Pv : Nat → L2.St → Hp → Prop) (h0 : Pv 0 σ H) (hl : ∀ i σ H, i ≤ xs.length → Pv i σ H → SqT K H a xs)
    (hs : ∀ (i : Nat) (x : V) (T : Addr) (σ : L2.St) (H : Hp), xs[i]? = some x → Pv i σ H → H T = none → g (.ref T) σ (upd H T (.tup [.int (i : Int), x])) fun σ2 H2 => tb { D with nx := Pv (i + 1), ct := Pv (i + 1), bk := D.nx } σ2 H2)
    (hd : ∀ σ H, Pv xs.length σ H → D.nx σ H) :
    ∃ W : Nat → Nat → L2.St → Hp → Prop, (∃ m, W 0 m σ H) ∧ ∀ i m σ H, W i m σ H →
      ((ItT K a).stop i H ∧ D.nx σ H) ∨ ((ItT K a).go i H ∧ ∃ N : L2.St → Hp → Prop, (∀ σ' H', N σ' H' → ∃ m', m' < m ∧ W (i + 1) m' σ' H') ∧ ∀ x H', (ItT K a).yld i H x H' → g x σ H' fun σ2 H2 => tb { D with nx := N, ct := N, bk := D.nx } σ2 H2) := by
  refine ⟨fun i m σ H => m + i = xs.length ∧ Pv i σ H, ⟨xs.length, rfl, h0⟩, ?_⟩
  intro i m σ H w
  obtain ⟨em, p⟩ := w
  have sq := hl i σ H (by omega) p
  by_cases c : i < xs.length
  · right
    refine ⟨⟨xs, xs[i], sq, List.getElem?_eq_getElem c⟩, Pv (i + 1), fun σ' H' q => ⟨m - 1, by omega, by omega, q⟩, fun v H' y => ?_⟩
    obtain ⟨T, x, rfl, hT, rfl, hx⟩ := y
    exact hs i x T σ H (hx xs sq) p hT
  · left
    have e : i = xs.length := by omega
    subst e
    exact ⟨⟨xs, sq, rfl⟩, hd σ H p⟩
/-- for i, x in enumerate(a list or a tuple) that stands -/
theorem for_enumA {K : PySem.W.Frag} {a : Addr} {xs : List V} {g : TG} {tb : TS} {D : Ends} {σ : L2.St} {H : Hp} (Pv : Nat → L2.St → Hp → Prop) (hq : SqL K H a xs ∨ SqT K H a xs) (h0 : Pv 0 σ H) (hk : ∀ i σ' H', Pv i σ' H' → Keep [] H H')
    (hs : ∀ (i : Nat) (x : V) (T : Addr) (σ : L2.St) (H : Hp), xs[i]? = some x → Pv i σ H → H T = none → g (.ref T) σ (upd H T (.tup [.int (i : Int), x])) fun σ2 H2 => tb { D with nx := Pv (i + 1), ct := Pv (i + 1), bk := D.nx } σ2 H2)
    (hd : ∀ σ H, Pv xs.length σ H → D.nx σ H) :
    (SqL K H a xs ∧ ∃ W : Nat → Nat → L2.St → Hp → Prop, (∃ m, W 0 m σ H) ∧ ∀ i m σ H, W i m σ H →
      ((Ite K a).stop i H ∧ D.nx σ H) ∨ ((Ite K a).go i H ∧ ∃ N : L2.St → Hp → Prop, (∀ σ' H', N σ' H' → ∃ m', m' < m ∧ W (i + 1) m' σ' H') ∧ ∀ x H', (Ite K a).yld i H x H' → g x σ H' fun σ2 H2 => tb { D with nx := N, ct := N, bk := D.nx } σ2 H2)) ∨
    (SqT K H a xs ∧ ∃ W : Nat → Nat → L2.St → Hp → Prop, (∃ m, W 0 m σ H) ∧ ∀ i m σ H, W i m σ H →
      ((ItT K a).stop i H ∧ D.nx σ H) ∨ ((ItT K a).go i H ∧ ∃ N : L2.St → Hp → Prop, (∀ σ' H', N σ' H' → ∃ m', m' < m ∧ W (i + 1) m' σ' H') ∧ ∀ x H', (ItT K a).yld i H x H' → g x σ H' fun σ2 H2 => tb { D with nx := N, ct := N, bk := D.nx } σ2 H2)) := by
  rcases hq with hq | hq
  · exact .inl ⟨hq, for_enumL Pv h0 (fun i σ' H' _ p => (hk i σ' H' p).same.seq hq) hs hd⟩
  · exact .inr ⟨hq, for_enumT Pv h0 (fun i σ' H' _ p => seqT_keep (hk i σ' H' p) Soft.nil hq) hs hd⟩
end SM
set_option Elab.async false
set_option linter.all false
set_option maxRecDepth 100000
set_option maxHeartbeats 4000000
/-! raise C(e), C an own error that stores its argument. -/
namespace SM
open PySem PySem.Spec PyProof.Rows L2 PySem.HandSPX
/-- what raising x(..) wants: the class, its __init__ -/
structure RaiseOk (P : Program) (w : World) (K : PySem.W.Frag) (mg : Str → Option Value) (base : Heap) (x f : Str) : Prop where
  err : ErrC K (He.ga K x) (He.ma K (He.ga K x) "__init__")
  no : PySem.W.findIn K (.ref (He.ga K x)) f = some none
  ex : ∃ fd, FnOk P w K mg base CX0 1 (He.ma K (He.ga K x) "__init__") fd ["self", f] (spErr K f) ∧ Binds K fd ["self", f] []
  at_ : mg x = some (.ref (He.ga K x))
/-- the raise's reading -/
def tRaiseE (K : PySem.W.Frag) (C : Addr) (f : Str) (te : TE) (W : WX) : TS := fun _ σ H => tMkO C (spErr K f) [] (tCons te tNil) σ H fun cls d H' => W cls d σ H'
theorem ps_raiseErr {X : Cx} {W : WX} {x f : Str} {e : Expr} {te : TE} {p pos pos' : Pos} (R : RaiseOk X.prog X.w X.K X.mg X.base x f) (hc : X.calm = true) (hr : Room 2 X.A) (tk : Takes X W) (he : PE X e te) (hg : Gl X x := by rfl) (hdb : (x == ("__debug__" : Str)) = false := by decide)
    (hs : starEach [e] X.env = (false, eval e X.env) :: starEach [] X.env := by rfl) (hpl : (backTo pos (starEach [] X.env)).any (·.1) = false := by rfl) :
    PS X (.Raise (some (.Call (.Name x p) [e] [] pos)) none pos') (tRaiseE X.K (He.ga X.K x) f te W) := by
  obtain ⟨T, no, ⟨fd, F, b⟩, at_⟩ := R
  exact ps_raise hc tk (pmk_oex (ds := []) T.ox T.iC T.tI F hr b .nil pass0 hg at_ (pa_cons he pa_nil hs) hdb hs hpl)
theorem upd_del {H : Hp} {a d : Addr} {o1 o2 u v : HO} (ha : H a = none) : upd (del (upd (upd (upd H a o1) d u) a o2) a) d v = upd H d v := by
  funext b
  by_cases hd : b = d
  · rw [hd, upd_same, upd_same]
  · rw [upd_ne hd, upd_ne hd]
    by_cases hb : b = a
    · rw [hb, del_same, ha]
    · rw [del_ne hb, upd_ne hb, upd_ne hd, upd_ne hb]
/-- once its argument is read: what the raise tells -/
theorem raise_out {K : PySem.W.Frag} {C fI : Addr} {f : Str} {H1 : Hp} {v : V} {W : Value → Option Addr → Hp → Prop} (T : ErrC K C fI) (no : PySem.W.findIn K (.ref C) f = some none) (q : ∀ d, H1 d = none → W (.ref C) (some d) (upd H1 d (.xd [(f, v)]))) :
    [v].length ≤ 1000 ∧ ∀ a, H1 a = none → spErr K f (.ref a :: ([v] ++ [])) (upd H1 a (exo a C none))
      (fun y H2 => y = .non ∧ ∃ (d : Addr) (fs : List (Str × V)), H2 a = some (exo a C (some d)) ∧ H2 d = some (exd d fs) ∧ H1 d = none ∧ W (.ref C) (some d) (upd (del H2 a) d (.xd fs))) (fun _ _ _ => False) := by
  refine ⟨by simp, fun a ha => ⟨a, C, v, rfl, T.ox, no, upd_same, fun dx n ne => ⟨rfl, dx, [(f, v)], upd_same, ?_, ?_, ?_⟩⟩⟩
  · rw [upd_ne ne, upd_same]
  · rw [upd_ne ne] at n
    exact n
  · rw [upd_ne ne] at n
    rw [upd_del ha]
    exact q dx n
end SM
set_option Elab.async false
set_option linter.all false
set_option maxRecDepth 100000
set_option maxHeartbeats 6400000
/-! set(a list or a tuple of texts): how many different ones. -/
namespace SM
open PySem PySem.Spec PyProof.Rows
def addS (acc : List Str) (x : Str) : List Str := if acc.any (· == x) = true then acc else acc ++ [x]
/-- the different ones, as they come -/
def dedS (xs : List Str) : List Str := xs.foldl addS []
theorem dedS_snoc (xs : List Str) (x : Str) : dedS (xs ++ [x]) = addS (dedS xs) x := by
  rw [dedS, List.foldl_append]
  rfl
theorem addS_len (acc : List Str) (x : Str) : (addS acc x).length = if acc.any (· == x) = true then acc.length else acc.length + 1 := by
  unfold addS
  split <;> simp
theorem addS_le (acc : List Str) (x : Str) : (addS acc x).length ≤ acc.length + 1 := by
  rw [addS_len]
  split <;> omega
theorem dedS_le (xs : List Str) : ∀ i, (dedS (xs.take i)).length ≤ i
  | 0 => by simp [dedS]
  | i + 1 => by
    have ih := dedS_le xs i
    rw [List.take_succ]
    cases e : xs[i]? with
    | none => rw [Option.toList_none, List.append_nil]; omega
    | some x =>
      rw [Option.toList_some, dedS_snoc]
      have := addS_le (dedS (xs.take i)) x
      omega
theorem addS_any (acc : List Str) (x k : Str) : (addS acc x).any (· == k) = (acc.any (· == k) || decide (k = x)) := by
  unfold addS
  split
  · rename_i h
    by_cases e : k = x
    · subst e
      rw [h]
      rfl
    · rw [decide_eq_false e, Bool.or_false]
  · rw [List.any_append]
    congr 1
    rw [List.any_cons, List.any_nil, Bool.or_false]
    by_cases e : k = x
    · subst e
      simp
    · rw [decide_eq_false e]
      exact beq_eq_false_iff_ne.mpr fun z => e z.symm
section
variable {prog : Program} {w : World} {A : Around} {R : Result → Shared → Prop} {I : Addr} {fp wr : List Addr} {G : Array GenState → Array GenState → Prop} {P : Nat → Value → Prop} {St : Nat → Shared → Prop}
/-- each text of the walk is added -/
theorem set_words (S : Addr) (xs : List Str) (W : WalksS prog w A.in1 I fp wr G xs.length P St) (out : S ∉ fp) (few : xs.length + 1 < scanBound) (hval : ∀ i v, P i v → ∃ x t, xs[i]? = some x ∧ v = .str x t) :
    ∀ (k i : Nat) (s : Shared), xs.length - i = k → i ≤ xs.length → St i s → s.heap.SetOf (PySem.strKind prog w) S (fun y => (dedS (xs.take i)).any (· == y)) (dedS (xs.take i)).length →
      (∀ s', Moved (S :: wr) G s s' → s'.heap.SetOf (PySem.strKind prog w) S (fun y => (dedS xs).any (· == y)) (dedS xs).length → R (.ok (.ret .none)) s') →
      codeAny (model prog w) A (.builtin "set.update.loop" ⟨[.ref S, .ref I], []⟩) R s := by
  have nw : S ∉ wr := fun h => out (W.sub _ h)
  have up : ∀ b ∈ wr, b ∈ S :: wr := fun b hb => List.mem_cons_of_mem _ hb
  have stays : ∀ {s s' : Shared} {f : Str → Bool} {n : Nat}, Moved wr G s s' → s.heap.SetOf (PySem.strKind prog w) S f n → s'.heap.SetOf (PySem.strKind prog w) S f n := by
    intro s s' f n m hS
    obtain ⟨o, es, ep, t, ho, rest⟩ := hS
    exact ⟨o, es, ep, t, m.heap S _ nw ho, rest⟩
  intro k
  induction k with
  | zero =>
    intro i s hk hi hst hS hR
    refine codeAny_builtin F.entry_set_update_loop ?_
    rw [Around.under_plainId F.plain_set_update_loop _]
    show wpAny _ A.in1 (pyNext (.ref I) >>= _) _ _ s
    have ei : i = xs.length := by omega
    subst ei
    rw [List.take_length] at hS
    exact wpAny_bind (W.done s _ _ hst fun s' m => wpAny_pure (hR s' (m.mono up) (stays m hS)))
  | succ k ih =>
    intro i s hk hi hst hS hR
    refine codeAny_builtin F.entry_set_update_loop ?_
    rw [Around.under_plainId F.plain_set_update_loop _]
    show wpAny _ A.in1 (pyNext (.ref I) >>= _) _ _ s
    refine wpAny_bind (W.item i s _ _ (by omega) hst fun v s' hP hst' m => ?_)
    obtain ⟨x, t, hx, rfl⟩ := hval i v hP
    show wpAny _ A.in1 (holding [Value.str x t] (setAdd S (.str x t)) >>= _) _ _ s'
    refine wpAny_bind (wpAny_holding ?_)
    unfold setAdd
    refine wpAny_holding (wpAny_bind ((PySem.strKind prog w).pyHash (k := x) (strKind_is _ _ _ _) ?_))
    have hS' := stays m hS
    have room : (dedS (xs.take i)).length + 1 < scanBound := by
      have := dedS_le xs i
      omega
    refine wpAny_setAddHashed_of (knd := PySem.strKind prog w) (s := { s' with toks := s'.toks + 1 }) (strKind_is _ _ _ _) rfl hS' room fun h' sb hS2 => ?_
    have next : dedS (xs.take (i + 1)) = addS (dedS (xs.take i)) x := by
      rw [List.take_succ, hx, Option.toList_some, dedS_snoc]
    have hS3 : h'.SetOf (PySem.strKind prog w) S (fun y => (dedS (xs.take (i + 1))).any (· == y)) (dedS (xs.take (i + 1))).length :=
      SetOf_congr hS2 (fun y => by rw [next, addS_any]) (by rw [next, addS_len])
    refine wpAny_pure ⟨plainId_quiet F.plain_set_update_loop _, ih (i + 1) _ (by omega) (by omega) (W.frame _ s' _ _ hst' (Nat.le_succ _) fun b hb o e => ?_) hS3 fun s'' m2 hE => hR s'' (Moved.trans W.gtrans ((m.mono up).then_heap (Nat.le_succ _) fun b o hb e => ?_) m2) hE⟩
    · exact (sb.2 b fun z : b = S => out (z ▸ hb)).trans e
    · exact (sb.2 b fun z : b = S => hb (by rw [z]; exact List.mem_cons_self)).trans e
end
section
variable {prog : Program} {w : World} {A : Around} {E : Value → Shared → Prop} {s : Shared}
/-- what the fresh set holds once __init__ is through -/
def Filled (prog : Program) (w : World) (s : Shared) (xs : List Str) (E : Value → Shared → Prop) : Result → Shared → Prop := wants (fun r s₂ => r = .none ∧ ∃ h' tk, s₂ = { s with heap := h', toks := tk } ∧
  h'.SetOf (PySem.strKind prog w) s.heap.objs.size (fun y => (dedS xs).any (· == y)) (dedS xs).length ∧ (∀ b o, s.heap.get? b = some o → h'.get? b = some o)) E
theorem call_set_words {l : Addr} {items : Array Value} {xs : List Str} {Q : Value → Shared → Prop} (hh : A.handled = none) (hl : s.heap.IsList l items ∨ s.heap.IsTuple l items) (hi : StrsAre items.toList xs) (few : xs.length + 1 < scanBound)
    (h : ∀ (h' : Heap) (tk : Nat), h'.SetOf (PySem.strKind prog w) s.heap.objs.size (fun y => (dedS xs).any (· == y)) (dedS xs).length → (∀ b o, s.heap.get? b = some o → h'.get? b = some o) → Q (.ref s.heap.objs.size) { s with heap := h', toks := tk }) :
    wpAny (model prog w) A (call (.type "set") [.ref l]) Q E s := by
  have len : items.size = xs.length := by rw [← StrsAre.len_eq hi, Array.length_toList]
  have hval : ∀ (i : Nat) (v : Value), items[i]? = some v → ∃ x t, xs[i]? = some x ∧ v = .str x t := fun i v hv => by
    have hi' : i < xs.length := by rw [← len]; exact (Array.getElem?_eq_some_iff.mp hv).1
    obtain ⟨t, e⟩ := SS.strs_at hi i v (by rw [Array.getElem?_toList]; exact hv)
    refine ⟨xs[i], t, List.getElem?_eq_getElem hi', ?_⟩
    rw [e, List.getD_eq_getElem?_getD, List.getElem?_eq_getElem hi']
    rfl
  have C := PySem.F.called_set
  obtain ⟨c, tl, hmro⟩ := C.mro
  have hmade := C.made
  have hsub := C.sub
  refine wpAny_call (codeAny_of_tree ?_)
  show wpAny _ _ (callAny (.type "set") _) _ _ _
  refine wpAny_pure ⟨Code.quiet_builtin _ (by decide +kernel), codeAny_builtin PySem.F.entry_type_call ?_⟩
  rw [Around.under_plain (weight_type_call_type "set" [.ref l] []) rfl]
  have h1 := C.notType
  have h2 := C.canCreate
  have hct := PySem.F.typeCall_set_1 (.ref l)
  repeat (any_goals (first | assumption | wp_step))
  refine codeAny_mono (code_set_new_1 (.ref l) (E := E) (Q₁ := fun obj s₁ => ∃ led : Bool, obj = .ref s.heap.objs.size ∧ s₁ = { s with heap := s.heap.push { cls := .type "set", dict := none, data := .set #[] 0 (.fresh 0 0 led) } }) fun led => ⟨led, rfl, rfl⟩) fun r s₁ hr => ?_
  cases r with
  | error e => exact hr
  | ok fl =>
    cases fl with
    | next => exact hr.elim
    | brk => exact hr.elim
    | cont => exact hr.elim
    | ret obj =>
      obtain ⟨led, rfl, rfl⟩ := hr
      have hS : (s.heap.push { cls := .type "set", dict := none, data := .set #[] 0 (.fresh 0 0 led) }).get? s.heap.objs.size = some { cls := .type "set", dict := none, data := .set #[] 0 (.fresh 0 0 led) } := Heap.get?_push_size _ rfl
      have hT : Shared.TypeIs { s with heap := s.heap.push { cls := .type "set", dict := none, data := .set #[] 0 (.fresh 0 0 led) } } (.ref s.heap.objs.size) "set" := ⟨_, hS, rfl⟩
      have hli := C.init.lookup
      have hbi := C.init.bind (.ref s.heap.objs.size)
      repeat (any_goals (first | assumption | wp_step))
      refine codeAny_mono (codeAny_call_builtin (R := Filled prog w s xs E) C.init.plain PySem.F.entry_set_init (check_set_init_1 hT ?_)) fun r₂ s₂ hr₂ => ?_
      · have hz : (s.heap.push { cls := .type "set", dict := none, data := .set #[] 0 (.fresh 0 0 led) }).objs.size = s.heap.objs.size + 1 := Heap.size_push ..
        rcases hl with hl | hl
        · obtain ⟨⟨oc, od, dt, sl⟩, hol, hc, nl, hd⟩ := hl
          simp only at hc hd
          subst hc hd
          have kept := Heap.get?_push_of_some { cls := .type "set", dict := none, data := .set #[] 0 (.fresh 0 0 led) } hol
          have s1 := PySem.F.sub_list_set
          have s2 := PySem.F.sub_list_frozenset
          have nd : (Value.type "list" == Value.type "dict") = false := by decide
          have hl1 : (s.heap.push { cls := .type "set", dict := none, data := .set #[] 0 (.fresh 0 0 led) }).IsList l items := ⟨_, kept, rfl, nl, rfl⟩
          have below : l < s.heap.objs.size := Heap.lt_size hol
          unfold Builtin.«set.__init__» noKeywords Builtin.Frozenset.updateFrom
          generalize hPI : pyIter = PI
          wp_walk
          subst hPI
          refine wpAny_pyIter_list hl1 (wpAny_bind (wpAny_runValue ?_))
          have apart : l ≠ (s.heap.push { cls := .type "set", dict := none, data := .set #[] 0 (.fresh 0 0 led) }).objs.size := by
            rw [hz]
            exact Nat.ne_of_lt (Nat.lt_succ_of_lt below)
          have W0 := (Walks.list (prog := prog) (w := w) (A := A.in1.in1.in1) (by simp [hh]) _ l apart items).toS
          rw [len] at W0
          refine set_words s.heap.objs.size xs W0 (by rw [hz]; simp only [List.mem_cons, List.not_mem_nil, or_false, not_or]; exact ⟨Nat.ne_of_lt (Nat.lt_succ_self _), Nat.ne_of_gt below⟩) few hval xs.length 0 _ rfl (Nat.zero_le _) ⟨⟨_, Heap.get?_push_size _ rfl, rfl, rfl⟩, hl1.push _⟩ ?_ fun s' m hE => ?_
          · exact SetOf_congr ((setObjOf_fresh (knd := PySem.strKind prog w) led).setOf (Heap.get?_push_of_some _ hS) (by unfold scanBound; omega)) (fun _ => rfl) rfl
          · obtain ⟨h', g', d', tk', os'⟩ := s'
            have eg : g' = s.gens := m.gens
            have ed : d' = s.drawn := m.drawn
            have eo : os' = s.os := m.os
            subst eg ed eo
            show wpAny _ _ _ _ _ _
            refine wpAny_pure ?_
            show wpAny _ _ (ret Value.none) _ _ _
            refine wpAny_pure ⟨rfl, h', tk', rfl, hE, fun b o e => ?_⟩
            have hb := Heap.lt_size e
            exact m.heap b o (by rw [hz]; simp only [List.mem_cons, List.not_mem_nil, or_false, not_or]; exact ⟨Nat.ne_of_lt hb, Nat.ne_of_lt (Nat.lt_succ_of_lt hb)⟩) (Heap.get?_push_of_some _ (Heap.get?_push_of_some _ e))
        · obtain ⟨⟨oc, od, dt, sl⟩, hol, hc, nl, hd⟩ := hl
          simp only at hc hd
          subst hc hd
          have kept := Heap.get?_push_of_some { cls := .type "set", dict := none, data := .set #[] 0 (.fresh 0 0 led) } hol
          have s1 := PySem.F.sub_tuple_set
          have s2 := PySem.F.sub_tuple_frozenset
          have nd : (Value.type "tuple" == Value.type "dict") = false := by decide
          have hl1 : (s.heap.push { cls := .type "set", dict := none, data := .set #[] 0 (.fresh 0 0 led) }).IsTuple l items := ⟨_, kept, rfl, nl, rfl⟩
          have below : l < s.heap.objs.size := Heap.lt_size hol
          unfold Builtin.«set.__init__» noKeywords Builtin.Frozenset.updateFrom
          generalize hPI : pyIter = PI
          wp_walk
          subst hPI
          refine wpAny_pyIter_tuple hl1 (wpAny_bind (wpAny_runValue ?_))
          have apart : l ≠ (s.heap.push { cls := .type "set", dict := none, data := .set #[] 0 (.fresh 0 0 led) }).objs.size := by
            rw [hz]
            exact Nat.ne_of_lt (Nat.lt_succ_of_lt below)
          have W0 := (Walks.tuple (prog := prog) (w := w) (A := A.in1.in1.in1) (by simp [hh]) _ l apart items).toS
          rw [len] at W0
          refine set_words s.heap.objs.size xs W0 (by rw [hz]; simp only [List.mem_cons, List.not_mem_nil, or_false, not_or]; exact ⟨Nat.ne_of_lt (Nat.lt_succ_self _), Nat.ne_of_gt below⟩) few hval xs.length 0 _ rfl (Nat.zero_le _) ⟨⟨_, Heap.get?_push_size _ rfl, rfl, rfl⟩, hl1.push _⟩ ?_ fun s' m hE => ?_
          · exact SetOf_congr ((setObjOf_fresh (knd := PySem.strKind prog w) led).setOf (Heap.get?_push_of_some _ hS) (by unfold scanBound; omega)) (fun _ => rfl) rfl
          · obtain ⟨h', g', d', tk', os'⟩ := s'
            have eg : g' = s.gens := m.gens
            have ed : d' = s.drawn := m.drawn
            have eo : os' = s.os := m.os
            subst eg ed eo
            show wpAny _ _ _ _ _ _
            refine wpAny_pure ?_
            show wpAny _ _ (ret Value.none) _ _ _
            refine wpAny_pure ⟨rfl, h', tk', rfl, hE, fun b o e => ?_⟩
            have hb := Heap.lt_size e
            exact m.heap b o (by rw [hz]; simp only [List.mem_cons, List.not_mem_nil, or_false, not_or]; exact ⟨Nat.ne_of_lt hb, Nat.ne_of_lt (Nat.lt_succ_of_lt hb)⟩) (Heap.get?_push_of_some _ (Heap.get?_push_of_some _ e))
      · cases r₂ with
        | error e => exact hr₂
        | ok fl₂ =>
          cases fl₂ with
          | next => exact hr₂.elim
          | brk => exact hr₂.elim
          | cont => exact hr₂.elim
          | ret r =>
            obtain ⟨rfl, h', tk, rfl, hS', hk'⟩ := hr₂
            repeat (any_goals (first | assumption | wp_step))
            exact h _ _ hS' hk'
end
end SM
set_option Elab.async false
set_option linter.all false
set_option maxRecDepth 100000
set_option maxHeartbeats 2000000
/-! len(set(a list or a tuple of texts)) -/
namespace SM
open PySem PySem.Spec PyProof.Rows L2
def tLenSetW (K : PySem.W.Frag) (ta : TE) : TE := fun σ H Q => ta σ H fun x H1 => ∃ l, ∃ xs : List Str, x = .ref l ∧ (SqL K H1 l (xs.map V.str) ∨ SqT K H1 l (xs.map V.str)) ∧ xs.length ≤ 100 ∧ Q (.int (dedS xs).length) H1
section
variable {X : Cx}
theorem pe_lenSetW {a : Expr} {ta : TE} {p p2 q pos : Pos} (hc : X.calm = true) (hg : Gl X "len") (hm : X.mg "len" = none) (hg2 : Gl X "set") (hm2 : X.mg "set" = none) (ha : PE X a ta)
    (na : starEach [a] X.env = (false, eval a X.env) :: starEach [] X.env := by rfl) : PE X (.Call (.Name "len" p) [.Call (.Name "set" p2) [a] [] q] [] pos) (tLenSetW X.K ta) := by
  refine ⟨fun pins s σ H Q I h => ?_⟩
  refine Call_ (ld_blt I hg hm boot_len (callWith_builtin1 (args_cons ?_ rfl) rfl rfl))
  refine Call_ (ld_blt I hg2 hm2 boot_set (callWith_type1 (args_cons (thn (ha.run pins s σ H _ I h) fun v s1 z => args_nil ?_) na) na rfl))
  obtain ⟨x, H1, I1, r1, l, xs, rfl, hq, few, want⟩ := z
  cases r1
  have room : xs.length + 1 < scanBound := by unfold scanBound; omega
  have look : ∃ its : List Value, Vals (xs.map V.str) its ∧ (s1.heap.IsList l its.toArray ∨ s1.heap.IsTuple l its.toArray) := by
    rcases hq with hq | hq
    · obtain ⟨its, r, pl, _⟩ := I1.list hq
      exact ⟨its, r, .inl pl.isList⟩
    · obtain ⟨its, r, pl, _⟩ := I1.tuple hq
      exact ⟨its, r, .inr pl⟩
  obtain ⟨its, r, there⟩ := look
  refine call_set_words (I1.ok.hd hc) there (by simpa using strsAre_of r) room fun h' tk hS kept => args_nil ?_
  obtain ⟨o, es, ep, t, ho, hex, hd, _, _, _, hf, hn⟩ := hS
  have I2 : Inv X pins σ H1 { s1 with heap := h', toks := tk } := I1.kept kept
  have le : (dedS xs).length ≤ 100 := by
    have := dedS_le xs xs.length
    rw [List.take_length] at this
    omega
  exact call_len_set ho hex hd hf (by rw [hn] <;> omega) ⟨.int (dedS xs).length, H1, I2.tok _, ⟨_, by rw [hn]⟩, want⟩
end
theorem addS_same {acc : List Str} {x : Str} (h : x ∈ acc) : addS acc x = acc := by
  unfold addS
  rw [if_pos]
  exact List.any_eq_true.mpr ⟨x, h, by simp⟩
theorem addS_new {acc : List Str} {x : Str} (h : x ∉ acc) : addS acc x = acc ++ [x] := by
  unfold addS
  rw [if_neg]
  intro z
  obtain ⟨y, hy, e⟩ := List.any_eq_true.mp z
  exact h (by rw [← eq_of_beq e]; exact hy)
end SM
set_option Elab.async false
set_option linter.all false
set_option maxRecDepth 100000
set_option maxHeartbeats 2000000
/-! A tuple of texts at the top, as the head looks at it. -/
namespace SM
open PySem PySem.Spec PyProof.Rows L2
def strV : Value → Option Str
  | .str x _ => some x
  | _ => none
def kTup? (K : PySem.W.Frag) (a : Addr) (ws : List Str) : Bool := match K.lookup a with
  | some o => decide (o.cls = .type "tuple") && (match o.data with
    | .seq its _ => decide (its.toList.map strV = ws.map some)
    | _ => false)
  | none => false
theorem strV_vals : ∀ {us : List Value} {ws : List Str}, us.map strV = ws.map some → Vals (ws.map V.str) us
  | [], [], _ => .nil
  | [], _ :: _, h => by simp at h
  | _ :: _, [], h => by simp at h
  | u :: us, w :: ws, h => by
    simp only [List.map_cons, List.cons.injEq] at h
    refine .cons ?_ (strV_vals h.2)
    cases u with
    | str x t =>
      have e : x = w := Option.some.inj h.1
      subst e
      exact ⟨t, rfl⟩
    | _ => cases h.1
theorem kTup_ok {K : PySem.W.Frag} {a : Addr} {ws : List Str} (h : kTup? K a ws = true) (n : Nat.ble ws.length 100 = true) (H : Hp) : SqT K H a (ws.map V.str) := by
  unfold kTup? at h
  split at h
  · rename_i o ho
    rw [Bool.and_eq_true, decide_eq_true_eq] at h
    obtain ⟨hc, h⟩ := h
    split at h
    · rename_i its k hd
      have e := of_decide_eq_true h
      have v := strV_vals e
      refine .inr ⟨o, its, k, ho, hc, hd, ?_, v⟩
      have l := congrArg List.length e
      rw [List.length_map, List.length_map, Array.length_toList] at l
      rw [l]
      exact Nat.le_trans (Nat.le_of_ble_eq_true n) (by decide)
    · cases h
  · cases h
end SM
set_option Elab.async false
set_option linter.all false
set_option maxRecDepth 100000
set_option maxHeartbeats 2000000
/-! a slice of a tuple that is the whole of it -/
namespace HT
open PySem PyProof.Rows
open PySem.SeqAt
section
variable {prog : Program} {w : World} {A : Around} {E : Value → Shared → Prop} {s : Shared}
theorem getItem_tuple_all {t sl : Addr} {items : Array Value} {vl vu : Value} {lo hi : Option Int} {Q : Value → Shared → Prop} (ht : IsTup s.heap t items) (hs : s.heap.IsSliceOf sl vl vu .none) (pl : IsPart vl lo) (pu : IsPart vu hi)
    (hw : sIx items.size 0 lo = 0 ∧ sIx items.size items.size hi = items.size) (h : Q (.ref t) s) : wpAny (model prog w) A (getItem (.ref t) (.ref sl)) Q E s := by
  obtain ⟨w1, w2⟩ := hw
  obtain ⟨os, hos, hcs, hds⟩ := id hs
  have hTs : s.TypeIs (.ref sl) "slice" := ⟨os, hos, hcs⟩
  unfold getItem
  try with_reducible refine wpAny_holding ?_
  first | refine wpAny_bind (wpAny_pure ?_) | skip
  refine wpAny_bind (wpAny_sequenceKey ht.typeIs (by decide) ?_)
  refine wpAny_bind (wpAny_callSpecial?_slot (name := Str.ofString "__getitem__") ht.typeIs PyProof.Rows.slot_tuple_getitem
    (wpAny_call_entry PyProof.Rows.slot_tuple_getitem ht.typeIs entry_tuple_getitem ?_ (args_tuple_getitem _ _)))
  show wpAny _ _ (Builtin.Tuple.tupleItemsOf (.ref t) >>= _) _ _ s
  refine wpAny_bind (tupleItemsOf_ ht ?_)
  refine wpAny_bind (wpAny_typeOf hTs ?_)
  rw [if_pos (by decide)]
  refine wpAny_bind (sliceApplied_gen hs pl pu ?_)
  have yes : (((sIx items.size 0 lo : Nat) : Int) == 0 && (1 : Int) == 1 && (sIx items.size items.size hi - sIx items.size 0 lo) == items.size) = true := by
    rw [w1, w2]
    simp
  show wpAny _ _ (if (((sIx items.size 0 lo : Nat) : Int) == 0 && (1 : Int) == 1 && (sIx items.size items.size hi - sIx items.size 0 lo) == items.size) = true then _ else _) _ _ s
  rw [if_pos yes]
  have ex : ∀ {B : Around} {F : Value → Shared → Prop} {R : Bool → Shared → Prop}, R true s → wpAny (model prog w) B (Builtin.Tuple.tupleIsExact (.ref t)) R F s := fun r => by
    unfold Builtin.Tuple.tupleIsExact
    exact wpAny_bind (wpAny_typeOf ht.typeIs (wpAny_pure r))
  refine wpAny_bind (ex ?_)
  rw [if_pos rfl]
  exact wpAny_bind (wpAny_rule (wpAny_pure ⟨_, rfl, wpAny_pure h⟩))
end
end HT
namespace SM
open PySem PySem.Spec PyProof.Rows L2
section
variable {X : Cx}
/-- t[lo:hi] of a tuple: t itself where it is the whole, else a new one -/
def rSlW (K : PySem.W.Frag) : V → Option Int → Option Int → Hp → VK → Prop := fun x lo hi H Q => ∃ a xs, x = .ref a ∧ SqT K H a xs ∧ (HT.sIx xs.length 0 lo = 0 ∧ HT.sIx xs.length xs.length hi = xs.length) ∧ Q (.ref a) H
theorem sl_tupW : SlR X (rSlW X.K) := by
  intro pins s σ H x v vl vu lo hi sl Q I rx hs pl pu h
  obtain ⟨a, xs, rfl, hx, hw, q⟩ := h
  cases rx
  obtain ⟨its, r, ht, hz⟩ := I.tuple hx
  have len : its.toArray.size = xs.length := by rw [List.size_toArray]; exact r.length.symm
  refine ⟨"tuple", _, PyProof.Rows.slot_tuple_getitem.lookup, ht.typeIs, ?_⟩
  exact HT.getItem_tuple_all ht hs pl pu (by rw [len]; exact hw) ⟨.ref a, H, I, rfl, q⟩
/-- t[lo:hi], whole or not -/
def rSlA (K : PySem.W.Frag) : V → Option Int → Option Int → Hp → VK → Prop := fun x lo hi H Q => rSlT K x lo hi H Q ∨ rSlW K x lo hi H Q
theorem sl_tupA : SlR X (rSlA X.K) := sl_tup.or sl_tupW
end
end SM
set_option Elab.async false
set_option linter.all false
set_option maxRecDepth 100000
set_option maxHeartbeats 2000000
/-! Displays with lists and dicts in them, told in the heap without what changes. -/
namespace SM
open PySem PySem.Spec PyProof.Rows L2
/-- the heap without some places -/
def off (m : List Addr) (H : Hp) : Hp := fun b => if b ∈ m then none else H b
theorem off_in {m : List Addr} {H : Hp} {b : Addr} (h : b ∈ m) : off m H b = none := if_pos h
theorem off_out {m : List Addr} {H : Hp} {b : Addr} (h : b ∉ m) : off m H b = H b := if_neg h
theorem off_some {m : List Addr} {H : Hp} {b : Addr} {o : HO} (h : off m H b = some o) : b ∉ m ∧ H b = some o := by
  by_cases z : b ∈ m
  · rw [off_in z] at h
    cases h
  · rw [off_out z] at h
    exact ⟨z, h⟩
theorem Keep.off {m : List Addr} {H H' : Hp} (k : Keep m H H') : Same (off m H) (off m H') := fun b o e => by
  obtain ⟨n, e⟩ := off_some e
  rw [off_out n]
  exact k b o n e
theorem Keep.off0 {m : List Addr} {H H' : Hp} (k : Keep [] H H') : Same (SM.off m H) (SM.off m H') := (Keep.of_nil k).off
theorem off_same {m : List Addr} {H : Hp} : Same (off m H) H := fun b o e => (off_some e).2
theorem off_nil {H : Hp} : Same H (off [] H) := fun b o e => by rw [off_out (by simp)]; exact e
def Live (m : List Addr) (H : Hp) : Prop := ∀ b ∈ m, H b ≠ none
theorem Live.nil {H : Hp} : Live [] H := fun b z => by cases z
theorem Live.one {H : Hp} {a : Addr} {o : HO} (h : H a = some o) : Live [a] H := fun b z => by
  rw [List.mem_singleton.mp z, h]
  exact fun e => by cases e
theorem Live.cons {m : List Addr} {H : Hp} {a : Addr} {o : HO} (h : H a = some o) (l : Live m H) : Live (a :: m) H := fun b z => by
  rcases List.mem_cons.mp z with rfl | z
  · rw [h]
    exact fun e => by cases e
  · exact l b z
theorem Live.keep {m : List Addr} {H H' : Hp} (l : Live m H) (k : Keep [] H H') : Live m H' := fun b z e => by
  cases h : H b with
  | none => exact l b z h
  | some o =>
    rw [k b o (by simp) h] at e
    cases e
theorem Live.out {m : List Addr} {H : Hp} {p : Addr} (l : Live m H) (h : H p = none) : p ∉ m := fun z => l p z h
theorem Src.live {H : Hp} {a : Addr} (h : Src H a) : Live [a] H := by
  obtain ⟨x, y, e, _⟩ := h
  exact Live.one e
theorem off_new {m : List Addr} {H : Hp} {p : Addr} {o : HO} (l : Live m H) (h : H p = none) : off m (upd H p o) p = some o := by
  rw [off_out (l.out h)]
  exact upd_same
theorem off_at {m : List Addr} {H H' : Hp} {p : Addr} {o : HO} (l : Live m H) (h : H p = none) (e : H' p = some o) : off m H' p = some o := by
  rw [off_out (l.out h)]
  exact e
variable {K : PySem.W.Frag} {m : List Addr} {σ : L2.St} {H0 : Hp}
theorem DqAll.append : ∀ {H : Hp} {vs us : List V} {ds es : List PyData}, DqAll K H vs ds → DqAll K H us es → DqAll K H (vs ++ us) (ds ++ es)
  | _, _, _, _, _, .nil, h => h
  | _, _, _, _, _, .cons h t, z => .cons h (DqAll.append t z)
theorem DqAll.take : ∀ {H : Hp} (n : Nat) {vs : List V} {ds : List PyData}, DqAll K H vs ds → DqAll K H (vs.take n) (ds.take n)
  | _, 0, _, _, _ => .nil
  | _, _ + 1, _, _, .nil => .nil
  | _, n + 1, _, _, .cons h t => .cons h (DqAll.take n t)
theorem DqAll.drop : ∀ {H : Hp} (n : Nat) {vs : List V} {ds : List PyData}, DqAll K H vs ds → DqAll K H (vs.drop n) (ds.drop n)
  | _, 0, _, _, h => h
  | _, _ + 1, _, _, .nil => .nil
  | _, n + 1, _, _, .cons _ t => DqAll.drop n t
theorem DqAll.strs {H : Hp} : ∀ (xs : List Str), DqAll K H (xs.map V.str) (xs.map PyData.str)
  | [] => .nil
  | x :: xs => .cons (.str x) (DqAll.strs xs)
theorem DqAll.rep {H : Hp} {vs : List V} {ds : List PyData} (h : DqAll K H vs ds) : ∀ n, DqAll K H (List.replicate n vs).flatten (List.replicate n ds).flatten
  | 0 => .nil
  | n + 1 => by
    rw [List.replicate_succ, List.replicate_succ, List.flatten_cons, List.flatten_cons]
    exact h.append (h.rep n)
/-- from H0 on, te gives new data -/
def LqE (K : PySem.W.Frag) (m : List Addr) (te : TE) (σ : L2.St) (H0 : Hp) (d : PyData) : Prop := ∀ H, Keep [] H0 H → ∀ Q : VK, (∀ v H', Keep [] H H' → Dq K (off m H') v d → Q v H') → te σ H Q
def LqA (K : PySem.W.Frag) (m : List Addr) (ta : TA) (σ : L2.St) (H0 : Hp) (ds : List PyData) : Prop := ∀ H, Keep [] H0 H → ∀ Q : List V → Hp → Prop, (∀ xs H', Keep [] H H' → DqAll K (off m H') xs ds → Q xs H') → ta σ H Q
theorem LqA.nil : LqA K m tNil σ H0 [] := fun H _ Q k => k [] H Keep.refl .nil
theorem LqA.cons {te : TE} {ta : TA} {d : PyData} {ds : List PyData} (h : LqE K m te σ H0 d) (t : LqA K m ta σ H0 ds) : LqA K m (tCons te ta) σ H0 (d :: ds) :=
  fun H k0 Q k => h H k0 _ fun v H1 k1 d1 => t H1 (k0.trans k1) _ fun xs H2 k2 d2 => k _ _ (k1.trans k2) (.cons (d1.mono k2.off0) d2)
theorem LqE.str {x : Str} : LqE K m (tC (.str x)) σ H0 (.str x) := fun H _ Q k => k _ _ Keep.refl (.str x)
theorem LqE.bl {x : Bool} : LqE K m (tC (.bl x)) σ H0 (.bool x) := fun H _ Q k => k _ _ Keep.refl (.bl x)
theorem LqE.int {x : Int} : LqE K m (tC (.int x)) σ H0 (.int x) := fun H _ Q k => k _ _ Keep.refl (.int x)
theorem LqE.non : LqE K m (tC .non) σ H0 .none := fun H _ Q k => k _ _ Keep.refl .non
theorem LqE.var {i : Nat} {v : V} {d : PyData} (dv : Dq K (off m H0) v d) (h : σ[i]? = some (some v)) : LqE K m (tVar i) σ H0 d := fun H k0 Q k => ⟨_, h, k _ _ Keep.refl (dv.mono k0.off0)⟩
theorem LqE.tup {ta : TA} {ds : List PyData} (l : Live m H0) (h : LqA K m ta σ H0 ds) (n : Nat.ble ds.length 100 = true := by rfl) : LqE K m (tTup ta) σ H0 (.tuple ds) :=
  fun H k0 Q k => h H k0 _ fun xs H1 k1 d1 => ⟨by rw [d1.length]; exact Nat.le_trans (Nat.le_of_ble_eq_true n) (by decide), fun p hp => k _ _ (k1.trans (Keep.new hp)) (.tup (SqT.of (off_new ((l.keep k0).keep k1) hp)) (d1.mono (Keep.new hp).off0))⟩
theorem LqE.lst {ta : TA} {ds : List PyData} (l : Live m H0) (h : LqA K m ta σ H0 ds) (n : Nat.ble ds.length 100 = true := by rfl) : LqE K m (tLst ta) σ H0 (.list ds) :=
  fun H k0 Q k => h H k0 _ fun xs H1 k1 d1 => ⟨by rw [d1.length]; exact Nat.le_trans (Nat.le_of_ble_eq_true n) (by decide), fun p hp => k _ _ (k1.trans (Keep.new hp)) (.lst (SqL.of (off_new ((l.keep k0).keep k1) hp)) (d1.mono (Keep.new hp).off0))⟩
theorem LqE.dic (l : Live m H0) : LqE K m tDNewK σ H0 (.dict []) := fun H k0 Q k p hp => k _ _ (Keep.new hp) (.dic (kvs := []) (ds := []) (off_new (l.keep k0) hp) .nil)
theorem LqE.rep {ta : TA} {d : PyData} {ds : List PyData} {n : Nat} (l : Live m H0) (h : LqA K m ta σ H0 (d :: ds)) (n1 : Nat.ble (ds.length + 1) 100 = true := by rfl) (n2 : Nat.ble 2 n = true := by rfl) (n3 : Nat.ble n 1000 = true := by rfl) : LqE K m (tOp (rRepT K) (tTup ta) (tC (.int (n : Int)))) σ H0 (.tuple (List.replicate n (d :: ds)).flatten) :=
  fun H k0 Q k => h H k0 _ fun xs H1 k1 d1 => by
    have len : xs.length = ds.length + 1 := d1.length
    have a1 := Nat.le_of_ble_eq_true n1
    have a2 := Nat.le_of_ble_eq_true n2
    have a3 := Nat.le_of_ble_eq_true n3
    refine ⟨by rw [len]; exact Nat.le_trans a1 (by decide), fun p hp => ⟨p, (n : Int), xs, rfl, rfl, SqT.of upd_same, fun e => ?_, by omega, by omega, by omega, fun q hq => ?_⟩⟩
    · rw [e] at len
      cases len
    · have kk := (Keep.new (m := []) (o := .tup xs) hp).trans (Keep.new (o := .tup (List.replicate (n : Int).toNat xs).flatten) hq)
      refine k _ _ (k1.trans kk) (.tup (SqT.of (off_new (((l.keep k0).keep k1).keep (Keep.new hp)) hq)) ?_)
      rw [Int.toNat_natCast]
      exact (d1.mono kk.off0).rep n
theorem off_less {m : List Addr} {q : Addr} {H : Hp} : Same (off (q :: m) H) (off m H) := fun b o e => by
  obtain ⟨n, e⟩ := off_some e
  rw [off_out (fun z => n (List.mem_cons_of_mem _ z))]
  exact e
theorem off_fresh {m : List Addr} {q : Addr} {H : Hp} {o : HO} (h : H q = none) : Same (off m H) (off (q :: m) (upd H q o)) := fun b u e => by
  obtain ⟨n, e⟩ := off_some e
  have nb : b ≠ q := fun z => by
    rw [z, h] at e
    cases e
  rw [off_out (by
    intro z
    rcases List.mem_cons.mp z with z | z
    · exact nb z
    · exact n z), upd_ne nb]
  exact e
theorem off_past {m : List Addr} {q : Addr} {H H' : Hp} (k : Keep [] H H') (h : H q = none) : Same (off m H) (off (q :: m) H') := fun b u e => by
  obtain ⟨n, e⟩ := off_some e
  rw [off_out (by
    intro z
    rcases List.mem_cons.mp z with z | z
    · rw [z, h] at e
      cases e
    · exact n z)]
  exact k b u (by simp) e
theorem off_self {m : List Addr} {q : Addr} {H : Hp} {o : HO} : Same (off (q :: m) H) (off (q :: m) (upd H q o)) := fun b u e => by
  obtain ⟨n, e⟩ := off_some e
  have nb : b ≠ q := fun z => n (by rw [z]; exact List.mem_cons_self)
  rw [off_out n, upd_ne nb]
  exact e
/-- a list display of such -/
theorem LqA.lst {ta : TA} {ds : List PyData} {H : Hp} {Q : VK} (h : LqA K m ta σ H0 ds) (k0 : Keep [] H0 H) (n : Nat.ble ds.length 100 = true) (k : ∀ p xs H', H p = none → Keep [] H H' → H' p = some (.lst xs) → DqAll K (off (p :: m) H') xs ds → Q (.ref p) H') : tLst ta σ H Q :=
  h H k0 _ fun xs H1 k1 d1 => ⟨by rw [d1.length]; exact Nat.le_trans (Nat.le_of_ble_eq_true n) (by decide), fun p hp => k p xs _ (k1.free (by simp) hp) (k1.trans (Keep.new hp)) upd_same (d1.mono (off_fresh hp))⟩
/-- x + [..], x a list of such -/
theorem LqA.cat {i : Nat} {ta : TA} {p : Addr} {xs : List V} {ds es : List PyData} {H : Hp} {Q : VK} (hv : σ[i]? = some (some (.ref p))) (hp : H p = some (.lst xs)) (hd : DqAll K (off m H) xs ds) (dl : ds.length ≤ 400) (h : LqA K m ta σ H es) (n : Nat.ble es.length 100 = true)
    (k : ∀ q ys H', H q = none → Keep [] H H' → H' q = some (.lst ys) → DqAll K (off (q :: m) H') ys (ds ++ es) → Q (.ref q) H') : tOp rCat (tVar i) (tLst ta) σ H Q := by
  refine ⟨_, hv, LqA.lst h Keep.refl n fun r zs H1 nr k1 e1 d1 => ?_⟩
  refine ⟨p, r, xs, zs, rfl, rfl, k1.to hp, e1, ?_, fun q hq => ?_⟩
  · rw [hd.length, d1.length]
    have := Nat.le_of_ble_eq_true n
    exact Nat.le_trans (show ds.length + es.length ≤ 500 by omega) (by decide)
  · exact k q _ _ (k1.free (by simp) hq) (k1.trans (Keep.new hq)) upd_same (((hd.mono k1.off0).append (d1.mono off_less)).mono (off_fresh hq))
theorem DqAll.at_ {H : Hp} {vs : List V} {ds : List PyData} (h : DqAll K H vs ds) {i : Nat} {v : V} (e : vs[i]? = some v) : ∃ d ∈ ds, Dq K H v d := by
  obtain ⟨d, e1, h1⟩ := h.get e
  exact ⟨d, List.mem_of_getElem? e1, h1⟩
/-! ### a datum, and if it is a list: what it holds stands without it -/
def isLs : PyData → Bool
  | .list _ => true
  | _ => false
def isTu : PyData → Bool
  | .tuple _ => true
  | _ => false
def Dn (K : PySem.W.Frag) (m : List Addr) (H : Hp) (v : V) (d : PyData) : Prop := Dq K (off m H) v d ∧ (isLs d = false ∨ ∃ l xs ds, v = .ref l ∧ d = .list ds ∧ l ∉ m ∧ H l = some (.lst xs) ∧ DqAll K (off (l :: m) H) xs ds) ∧ (isTu d = true → ∃ a xs, v = .ref a ∧ a ∉ m ∧ H a = some (.tup xs))
theorem Dn.of {H : Hp} {v : V} {d : PyData} (h : Dq K (off m H) v d) (n : isLs d = false) (t : isTu d = false) : Dn K m H v d := ⟨h, .inl n, fun z => by rw [t] at z; cases z⟩
theorem Dn.tup {H : Hp} {a : Addr} {xs : List V} {ds : List PyData} (n : a ∉ m) (e : H a = some (.tup xs)) (h : DqAll K (off m H) xs ds) : Dn K m H (.ref a) (.tuple ds) :=
  ⟨.tup (SqT.of (by rw [off_out n]; exact e)) h, .inl rfl, fun _ => ⟨a, xs, rfl, n, e⟩⟩
theorem Dn.keep {H H' : Hp} {v : V} {d : PyData} (h : Dn K m H v d) (k : Keep m H H') : Dn K m H' v d := by
  obtain ⟨a, b, c⟩ := h
  refine ⟨a.mono k.off, ?_, fun z => ?_⟩
  · rcases b with b | ⟨l, xs, ds, e1, e2, e3, e4, e5⟩
    · exact .inl b
    · exact .inr ⟨l, xs, ds, e1, e2, e3, k _ _ e3 e4, e5.mono (k.up (fun a z => List.mem_cons_of_mem _ z)).off⟩
  · obtain ⟨t, xs, e1, e2, e3⟩ := c z
    exact ⟨t, xs, e1, e2, k _ _ e2 e3⟩
theorem Dn.k0 {H H' : Hp} {v : V} {d : PyData} (h : Dn K m H v d) (k : Keep [] H H') : Dn K m H' v d := h.keep (Keep.of_nil k)
theorem Dn.lst {H : Hp} {l : Addr} {xs : List V} {ds : List PyData} (n : l ∉ m) (e : H l = some (.lst xs)) (h : DqAll K (off (l :: m) H) xs ds) : Dn K m H (.ref l) (.list ds) :=
  ⟨.lst (SqL.of (by rw [off_out n]; exact e)) (h.mono off_less), .inr ⟨l, xs, ds, rfl, rfl, n, e, h⟩, fun z => by cases z⟩
inductive DnAll (K : PySem.W.Frag) (m : List Addr) (H : Hp) : List V → List PyData → Prop
  | nil : DnAll K m H [] []
  | cons {v : V} {vs : List V} {d : PyData} {ds : List PyData} : Dn K m H v d → DnAll K m H vs ds → DnAll K m H (v :: vs) (d :: ds)
theorem DnAll.keep {H H' : Hp} (k : Keep m H H') : ∀ {vs : List V} {ds : List PyData}, DnAll K m H vs ds → DnAll K m H' vs ds
  | _, _, .nil => .nil
  | _, _, .cons h t => .cons (h.keep k) (DnAll.keep k t)
theorem DnAll.k0 {H H' : Hp} {vs : List V} {ds : List PyData} (h : DnAll K m H vs ds) (k : Keep [] H H') : DnAll K m H' vs ds := h.keep (Keep.of_nil k)
theorem DnAll.length {H : Hp} : ∀ {vs : List V} {ds : List PyData}, DnAll K m H vs ds → vs.length = ds.length
  | _, _, .nil => rfl
  | _, _, .cons _ t => congrArg (· + 1) t.length
theorem DnAll.append {H : Hp} : ∀ {vs us : List V} {ds es : List PyData}, DnAll K m H vs ds → DnAll K m H us es → DnAll K m H (vs ++ us) (ds ++ es)
  | _, _, _, _, .nil, h => h
  | _, _, _, _, .cons h t, z => .cons h (DnAll.append t z)
theorem DnAll.at_ {H : Hp} : ∀ {vs : List V} {ds : List PyData}, DnAll K m H vs ds → ∀ {i : Nat} {v : V}, vs[i]? = some v → ∃ d, ds[i]? = some d ∧ Dn K m H v d
  | _, _, .nil, i, v, e => by simp at e
  | _, _, .cons h t, 0, v, e => by
    simp at e
    subst e
    exact ⟨_, rfl, h⟩
  | _, _, .cons h t, i + 1, v, e => by
    obtain ⟨d, e1, h1⟩ := t.at_ (i := i) (v := v) (by simpa using e)
    exact ⟨d, by simpa using e1, h1⟩
def LnE (K : PySem.W.Frag) (m : List Addr) (te : TE) (σ : L2.St) (H0 : Hp) (d : PyData) : Prop := ∀ H, Keep [] H0 H → ∀ Q : VK, (∀ v H', Keep [] H H' → Dn K m H' v d → Q v H') → te σ H Q
def LnA (K : PySem.W.Frag) (m : List Addr) (ta : TA) (σ : L2.St) (H0 : Hp) (ds : List PyData) : Prop := ∀ H, Keep [] H0 H → ∀ Q : List V → Hp → Prop, (∀ xs H', Keep [] H H' → DnAll K m H' xs ds → Q xs H') → ta σ H Q
theorem LnA.nil : LnA K m tNil σ H0 [] := fun H _ Q k => k [] H Keep.refl .nil
theorem LnA.cons {te : TE} {ta : TA} {d : PyData} {ds : List PyData} (h : LnE K m te σ H0 d) (t : LnA K m ta σ H0 ds) : LnA K m (tCons te ta) σ H0 (d :: ds) :=
  fun H k0 Q k => h H k0 _ fun v H1 k1 d1 => t H1 (k0.trans k1) _ fun xs H2 k2 d2 => k _ _ (k1.trans k2) (.cons (d1.k0 k2) d2)
theorem LnE.of {te : TE} {d : PyData} (h : LqE K m te σ H0 d) (n : isLs d = false := by rfl) (t : isTu d = false := by rfl) : LnE K m te σ H0 d := fun H k0 Q k => h H k0 _ fun v H1 k1 d1 => k v H1 k1 (.of d1 n t)
theorem LnE.tup {ta : TA} {ds : List PyData} (l : Live m H0) (h : LqA K m ta σ H0 ds) (n : Nat.ble ds.length 100 = true := by rfl) : LnE K m (tTup ta) σ H0 (.tuple ds) :=
  fun H k0 Q k => h H k0 _ fun xs H1 k1 d1 => ⟨by rw [d1.length]; exact Nat.le_trans (Nat.le_of_ble_eq_true n) (by decide), fun p hp =>
    k _ _ (k1.trans (Keep.new hp)) (.tup (((l.keep k0).keep k1).out hp) upd_same (d1.mono (Keep.new hp).off0))⟩
theorem LnE.lst {ta : TA} {ds : List PyData} (l : Live m H0) (h : LqA K m ta σ H0 ds) (n : Nat.ble ds.length 100 = true := by rfl) : LnE K m (tLst ta) σ H0 (.list ds) :=
  fun H k0 Q k => h H k0 _ fun xs H1 k1 d1 => ⟨by rw [d1.length]; exact Nat.le_trans (Nat.le_of_ble_eq_true n) (by decide), fun p hp =>
    k _ _ (k1.trans (Keep.new hp)) (.lst (((l.keep k0).keep k1).out hp) upd_same (d1.mono (off_fresh hp)))⟩
theorem LnA.lst {ta : TA} {ds : List PyData} {H : Hp} {Q : VK} (h : LnA K m ta σ H0 ds) (k0 : Keep [] H0 H) (n : Nat.ble ds.length 100 = true) (k : ∀ p xs H', H p = none → Keep [] H H' → H' p = some (.lst xs) → DnAll K m H' xs ds → Q (.ref p) H') : tLst ta σ H Q :=
  h H k0 _ fun xs H1 k1 d1 => ⟨by rw [d1.length]; exact Nat.le_trans (Nat.le_of_ble_eq_true n) (by decide), fun p hp => k p xs _ (k1.free (by simp) hp) (k1.trans (Keep.new hp)) upd_same (d1.k0 (Keep.new hp))⟩
theorem LnA.cat {i : Nat} {ta : TA} {p : Addr} {xs : List V} {ds es : List PyData} {H : Hp} {Q : VK} (hv : σ[i]? = some (some (.ref p))) (hp : H p = some (.lst xs)) (hd : DnAll K m H xs ds) (dl : ds.length ≤ 400) (h : LnA K m ta σ H es) (n : Nat.ble es.length 100 = true)
    (k : ∀ q ys H', H q = none → Keep [] H H' → H' q = some (.lst ys) → DnAll K m H' ys (ds ++ es) → Q (.ref q) H') : tOp rCat (tVar i) (tLst ta) σ H Q := by
  refine ⟨_, hv, LnA.lst h Keep.refl n fun r zs H1 nr k1 e1 d1 => ?_⟩
  refine ⟨p, r, xs, zs, rfl, rfl, k1.to hp, e1, ?_, fun q hq => ?_⟩
  · rw [hd.length, d1.length]
    have := Nat.le_of_ble_eq_true n
    exact Nat.le_trans (show ds.length + es.length ≤ 500 by omega) (by decide)
  · exact k q _ _ (k1.free (by simp) hq) (k1.trans (Keep.new hq)) upd_same (((hd.k0 k1).append d1).k0 (Keep.new hq))
theorem Dn.less {H : Hp} {D : Addr} {v : V} {d : PyData} (h : Dn K (D :: m) H v d) : Dn K m H v d := by
  obtain ⟨a, b, c⟩ := h
  refine ⟨a.mono off_less, ?_, fun z => ?_⟩
  · rcases b with b | ⟨l, xs, ds, e1, e2, e3, e4, e5⟩
    · exact .inl b
    · refine .inr ⟨l, xs, ds, e1, e2, fun z => e3 (List.mem_cons_of_mem _ z), e4, e5.mono fun b o e => ?_⟩
      obtain ⟨n, e⟩ := off_some e
      rw [off_out (by
        intro z
        rcases List.mem_cons.mp z with z | z
        · exact n (by rw [z]; exact List.mem_cons_self)
        · exact n (List.mem_cons_of_mem _ (List.mem_cons_of_mem _ z)))]
      exact e
  · obtain ⟨t, xs, e1, e2, e3⟩ := c z
    exact ⟨t, xs, e1, fun z => e2 (List.mem_cons_of_mem _ z), e3⟩
theorem DnAll.less {H : Hp} {D : Addr} : ∀ {vs : List V} {ds : List PyData}, DnAll K (D :: m) H vs ds → DnAll K m H vs ds
  | _, _, .nil => .nil
  | _, _, .cons h t => .cons h.less (DnAll.less t)
/-- a comprehension over a list of such, its elements new data -/
theorem lcN {j : Nat} {σ : L2.St} {H : Hp} {t : Addr} {xs : List V} {ds : List PyData} {f : PyData → PyData} {te : TE} {D : Addr} {Qd : Hp → Prop} (lv : Live m H) (hq : SqL K H t xs) (hd : DqAll K (off m H) xs ds) (hl : ds.length ≤ 100)
    (he : ∀ H2, Keep [] H H2 → Live (D :: m) H2 → ∀ v d, d ∈ ds → Dq K (off (D :: m) H2) v d → LnE K (D :: m) te ((σ.set j none).set j (some v)) H2 (f d)) (hD : H D = none)
    (k : ∀ ys H', Keep [] H H' → H' D = some (.lst ys) → DnAll K m H' ys (ds.map f) → Qd H') :
    ∃ W : Nat → Nat → Hp → Prop, (∃ m, W 0 m (upd H D (.lst []))) ∧ ∀ i m H, W i m H →
      ((Itl K t).stop i H ∧ Qd H) ∨ ((Itl K t).go i H ∧ ∃ Nx : Hp → Prop, (∀ H', Nx H' → ∃ m', m' < m ∧ W (i + 1) m' H') ∧ ∀ x H', (Itl K t).yld i H x H' → gName j x (wipe σ [j]) H' fun σ2 H2 => wipe σ2 [j] = wipe σ [j] ∧ tYes σ2 H2 fun b H3 =>
        if b = true then te σ2 H3 fun y H4 => ∃ acc, H4 D = some (.lst acc) ∧ acc.length < sizeLine ∧ Nx (upd H4 D (.lst (acc ++ [y]))) else Nx H3) := by
  have len := hd.length
  refine lc_list (xs := xs) (Qd := Qd) (fun i H' => ∃ acc, Keep [] H H' ∧ H' D = some (.lst acc) ∧ acc.length = i ∧ DnAll K (D :: m) H' acc ((ds.take i).map f)) ⟨[], Keep.new hD, upd_same, rfl, by simpa using DnAll.nil⟩ ?_ ?_ ?_
  · rintro n H' _ ⟨acc, k1, _⟩
    exact k1.same.seq hq
  · rintro n x H' hx ⟨acc, k1, e1, en, da⟩
    obtain ⟨d, hd', dx⟩ := hd.get hx
    have hn : n < ds.length := by
      rcases Nat.lt_or_ge n ds.length with h | h
      · exact h
      · rw [List.getElem?_eq_none h] at hd'
        cases hd'
    refine ⟨?_, ?_⟩
    · show ((σ.set j none).set j (some x)).set j none = σ.set j none
      rw [List.set_set, List.set_set]
    · show te _ H' _
      refine he H' k1 (Live.cons e1 (lv.keep k1)) x d (List.mem_of_getElem? hd') (dx.mono (off_past k1 hD)) H' Keep.refl _ fun y H2 k2 dy => ?_
      refine ⟨acc, k2.to e1, ?_, acc ++ [y], Keep.own (k1.trans k2) hD, upd_same, by rw [List.length_append, en]; rfl, ?_⟩
      · rw [en]
        exact Nat.lt_of_lt_of_le (show n < 101 by omega) (by decide)
      · rw [List.take_succ, hd', Option.toList_some, List.map_append]
        exact ((da.k0 k2).append (.cons dy .nil)).keep (Keep.at_ (by simp))
  · rintro H' ⟨acc, k1, e1, en, da⟩
    rw [len, List.take_length] at da
    exact k acc H' k1 e1 da.less
/-! ### how large data are -/
structure Fit (w n : Nat) (d : PyData) : Prop where
  sh : d.showable = true
  lv : d.leavesShort 13 = true
  wt : d.weight ≤ w
  dp : d.depth ≤ n
theorem Fit.mono {w n w' n' : Nat} {d : PyData} (h : Fit w n d) (hw : w ≤ w') (hn : n ≤ n') : Fit w' n' d := ⟨h.sh, h.lv, Nat.le_trans h.wt hw, Nat.le_trans h.dp hn⟩
def fitB (w n : Nat) (d : PyData) : Bool := d.showable && (d.leavesShort 13 && (decide (d.weight ≤ w) && decide (d.depth ≤ n)))
theorem Fit.ofB {w n : Nat} {d : PyData} (f : fitB w n d = true) : Fit w n d := by
  obtain ⟨h1, f⟩ := He.ba f
  obtain ⟨h2, f⟩ := He.ba f
  obtain ⟨h3, h4⟩ := He.ba f
  exact ⟨h1, h2, of_decide_eq_true h3, of_decide_eq_true h4⟩
theorem Fit.fits {d : PyData} (h : Fit 1048576 60 d) : fits d = true := by
  unfold SM.fits
  rw [h.sh, h.lv, decide_eq_true h.wt, decide_eq_true h.dp]
  rfl
theorem fitAll {w n : Nat} : ∀ (ds : List PyData), (∀ d ∈ ds, Fit w n d) → PyData.showableAll ds = true ∧ PyData.leavesShortAll 13 ds = true ∧ PyData.weightAll ds ≤ ds.length * (w + 1) ∧ PyData.depthAll ds ≤ n
  | [], _ => ⟨by rw [PyData.showableAll], by rw [PyData.leavesShortAll], by rw [PyData.weightAll]; exact Nat.zero_le _, by rw [PyData.depthAll]; exact Nat.zero_le _⟩
  | d :: ds, h => by
    obtain ⟨a, b, c, e⟩ := fitAll ds fun z hz => h z (List.mem_cons_of_mem _ hz)
    obtain ⟨a1, b1, c1, e1⟩ := h d List.mem_cons_self
    refine ⟨by rw [PyData.showableAll, a, a1]; rfl, by rw [PyData.leavesShortAll, b, b1]; rfl, ?_, ?_⟩
    · rw [PyData.weightAll, List.length_cons, Nat.succ_mul]
      omega
    · rw [PyData.depthAll]
      exact Nat.max_le.mpr ⟨e1, e⟩
theorem Fit.list {w n k : Nat} {ds : List PyData} (h : ∀ d ∈ ds, Fit w n d) (l : ds.length ≤ k) : Fit (k * (w + 1)) (n + 1) (.list ds) := by
  obtain ⟨a, b, c, e⟩ := fitAll ds h
  refine ⟨by rw [PyData.showable]; exact a, by rw [PyData.leavesShort]; exact b, ?_, ?_⟩
  · rw [PyData.weight]
    exact Nat.le_trans c (Nat.mul_le_mul_right _ l)
  · rw [PyData.depth]
    omega
theorem Fit.tuple {w n k : Nat} {ds : List PyData} (h : ∀ d ∈ ds, Fit w n d) (l : ds.length ≤ k) : Fit (k * (w + 1)) (n + 1) (.tuple ds) := by
  obtain ⟨a, b, c, e⟩ := fitAll ds h
  refine ⟨by rw [PyData.showable]; exact a, by rw [PyData.leavesShort]; exact b, ?_, ?_⟩
  · rw [PyData.weight]
    exact Nat.le_trans c (Nat.mul_le_mul_right _ l)
  · rw [PyData.depth]
    omega
theorem Fit.bool {w n : Nat} (b : Bool) : Fit w n (.bool b) := ⟨by rw [PyData.showable], by rw [PyData.leavesShort], by rw [PyData.weight]; exact Nat.zero_le _, by rw [PyData.depth]; exact Nat.zero_le _⟩
theorem Fit.str {w n : Nat} {x : Str} (h : PyData.strOk x = true) (l : x.length ≤ w) : Fit w n (.str x) := by
  refine ⟨by rw [PyData.showable], ?_, ?_, by rw [PyData.depth]; exact Nat.zero_le _⟩
  · rw [PyData.leavesShort, List.all_eq_true]
    intro c hc
    have h1 : (x.cps.all (· < 0x110000)) = true := h
    rw [Array.all_eq_true'] at h1
    have := of_decide_eq_true (h1 c (Array.mem_toList_iff.mp hc))
    exact decide_eq_true (Nat.lt_trans this (by decide))
  · rw [PyData.weight]
    exact l
end SM
set_option Elab.async false
set_option linter.all false
set_option maxRecDepth 100000
set_option maxHeartbeats 2000000
/-! The head's facts with own classes' properties beside: the getter of each stands behind it. -/
namespace SM
open PySem PySem.Spec PyProof.Rows L2
/-- the getter of the property m of the class that the module's name c stands for -/
def pga (K : PySem.W.Frag) (c m : Str) : Addr := match PySem.W.recIn K (He.ma K (He.ga K c) m) "property" with
  | some (.ref g :: _) => g
  | _ => 0
def fnWA (K : PySem.W.Frag) (a : Addr) : He.FnW := match K.lookup a with
  | some ⟨_, _, .func fd, _⟩ => some (fd.name, fd.qualname, fd.params, fd.body, fd.scope, fd.globals, fd.closure, fd.builtins)
  | _ => none
structure PropD where
  cls : Str
  name : Str
  qual : Str
  params : Arguments
  body : List Stmt
  scope : Scope
def PropD.val (d : PropD) : He.FnW := some (d.name, d.qual, d.params, .stmts d.body, d.scope, mainGlobals, [], builtinsNs)
def PropD.ok (K : PySem.W.Frag) (d : PropD) : Bool := (He.eqO (PySem.W.findIn K (.ref (He.ga K d.cls)) d.name) (some (some (.ref (He.ma K (He.ga K d.cls) d.name)))) && (He.eqO (PySem.W.specialIn K (.ref (He.ma K (He.ga K d.cls) d.name)) "__get__") (some (some (.builtin "property.__get__"))) && (decide (PySem.W.takesIn K (.ref (He.ma K (He.ga K d.cls) d.name)) = some true) &&
  match PySem.W.recIn K (He.ma K (He.ga K d.cls) d.name) "property" with
  | some (.ref _ :: _) => true
  | _ => false))) && (PySem.W.keepIn K (.ref (pga K d.cls d.name)) && (match K.lookup (pga K d.cls d.name) with
  | some ⟨_, _, .func fd, _⟩ => PySem.W.codeIn K fd.code d.qual && (He.dflB K fd.defaults [] && He.kwdB K fd.kwdefaults [])
  | _ => false))
/-- a property's getter: where it stands, its def -/
structure PropAt (K : PySem.W.Frag) (d : PropD) : Prop where
  of : PropOf K (He.ga K d.cls) d.name (He.ma K (He.ga K d.cls) d.name) (pga K d.cls d.name)
  fn : ∃ fd, FunD K d.name d.qual d.params d.body d.scope [] [] (pga K d.cls d.name) fd
theorem PropD.at_ {K : PySem.W.Frag} {d : PropD} (e : fnWA K (pga K d.cls d.name) = d.val) (c : d.ok K = true) : PropAt K d := by
  obtain ⟨c, k⟩ := He.ba c
  obtain ⟨c1, c⟩ := He.ba c
  obtain ⟨c2, c⟩ := He.ba c
  obtain ⟨c3, c4⟩ := He.ba c
  obtain ⟨kp, c5⟩ := He.ba k
  refine ⟨⟨He.eqO_ok c1, He.eqO_ok c2, of_decide_eq_true c3, ?_⟩, ?_⟩
  · unfold pga
    cases q : PySem.W.recIn K (He.ma K (He.ga K d.cls) d.name) "property" with
    | none =>
      rw [q] at c4
      cases c4
    | some l =>
      rw [q] at c4
      cases l with
      | nil => cases c4
      | cons a r =>
        cases a with
        | ref g => exact ⟨r, rfl⟩
        | _ => cases c4
  · unfold fnWA at e
    cases q : K.lookup (pga K d.cls d.name) with
    | none =>
      rw [q] at c5
      cases c5
    | some o =>
      obtain ⟨oc, od, dt, osl⟩ := o
      rw [q] at c5 e
      cases dt with
      | func fd =>
        obtain ⟨n1, n2, n3, n4, n5, n6, n7, n8, n9, n10, n11, n12, n13, n14, n15⟩ := fd
        have e2 : (some (n1, n2, n3, n4, n5, n6, n7, n15) : He.FnW) = some (d.name, d.qual, d.params, .stmts d.body, d.scope, mainGlobals, [], builtinsNs) := e
        simp only [Option.some.injEq, Prod.mk.injEq] at e2
        obtain ⟨h1, h2, h3, h4, h5, h6, h7, h8⟩ := e2
        subst h3 h4 h5 h6 h7 h8
        have c6 : (PySem.W.codeIn K n13 d.qual && (He.dflB K n8 [] && He.kwdB K n9 [])) = true := c5
        obtain ⟨k1, k2⟩ := He.ba c6
        obtain ⟨k3, k4⟩ := He.ba k2
        rw [h1, h2] at q
        exact ⟨_, ⟨oc, od, n8, n9, n10, n11, n12, n13, n14, osl, rfl, q, k1, He.dflB_ok k3, He.kwdB_ok k4⟩, kp⟩
      | _ => cases c5
abbrev AlP : Type := He.AlD × List He.FnW × Bool
def obsPK (fa : List He.Fa) (fn : List He.DefD) (pr : List PropD) (ex : PySem.W.Frag → Bool) (K : PySem.W.Frag) : AlP := (He.obsD fa fn K, pr.map (fun d => fnWA K (pga K d.cls d.name)), (pr.all fun d => d.ok K) && ex K)
def obsP (n : Nat) (fa : List He.Fa) (fn : List He.DefD) (pr : List PropD) (ex : PySem.W.Frag → Bool) (g : Addr → Option Obj) : AlP := obsPK fa fn pr ex (He.frG g (He.asD g n))
def valP (fn : List He.DefD) (pr : List PropD) : AlP := (He.valD fn, pr.map PropD.val, true)
def SaysP (fa : List He.Fa) (fn : List He.DefD) (pr : List PropD) (ex : PySem.W.Frag → Bool) (K : PySem.W.Frag) : Prop := obsPK fa fn pr ex K = valP fn pr
def hookP (n : Nat) (fa : List He.Fa) (fn : List He.DefD) (pr : List PropD) (ex : PySem.W.Frag → Bool) : PySem.W.Hook where
  α := AlP
  obs := fun s => obsP n fa fn pr ex s.heap.get?
  val := fun _ => valP fn pr
  says := fun _ h => ∃ K : PySem.W.Frag, K.In h ∧ SaysP fa fn pr ex K
  of := fun _ _ e => ⟨_, He.frG_in, e⟩
  keeps := fun _ _ _ ⟨K, hK, c⟩ k => ⟨K, PySem.W.Frag.In.keeps hK k, c⟩
theorem obsP_eq {n : Nat} {fa : List He.Fa} {fn : List He.DefD} {pr : List PropD} {ex : PySem.W.Frag → Bool} {g : Addr → Option Obj} {s : Shared} (h : ∀ a, g a = s.heap.get? a) : obsP n fa fn pr ex g = (hookP n fa fn pr ex).obs s := by
  have e : g = s.heap.get? := funext h
  rw [e] <;> rfl
section
variable {fa : List He.Fa} {fn : List He.DefD} {pr : List PropD} {ex : PySem.W.Frag → Bool} {K : PySem.W.Frag}
theorem SaysP.d (c : SaysP fa fn pr ex K) : He.SaysD fa fn K := congrArg (fun z : AlP => z.1) c
theorem SaysP.more (c : SaysP fa fn pr ex K) : ex K = true := (He.ba (show ((pr.all fun d => d.ok K) && ex K) = true from congrArg (fun z : AlP => z.2.2) c)).2
theorem SaysP.prop (c : SaysP fa fn pr ex K) (i : Nat) {d : PropD} (h : pr[i]? = some d := by rfl) : PropAt K d := by
  have c2 := (He.ba (show ((pr.all fun d => d.ok K) && ex K) = true from congrArg (fun z : AlP => z.2.2) c)).1
  have e : pr.map (fun d => fnWA K (pga K d.cls d.name)) = pr.map PropD.val := congrArg (fun z : AlP => z.2.1) c
  have e2 : (pr.map fun d => fnWA K (pga K d.cls d.name))[i]? = (pr.map PropD.val)[i]? := by rw [e]
  rw [List.getElem?_map, List.getElem?_map, h] at e2
  exact PropD.at_ (Option.some.inj e2) (List.all_eq_true.mp c2 d (List.mem_of_getElem? h))
end
end SM
set_option Elab.async false
set_option linter.all false
set_option maxRecDepth 100000
set_option maxHeartbeats 2000000
/-! The head's facts over a part of the heap that is given by its addresses. -/
namespace SM
open PySem PySem.Spec PyProof.Rows L2
def obsA (as : List Addr) (fa : List He.Fa) (fn : List He.DefD) (pr : List PropD) (ex : PySem.W.Frag → Bool) (g : Addr → Option Obj) : AlP := obsPK fa fn pr ex (He.frG g as)
def hookA (as : List Addr) (fa : List He.Fa) (fn : List He.DefD) (pr : List PropD) (ex : PySem.W.Frag → Bool) : PySem.W.Hook where
  α := AlP
  obs := fun s => obsA as fa fn pr ex s.heap.get?
  val := fun _ => valP fn pr
  says := fun _ h => ∃ K : PySem.W.Frag, K.In h ∧ SaysP fa fn pr ex K
  of := fun _ _ e => ⟨_, He.frG_in, e⟩
  keeps := fun _ _ _ ⟨K, hK, c⟩ k => ⟨K, PySem.W.Frag.In.keeps hK k, c⟩
theorem obsA_eq {as : List Addr} {fa : List He.Fa} {fn : List He.DefD} {pr : List PropD} {ex : PySem.W.Frag → Bool} {g : Addr → Option Obj} {s : Shared} (h : ∀ a, g a = s.heap.get? a) : obsA as fa fn pr ex g = (hookA as fa fn pr ex).obs s := by
  have e : g = s.heap.get? := funext h
  rw [e] <;> rfl
end SM
set_option Elab.async false
set_option linter.all false
set_option maxRecDepth 100000
set_option maxHeartbeats 2000000
/-! {k: i for i, k in enumerate(tuple)}; comprehensions of which only what stays is told. -/
namespace SM
open PySem PySem.Spec PyProof.Rows L2
theorem dc_enumT {K : PySem.W.Frag} {a : Addr} {xs : List V} {g : TG} {tt : TT} {tk tv : TE} {vs : List Nat} {σ : L2.St} {H1 : Hp} {D : Addr} {Qd : Hp → Prop} (Pv : Nat → Hp → Prop) (h0 : Pv 0 (upd H1 D (.dK []))) (hl : ∀ i H, i ≤ xs.length → Pv i H → SqT K H a xs)
    (hs : ∀ (i : Nat) x T H, xs[i]? = some x → Pv i H → H T = none → g (.ref T) (wipe σ vs) (upd H T (.tup [.int (i : Int), x])) fun σ2 H2 => wipe σ2 vs = wipe σ vs ∧ tt σ2 H2 fun b H3 =>
      if b = true then tk σ2 H3 fun y H4 => tv σ2 H4 fun z H5 => ∃ kvs k, y = kV k ∧ H5 D = some (.dK kvs) ∧ kvs.length < sizeLine ∧ Pv (i + 1) (upd H5 D (.dK (putK kvs k z))) else Pv (i + 1) H3) (hd : ∀ H, Pv xs.length H → Qd H) :
    ∃ W : Nat → Nat → Hp → Prop, (∃ m, W 0 m (upd H1 D (.dK []))) ∧ ∀ i m H, W i m H →
      ((ItT K a).stop i H ∧ Qd H) ∨ ((ItT K a).go i H ∧ ∃ Nx : Hp → Prop, (∀ H', Nx H' → ∃ m', m' < m ∧ W (i + 1) m' H') ∧ ∀ x H', (ItT K a).yld i H x H' → g x (wipe σ vs) H' fun σ2 H2 => wipe σ2 vs = wipe σ vs ∧ tt σ2 H2 fun b H3 =>
        if b = true then tk σ2 H3 fun y H4 => tv σ2 H4 fun z H5 => ∃ kvs k, y = kV k ∧ H5 D = some (.dK kvs) ∧ kvs.length < sizeLine ∧ Nx (upd H5 D (.dK (putK kvs k z))) else Nx H3) := by
  refine ⟨fun i m H => m + i = xs.length ∧ Pv i H, ⟨xs.length, rfl, h0⟩, ?_⟩
  intro i m H w
  obtain ⟨em, p⟩ := w
  have sq := hl i H (by omega) p
  by_cases c : i < xs.length
  · right
    refine ⟨⟨xs, xs[i], sq, List.getElem?_eq_getElem c⟩, Pv (i + 1), fun H' q => ⟨m - 1, by omega, by omega, q⟩, fun v H' y => ?_⟩
    obtain ⟨T, x, rfl, hT, rfl, hx⟩ := y
    exact hs i x T H (hx xs sq) p hT
  · left
    have e : i = xs.length := by omega
    subst e
    exact ⟨⟨xs, sq, rfl⟩, hd H p⟩
variable {K : PySem.W.Frag} {σ : L2.St} {H0 : Hp}
/-- from H0 on, te has a value and leaves what stands -/
def LaE (te : TE) (σ : L2.St) (H0 : Hp) : Prop := ∀ H, Keep [] H0 H → ∀ Q : VK, (∀ v H', Keep [] H H' → Q v H') → te σ H Q
def LaA (ta : TA) (σ : L2.St) (H0 : Hp) (n : Nat) : Prop := ∀ H, Keep [] H0 H → ∀ Q : List V → Hp → Prop, (∀ vs H', Keep [] H H' → vs.length = n → Q vs H') → ta σ H Q
theorem LaA.nil : LaA tNil σ H0 0 := fun H _ Q k => k [] H Keep.refl rfl
theorem LaA.cons {te : TE} {ta : TA} {n : Nat} (h : LaE te σ H0) (t : LaA ta σ H0 n) : LaA (tCons te ta) σ H0 (n + 1) :=
  fun H k0 Q k => h H k0 _ fun v H1 k1 => t H1 (k0.trans k1) _ fun vs H2 k2 e => k (v :: vs) H2 (k1.trans k2) (by rw [List.length_cons, e])
theorem LaE.tup {ta : TA} {n : Nat} (h : LaA ta σ H0 n) (l : Nat.ble n 100 = true := by rfl) : LaE (tTup ta) σ H0 :=
  fun H k0 Q k => h H k0 _ fun vs H1 k1 e => ⟨by rw [e]; exact Nat.le_trans (Nat.le_of_ble_eq_true l) (by decide), fun p hp => k _ _ (k1.trans (Keep.new hp))⟩
theorem LaE.var {i : Nat} {v : V} (h : σ[i]? = some (some v)) : LaE (tVar i) σ H0 := fun H _ Q k => ⟨v, h, k _ _ Keep.refl⟩
/-- d[x] -/
theorem LaE.dget {i j : Nat} {d : Addr} {kvs : List (Key × V)} {x : Str} {v : V} (hi : σ[i]? = some (some (.ref d))) (hj : σ[j]? = some (some (.str x))) (hd : H0 d = some (.dK kvs)) (hv : valV kvs (.inr x) = some v) : LaE (tDGet (tVar i) (tVar j)) σ H0 :=
  fun H k0 Q k => ⟨_, hi, _, hj, d, v, rfl, by rw [← hv]; exact DGet.k (k := .inr x) (k0.to hd), k v H Keep.refl⟩
/-- tuple([.. for .. in a tuple]) -/
theorem LaE.tupLc {tx : TE} {g : TG} {te : TE} {vs : List Nat} {xs : List V} (hl : xs.length ≤ 100)
    (hx : ∀ H, Keep [] H0 H → ∀ Q : VK, (∀ t H', Keep [] H H' → SqT K H' t xs → Q (.ref t) H') → tx σ H Q)
    (he : ∀ (i : Nat) x H2, xs[i]? = some x → Keep [] H0 H2 → ∀ Q' : VK, (∀ y H', Keep [] H2 H' → Q' y H') → g x (wipe σ vs) H2 fun σ2 H3 => wipe σ2 vs = wipe σ vs ∧ te σ2 H3 Q') : LaE (teTup K (tLc (iTup K tx) g tYes te vs)) σ H0 := by
  intro H k0 Q k
  refine hx H k0 _ fun t H1 k1 hq => ⟨t, rfl, ⟨xs, hq⟩, fun D hD => ?_⟩
  refine lc_tup (xs := xs) (Qd := fun H' => ∃ p ys, [V.ref D] = [.ref p] ∧ ((SqL K H' p ys ∧ ∀ l, H' l = none → Q (.ref l) (upd H' l (.tup ys))) ∨ (SqT K H' p ys ∧ Q (.ref p) H'))) (fun i H' => ∃ acc, Keep [] H1 H' ∧ H' D = some (.lst acc) ∧ acc.length = i) ⟨[], Keep.new hD, upd_same, rfl⟩ ?_ ?_ ?_
  · rintro n H' _ ⟨acc, k2, _⟩
    exact seqT_keep k2 Soft.nil hq
  · rintro n x H' hx' ⟨acc, k2, e2, en⟩
    have hn : n < xs.length := (List.getElem?_eq_some_iff.mp hx').1
    refine he n x H' hx' (k0.trans (k1.trans k2)) _ fun y H2 k3 => ?_
    refine ⟨acc, k3.to e2, ?_, acc ++ [y], Keep.own (k2.trans k3) hD, upd_same, by rw [List.length_append, en]; rfl⟩
    rw [en]
    exact Nat.lt_of_lt_of_le (show n < 101 by omega) (by decide)
  · rintro H' ⟨acc, k2, e2, en⟩
    exact ⟨D, acc, rfl, .inl ⟨SqL.of e2, fun l hl => k _ _ (k1.trans (k2.trans (Keep.new hl)))⟩⟩
/-- [x for x in a tuple of texts if ..] -/
theorem lcF {j : Nat} {σ : L2.St} {H : Hp} {t : Addr} {ns : List Str} {f : Str → Bool} {tt : TT} {D : Addr} {Qd : Hp → Prop} (hj : j < σ.length) (hq : SqT K H t (ns.map V.str)) (hl : ns.length ≤ 1000) (hD : H D = none)
    (ht : ∀ H2, Keep [] H H2 → ∀ s, s ∈ ns → ∀ Q : Bool → Hp → Prop, (∀ H', Keep [] H2 H' → Q (f s) H') → tt ((σ.set j none).set j (some (.str s))) H2 Q)
    (k : ∀ H', Keep [] H H' → H' D = some (.lst ((ns.filter f).map V.str)) → Qd H') :
    ∃ W : Nat → Nat → Hp → Prop, (∃ m, W 0 m (upd H D (.lst []))) ∧ ∀ i m H, W i m H →
      ((Itt K t).stop i H ∧ Qd H) ∨ ((Itt K t).go i H ∧ ∃ Nx : Hp → Prop, (∀ H', Nx H' → ∃ m', m' < m ∧ W (i + 1) m' H') ∧ ∀ x H', (Itt K t).yld i H x H' → gName j x (wipe σ [j]) H' fun σ2 H2 => wipe σ2 [j] = wipe σ [j] ∧ tt σ2 H2 fun b H3 =>
        if b = true then tVar j σ2 H3 fun y H4 => ∃ acc, H4 D = some (.lst acc) ∧ acc.length < sizeLine ∧ Nx (upd H4 D (.lst (acc ++ [y]))) else Nx H3) := by
  refine lc_tup (xs := ns.map V.str) (Qd := Qd) (fun i H' => Keep [] H H' ∧ H' D = some (.lst (((ns.take i).filter f).map V.str))) ⟨Keep.new hD, upd_same⟩ ?_ ?_ ?_
  · rintro n H' _ ⟨k1, _⟩
    exact seqT_keep k1 Soft.nil hq
  · rintro n x H' hx ⟨k1, e1⟩
    rw [List.getElem?_map] at hx
    cases e : ns[n]? with
    | none =>
      rw [e] at hx
      cases hx
    | some s =>
      rw [e] at hx
      cases hx
      have hn : n < ns.length := (List.getElem?_eq_some_iff.mp e).1
      refine ⟨?_, ?_⟩
      · show ((σ.set j none).set j (some (.str s))).set j none = σ.set j none
        rw [List.set_set, List.set_set]
      · show tt _ H' _
        refine ht H' k1 s (List.mem_of_getElem? e) _ fun H2 k2 => ?_
        have few : ((ns.take n).filter f).length ≤ n := Nat.le_trans (List.length_filter_le _ _) (by rw [List.length_take]; omega)
        cases c : f s with
        | true =>
          rw [if_pos rfl]
          refine ⟨.str s, by simp [wipe, hj], _, k2.to e1, ?_, Keep.own (k1.trans k2) hD, ?_⟩
          · rw [List.length_map]
            exact Nat.lt_of_lt_of_le (show _ < 1001 by omega) (by decide)
          · rw [upd_same, List.take_succ, e, Option.toList_some, List.filter_append, List.map_append]
            rw [List.filter_cons, if_pos c, List.filter_nil]
            rfl
        | false =>
          rw [if_neg Bool.false_ne_true]
          refine ⟨k1.trans k2, ?_⟩
          rw [k2.to e1, List.take_succ, e, Option.toList_some, List.filter_append, List.filter_cons, c, List.filter_nil, if_neg Bool.false_ne_true, List.append_nil]
  · rintro H' ⟨k1, e1⟩
    rw [List.length_map, List.take_length] at e1
    exact k H' k1 e1
/-- [x for x in a list of texts if ..] -/
theorem lcFL {j : Nat} {σ : L2.St} {H : Hp} {t : Addr} {ns : List Str} {f : Str → Bool} {tt : TT} {D : Addr} {Qd : Hp → Prop} (hj : j < σ.length) (hq : SqL K H t (ns.map V.str)) (hl : ns.length ≤ 1000) (hD : H D = none)
    (ht : ∀ H2, Keep [] H H2 → ∀ s, s ∈ ns → ∀ Q : Bool → Hp → Prop, (∀ H', Keep [] H2 H' → Q (f s) H') → tt ((σ.set j none).set j (some (.str s))) H2 Q)
    (k : ∀ H', Keep [] H H' → H' D = some (.lst ((ns.filter f).map V.str)) → Qd H') :
    ∃ W : Nat → Nat → Hp → Prop, (∃ m, W 0 m (upd H D (.lst []))) ∧ ∀ i m H, W i m H →
      ((Itl K t).stop i H ∧ Qd H) ∨ ((Itl K t).go i H ∧ ∃ Nx : Hp → Prop, (∀ H', Nx H' → ∃ m', m' < m ∧ W (i + 1) m' H') ∧ ∀ x H', (Itl K t).yld i H x H' → gName j x (wipe σ [j]) H' fun σ2 H2 => wipe σ2 [j] = wipe σ [j] ∧ tt σ2 H2 fun b H3 =>
        if b = true then tVar j σ2 H3 fun y H4 => ∃ acc, H4 D = some (.lst acc) ∧ acc.length < sizeLine ∧ Nx (upd H4 D (.lst (acc ++ [y]))) else Nx H3) := by
  refine lc_list (xs := ns.map V.str) (Qd := Qd) (fun i H' => Keep [] H H' ∧ H' D = some (.lst (((ns.take i).filter f).map V.str))) ⟨Keep.new hD, upd_same⟩ ?_ ?_ ?_
  · rintro n H' _ ⟨k1, _⟩
    exact k1.same.seq hq
  · rintro n x H' hx ⟨k1, e1⟩
    rw [List.getElem?_map] at hx
    cases e : ns[n]? with
    | none =>
      rw [e] at hx
      cases hx
    | some s =>
      rw [e] at hx
      cases hx
      have hn : n < ns.length := (List.getElem?_eq_some_iff.mp e).1
      refine ⟨?_, ?_⟩
      · show ((σ.set j none).set j (some (.str s))).set j none = σ.set j none
        rw [List.set_set, List.set_set]
      · show tt _ H' _
        refine ht H' k1 s (List.mem_of_getElem? e) _ fun H2 k2 => ?_
        have few : ((ns.take n).filter f).length ≤ n := Nat.le_trans (List.length_filter_le _ _) (by rw [List.length_take]; omega)
        cases c : f s with
        | true =>
          rw [if_pos rfl]
          refine ⟨.str s, by simp [wipe, hj], _, k2.to e1, ?_, Keep.own (k1.trans k2) hD, ?_⟩
          · rw [List.length_map]
            exact Nat.lt_of_lt_of_le (show _ < 1001 by omega) (by decide)
          · rw [upd_same, List.take_succ, e, Option.toList_some, List.filter_append, List.map_append]
            rw [List.filter_cons, if_pos c, List.filter_nil]
            rfl
        | false =>
          rw [if_neg Bool.false_ne_true]
          refine ⟨k1.trans k2, ?_⟩
          rw [k2.to e1, List.take_succ, e, Option.toList_some, List.filter_append, List.filter_cons, c, List.filter_nil, if_neg Bool.false_ne_true, List.append_nil]
  · rintro H' ⟨k1, e1⟩
    rw [List.length_map, List.take_length] at e1
    exact k H' k1 e1
end SM
set_option Elab.async false
set_option linter.all false
set_option maxRecDepth 100000
set_option maxHeartbeats 4000000
/-! try with more than one clause, each with a name for what is caught -/
namespace SM
open PySem PySem.Spec PyProof.Rows L2
/-- behind a suite the name in slot i is gone -/
def endsOff (D : Ends) (i : Nat) : Ends :=
  { nx := fun τ G => D.nx (τ.set i none) G
    rt := D.rt
    bk := fun τ G => D.bk (τ.set i none) G
    ct := fun τ G => D.ct (τ.set i none) G }
abbrev SuiteT := Addr → Value → Option Addr → TS
/-- what the clauses ask of what the body raises -/
def wNamed (K : PySem.W.Frag) (W0 : WX) (D : Ends) (i : Nat) : List (Value × SuiteT) → WX
  | [] => W0
  | (k, u) :: more => fun cl dd τ G => ∃ y, PySem.W.exmOne K cl k = some y ∧
      (y = true → ∀ p, G p = none → u p cl dd (endsOff D i) (τ.set i (some (.ref p))) G) ∧
      (y = false → wNamed K W0 D i more cl dd τ G)
inductive Clauses (X : Cx) (n : Str) : List ExceptHandler → List (Value × SuiteT) → Prop
  | none : Clauses X n [] []
  | more {x : Str} {k : Value} {u : SuiteT} {b : Stmt} {bs : List Stmt} {p1 p2 : Pos} {hs : List ExceptHandler} {l : List (Value × SuiteT)}
      (nm : Names X x k)
      (su : ∀ (p : Addr) (o : Obj) (cl : Value) (dd : Option Addr) (pins : List (Addr × Obj)), Zc cl dd o → (∃ fs, o.data = .fields fs) →
        PSs (X.suite p ((p, o) :: pins)) (b :: bs) (u p cl dd))
      (rest : Clauses X n hs l) : Clauses X n (.ExceptHandler (some (.Name x p1)) (some n) (b :: bs) p2 :: hs) ((k, u) :: l)
section
variable {X : Cx} {n : Str} {i : Nat} {body : List Stmt} {h1 : ExceptHandler} {hs : List ExceptHandler} {l : List (Value × SuiteT)} {tp : Pos} {tb : WX → TS} {W0 : WX}
theorem ps_tryNamed (e0 : X.stack = X.env :: X.outer) (e1 : X.env.frame = some X.env.locals) (nd : X.N.Nodup) (at_ : X.N[i]? = some n)
    (lo : X.env.kindOf n = some .local) (tk : Takes X W0)
    (hb : ∀ (W : WX) (pn : List (Addr × Obj)) (xe : Value → Shared → Prop), Takes (X.tr pn xe) W →
      PassesOwn (model X.prog X.w) X.A X.env xe → PSs (X.tr pn xe) body (tb W))
    (cs : Clauses X n (h1 :: hs) l) : PS X (.Try body (h1 :: hs) [] [] tp) (fun D τ G => tb (wNamed X.K W0 D i l) D τ G) := by
  refine ⟨fun pins st τ G D J0 q0 => ?_⟩
  have okx := J0.ok
  have frame : X.A.frames = some (X.env :: X.outer) := by
    rw [okx.frames, e0]
  have hloc : Loc X.env.scope n := .inl lo
  refine wpAny_Try_except ?_
  let landing : Value → Shared → Prop := fun v sa =>
    wpAny (model X.prog X.w) X.A (noteFrame v X.env) (fun _ sb =>
      wpAny (model X.prog X.w) X.A (setFlight v none) (fun _ sc =>
        wpAny (model X.prog X.w) X.A (handleBy v X.env (h1 :: hs)) (SP X pins D) X.xe sc) X.xe sb) X.xe sa
  have walked := (hb (wNamed X.K W0 D i l) (X.pn ++ pins) landing (fun u sx caught => ?_) PassesOwn.looking).run [] st τ G D (J0.toTry _) q0
  · refine wpAny_mono walked (fun fl sz z => ?_) (fun v sz z => z)
    cases fl with
    | next =>
      obtain ⟨τ1, G1, Jz, q⟩ := z
      exact wpAny_execs_nil ⟨τ1, G1, Jz.ofTry okx, q⟩
    | brk =>
      obtain ⟨τ1, G1, Jz, q⟩ := z
      exact ⟨τ1, G1, Jz.ofTry okx, q⟩
    | cont =>
      obtain ⟨τ1, G1, Jz, q⟩ := z
      exact ⟨τ1, G1, Jz.ofTry okx, q⟩
    | ret u =>
      obtain ⟨v, τ1, G1, Jz, r, q⟩ := z
      exact ⟨v, τ1, G1, Jz.ofTry okx, r, q⟩
  · obtain ⟨p, B, sB, pins1, τ1, G1, cl, dd, rfl, Jb, nb, up, sk, np, os, ag, wish⟩ := caught
    have J1 : Inv X pins τ1 G1 sB := Jb.ofTry okx
    have sk1 : Sky B (X.env :: X.outer) p (Zc cl dd) X.env.locals sx.heap := by
      rw [← e0]
      exact sk
    show wpAny (model X.prog X.w) X.A (noteFrame (.ref p) X.env) _ _ _
    refine Sky.land Zc.steady frame e1 sk1 fun hA flA upA => ?_
    have JA : Inv X pins τ1 G1 { sx with heap := hA } := J1.landed nb flA.1 (up.trans upA) os ag
    obtain ⟨oA, fA, atA, zA, dA⟩ := flA.there
    have away : p ∉ frs (X.env :: X.outer) := fun hm => by
      obtain ⟨_, o', e', nf⟩ := flA.2.2.1.mem hm
      rw [atA] at e'
      cases e'
      exact nf _ dA
    have offL : p ≠ X.env.locals := fun z => away (List.mem_filterMap.mpr ⟨X.env, List.mem_cons_self, by rw [e1, z]⟩)
    have offF : p ∉ X.fs := fun hm => by
      obtain ⟨ev, hev, q⟩ := List.mem_filterMap.mp hm
      exact away (List.mem_filterMap.mpr ⟨ev, List.mem_cons_of_mem _ hev, q⟩)
    have SA := JA.suite atA dA np offL offF
    have each : ∀ {hs' : List ExceptHandler} {l' : List (Value × SuiteT)}, Clauses X n hs' l' → wNamed X.K W0 D i l' cl dd τ1 G1 →
        wpAny (model X.prog X.w) X.A (handleBy (.ref p) X.env hs') (SP X pins D) X.xe { sx with heap := hA } := by
      intro hs' l' ck
      induction ck with
      | none =>
        intro wish
        refine wpAny_handleBy_nil ?_
        obtain ⟨_, _, _, o2, f2, T2, oT2, t2, at2, _, d2, s2, _⟩ := id flA
        unfold PySem.passOn
        refine wpAny_bind (wpAny_field at2 d2 s2 ?_)
        rw [if_neg (show ¬ ((Value.ref T2 == Value.none) = true) from by simp)]
        have out : wpAny (model X.prog X.w) X.A (setFlight (.ref p) X.env.frame) (fun _ sq =>
            wpAny (model X.prog X.w) X.A (throw (.ref p) : Sem Flow) (SP X pins D) X.xe sq) X.xe { sx with heap := hA } := by
          rw [e1]
          refine HandSPX.setFlight_upZ flA fun hB hhB upB => wpAny_throw (tk _ _ ?_)
          exact ⟨p, B, sB, pins, τ1, G1, cl, dd, rfl, J1, nb, (up.trans upA).trans upB, .inr (.inr (by rw [e0]; exact hhB)), np, os, ag, wish⟩
        first
          | exact wpAny_bind (wpAny_pure (wpAny_bind out))
          | exact wpAny_bind out
      | @more x k u b bs p1 p2 hs2 l2 nm su rest ih =>
        intro wish
        obtain ⟨y, hy, yes, no⟩ := wish
        refine wpAny_handleBy_cons (codeAny_handlers_test ?_) (by intro q; cases q)
        have kindOf : PySem.W.Looks (model X.prog X.w) hA (typeOf (.ref p)) cl := fun A' Q' E' s' kp q' =>
          wpAny_typeOf_ref (kp _ _ atA) (by rw [zA.1]; exact q')
        have match_ := PySem.W.exm_one (M := model X.prog X.w) (JA.kIn) kindOf hy
        have read : ∀ {Q' : Value → Shared → Prop} {E' : Value → Shared → Prop}, Q' k { sx with heap := hA } →
            wpAny (model X.prog X.w) (X.A.mark (some (.ref p))) (eval (.Name x p1) X.env) Q' E' { sx with heap := hA } := fun {Q' E'} q' => by
          obtain ⟨g1, g2, g3 | ⟨g3, g4, g5⟩⟩ := nm
          · exact ld_glob (X := X.suite p ((p, oA) :: (X.pn ++ pins))) SA g1 g3 q' g2
          · exact ld_blt (X := X.suite p ((p, oA) :: (X.pn ++ pins))) SA g1 g3 g4 q' g5 g2
        refine read (match_.here ?_)
        cases y with
        | false =>
          show wpAny _ X.A (handleBy (.ref p) X.env hs2) _ _ _
          exact ih (no rfl)
        | true =>
          refine codeAny_handlers_suite_as ?_
          refine HandSPX.lands_againZ flA fun hB flB upB => ?_
          have JB : Inv X pins τ1 G1 { sx with heap := hB } := J1.landed nb flB.1 ((up.trans upA).trans upB) os ag
          obtain ⟨oB, fB, atB, zB, dB⟩ := flB.there
          have SB := JB.suite atB dB np offL offF
          refine store_ok (X := X.suite p ((p, oB) :: (X.pn ++ pins))) (v := .ref p) SB nd at_ hloc rfl (fun sC SC => ?_) (.inr lo)
          refine wpAny_mono ((su p oB cl dd (X.pn ++ pins) zB ⟨_, dB⟩).run [] sC _ G1 _ SC (yes rfl p np)) (fun fl sD z => ?_) (fun _ _ z => False.elim z)
          have gone : ∀ {τ2 : L2.St} {G2 : Hp} {Q' : Shared → Prop}, Inv (X.suite p ((p, oB) :: (X.pn ++ pins))) [] τ2 G2 sD →
              (∀ sE, Inv X pins (τ2.set i none) G2 sE → Q' sE) →
              wpAny (model X.prog X.w) X.A (do bindName X.env n .none; unbindBehindTheSuite X.env n p2) (fun _ sE => Q' sE) X.xe sD :=
            fun {τ2 G2 Q'} S2 q' => gone_ok (S2.unsuite okx) nd at_ lo q'
          cases fl with
          | next =>
            obtain ⟨τ2, G2, S2, q⟩ := z
            exact gone S2 fun sE JE => ⟨_, _, JE, q⟩
          | brk =>
            obtain ⟨τ2, G2, S2, q⟩ := z
            exact gone S2 fun sE JE => ⟨_, _, JE, q⟩
          | cont =>
            obtain ⟨τ2, G2, S2, q⟩ := z
            exact gone S2 fun sE JE => ⟨_, _, JE, q⟩
          | ret u2 =>
            obtain ⟨v, τ2, G2, S2, r, q⟩ := z
            exact gone S2 fun sE JE => ⟨_, _, _, JE, r, q⟩
    exact each cs wish
end
/-! ### an instance made where its __init__ may raise -/
def tMakeS (C : Addr) (sp : Sp) (E : L2.St → XK) (t : TA) : TE := fun τ G Q => t τ G fun vs G1 =>
  ∀ x dx, G1 x = none → G1 dx = none → dx ≠ x → sp (.ref x :: vs) (upd (upd G1 dx (.own x)) x (.ins C dx [])) (fun v G2 => v = .non ∧ Q (.ref x) G2) (E τ)
section
variable {X : Cx} {CX : CXT} {j : Nat} {fi C : Addr} {fd : FuncData} {ps : List Str} {sp : Sp} {E : L2.St → XK} {x : Str} {p pos : Pos} {e : Expr} {es : List Expr} {t : TA}
theorem pe_makeS (M : Mk X.K C fi) (F : FnOk X.prog X.w X.K X.mg X.base CX j fi fd ps sp) (hr : Room (j + 1) X.A) (hg : Gl X x) (hm : X.mg x = some (.ref C))
    (bd : Binds X.K fd ps []) (hx : ∀ τ, PassesAt CX X τ (E τ)) (ha : PA X (e :: es) t) (hdb : (x == ("__debug__" : Str)) = false := by decide)
    (st : starEach (e :: es) X.env = (false, eval e X.env) :: starEach es X.env := by rfl) (pl : (backTo pos (starEach es X.env)).any (·.1) = false := by rfl) :
    PE X (.Call (.Name x p) (e :: es) [] pos) (tMakeS C sp E t) := by
  refine ⟨fun pins sh τ G Q J q => ?_⟩
  refine wpAny_Call_Name_kw (ld_glob J hg hm ?_ hdb)
  refine PySem.W.callWith_K (h₀ := X.base) J.ok.mod.kin M.kp (thn (ha.run pos pins sh τ G _ J q) fun us s1 got => ?_) st pl
  obtain ⟨vs, G1, J1, rv, want⟩ := got
  refine ⟨J1.kIn, ?_⟩
  have here := want (s1.heap.objs.size + 1) s1.heap.objs.size (J1.hok.fresh (Nat.le_succ _)) (J1.hok.fresh (Nat.le_refl _)) (Nat.ne_of_lt (Nat.lt_succ_self _))
  have J2 := Inv.made (C := C) J1
  have rall : Vals (V.ref (s1.heap.objs.size + 1) :: vs) (Value.ref (s1.heap.objs.size + 1) :: us) := .cons rfl rv
  have many : (Value.ref (s1.heap.objs.size + 1) :: us ++ []).length = ps.length := by
    rw [List.append_nil, ← rall.length]
    exact F.len _ _ _ _ here
  have bound := bd _ (Value.ref (s1.heap.objs.size + 1) :: us) J2.kIn many
  rw [List.append_nil] at bound
  refine wpAny_call (make_map (f := fi) J1.kIn M.makes M.init (beq_iff_eq.mp M.fn) ?_)
  refine codeAny_mono (F.run _ X.stack _ _ ⟨Value.ref (s1.heap.objs.size + 1) :: us, []⟩ _ _ _ (E τ) (hr.make C us []) (J2.env0.make C us []) bound rall here) fun res sz z => ?_
  match res, z with
  | .error er, z => exact hx τ pins _ _ er sz J2 z
  | .ok (.ret u), z =>
    obtain ⟨v, G3, J3, ru, ev, q3⟩ := J2.after z
    subst ev
    exact ⟨ru, ⟨V.ref (s1.heap.objs.size + 1), G3, J3, rfl, q3⟩⟩
  | .ok .next, z => exact False.elim z
  | .ok .brk, z => exact False.elim z
  | .ok .cont, z => exact False.elim z
end
end SM
set_option Elab.async false
set_option linter.all false
set_option maxRecDepth 100000
set_option maxHeartbeats 2000000
/-! x == y by the own __eq__ of x's class, whatever y is -/
namespace SM
open PySem PySem.Spec PyProof.Rows L2
section
variable {X : Cx} {CX : CXT} {j : Nat} {C fe : Addr} {fd : FuncData} {ps : List Str} {sp : Sp} {E : XK}
/-- an instance of C on the left, anything of which the kind is known on the right -/
def rEqOwn (K : PySem.W.Frag) (C : Addr) (sp : Sp) (E : XK) : R2 := fun x y G Q => ∃ (a dx : Addr) (fs : List (Str × V)) (ty : Value),
  x = .ref a ∧ G a = some (.ins C dx fs) ∧ TyX K G y ty ∧ PySem.W.notFirst K C ty = true ∧ sp [x, y] G (fun v G' => (∃ b, v = .bl b) ∧ Q v G') E
theorem op_eqOwn (F : FnOk X.prog X.w X.K X.mg X.base CX j fe fd ps sp) (at_ : PySem.W.findIn X.K (.ref C) "__eq__" = some (some (.ref fe)))
    (fn : PySem.W.isFn X.K (.ref fe) = true) (bd : Binds X.K fd ps []) (hx : Passes CX X E) (hr : Room j X.A) : OpR X (compareOp .Eq) (rEqOwn X.K C sp E) := by
  intro pins sh τ G x y u v Q J rx ry q
  obtain ⟨a, dx, fs, ty, rfl, ha, hy, hn, want⟩ := q
  obtain rfl : u = Value.ref a := rx
  obtain ⟨mA, JA, _⟩ := ins_get J.hok ha
  obtain ⟨od, JA, _⟩ := JA.look
  obtain ⟨m, hF⟩ := J.fr
  obtain ⟨P, kx, hp, _⟩ := kit_of J ry hy
  show wpAny (model X.prog X.w) X.A (richCompare .Eq (.ref a) v) (EP X pins τ Q) X.xe sh
  refine PySem.W.cmp_K (op := .Eq) (tb := ty) hr.units0 hF J.ok.mod.kin JA (kx.ty _ _ J.kIn hp) hn at_ fn ?_
  have many := F.len _ _ _ _ want
  have rr : Vals [V.ref a, y] [Value.ref a, v] := .cons rfl (.cons ry .nil)
  have bound : BindsTo sh fd ⟨[.ref a, v], []⟩ (ps.zip [.ref a, v]) := by
    have b := bd sh [.ref a, v] J.kIn (by simpa using many)
    simpa using b
  refine wpAny_call (codeAny_mono (F.run X.A X.stack sh G ⟨[.ref a, v], []⟩ _ _ _ E hr J.env0 bound rr want) fun res sz z => ?_)
  match res, z with
  | .error er, z => exact hx pins τ G sh er sz J z
  | .ok (.ret w), z =>
    obtain ⟨z1, G1, J1, rz, ⟨b, rfl⟩, q1⟩ := J.after z
    obtain rfl : w = Value.bool b := rz
    exact ⟨.bl b, G1, J1, rfl, q1⟩
  | .ok .next, z => exact False.elim z
  | .ok .brk, z => exact False.elim z
  | .ok .cont, z => exact False.elim z
end
end SM
set_option Elab.async false
set_option linter.all false
set_option maxRecDepth 100000
set_option maxHeartbeats 2000000
/-! New data out of data that stand: displays, cats, slices, items. -/
namespace SM
open PySem PySem.Spec PyProof.Rows L2
variable {K : PySem.W.Frag} {σ : L2.St} {H : Hp}
/-- LtH of an argument list -/
def LtL (K : PySem.W.Frag) (ta : TA) (σ : L2.St) (H : Hp) (ds : List PyData) : Prop := ∀ H1, Keep [] H H1 → ∀ Q, (∀ xs H', Keep [] H1 H' → DtAll K H' xs ds → Q xs H') → ta σ H1 Q
theorem LtL.nil : LtL K tNil σ H [] := fun H1 _ Q k => k [] H1 Keep.refl .nil
theorem LtL.cons {te : TE} {ta : TA} {d : PyData} {ds : List PyData} (h : LtH K te σ H d) (t : LtL K ta σ H ds) : LtL K (tCons te ta) σ H (d :: ds) :=
  fun H1 k1 Q k => h H1 k1 _ fun v H2 k2 d2 => t H2 (k1.trans k2) _ fun xs H3 k3 d3 => k _ _ (k2.trans k3) (.cons (d2.k0 k3) d3)
theorem LtH.str {x : Str} : LtH K (tC (.str x)) σ H (.str x) := fun H1 _ Q k => k _ _ Keep.refl (.str x)
theorem LtH.bl {x : Bool} : LtH K (tC (.bl x)) σ H (.bool x) := fun H1 _ Q k => k _ _ Keep.refl (.bl x)
theorem LtH.var {i : Nat} {v : V} {d : PyData} (h : σ[i]? = some (some v)) (hd : Dt K H v d) : LtH K (tVar i) σ H d := fun H1 k1 Q k => ⟨_, h, k _ _ Keep.refl (hd.k0 k1)⟩
theorem LtH.disp {ta : TA} {ds : List PyData} (h : LtL K ta σ H ds) (n : ds.length ≤ 100) : LtH K (tTup ta) σ H (.tuple ds) :=
  fun H1 k1 Q k => h H1 k1 _ fun xs H2 k2 d2 => ⟨by rw [d2.length]; exact Nat.le_trans n (by decide), fun p hp => k _ _ (k2.trans (Keep.new hp)) (.tup (SqT.of upd_same) (d2.k0 (Keep.new hp)))⟩
theorem LtH.cat {ta tb : TE} {ds es : List PyData} (h : LtH K ta σ H (.tuple ds)) (t : LtH K tb σ H (.tuple es)) (n : ds.length + es.length ≤ 100) : LtH K (tOp (rCatA K) ta tb) σ H (.tuple (ds ++ es)) := by
  intro H1 k1 Q k
  refine h H1 k1 _ fun v H2 k2 d2 => t H2 (k1.trans k2) _ fun u H3 k3 d3 => ?_
  have d2' := d2.k0 k3
  obtain ⟨a, xs, rfl, ha, da⟩ := d2'.items
  obtain ⟨b, ys, rfl, hb, db⟩ := d3.items
  have kk := k2.trans k3
  refine ⟨a, b, xs, ys, rfl, rfl, ha, hb, ?_, fun e => ?_, fun _ e => ?_, fun _ _ p hp => ?_⟩
  · rw [da.length, db.length]
    exact Nat.le_trans n (by decide)
  · subst e
    cases da
    exact k _ _ kk d3
  · subst e
    cases db
    rw [List.append_nil] at k
    exact k _ _ kk d2'
  · exact k _ _ (kk.trans (Keep.new hp)) (.tup (SqT.of upd_same) ((da.append db).k0 (Keep.new hp)))
theorem LtH.rev {ta : TE} {ds : List PyData} (h : LtH K ta σ H (.tuple ds)) : LtH K (tRevT K ta) σ H (.tuple ds.reverse) := by
  intro H1 k1 Q k
  refine h H1 k1 _ fun v H2 k2 d2 => ?_
  obtain ⟨a, xs, rfl, ha, da⟩ := d2.items
  exact ⟨a, xs, rfl, ha, fun p hp => k _ _ (k2.trans (Keep.new hp)) (.tup (SqT.of upd_same) (da.rev.k0 (Keep.new hp)))⟩
theorem sIx_n (n d k : Nat) : HT.sIx n d (some (k : Int)) = min k n := HT.sIx_nat n d k
theorem LtH.take {ta : TE} {tn : TO} {ds : List PyData} {n : Nat} (h : LtH K ta σ H (.tuple ds)) (hn : ∀ H1 (Q : Option Int → Hp → Prop), Q (some (n : Int)) H1 → tn σ H1 Q) : LtH K (tSl (SM.rSlA K) ta tNoPart tn) σ H (.tuple (ds.take n)) := by
  intro H1 k1 Q k
  refine h H1 k1 _ fun v H2 k2 d2 => ?_
  refine hn H2 _ ?_
  obtain ⟨a, xs, rfl, ha, da⟩ := d2.items
  by_cases hw : HT.sIx xs.length 0 none = 0 ∧ HT.sIx xs.length xs.length (some (n : Int)) = xs.length
  · refine .inr ⟨a, xs, rfl, ha, hw, ?_⟩
    have e : n ≥ ds.length := by
      have := hw.2
      rw [sIx_n, da.length] at this
      omega
    rw [List.take_of_length_le e] at k
    exact k _ _ k2 d2
  · refine .inl ⟨a, xs, rfl, ha, hw, fun p hp => ?_⟩
    have e : cutV xs none (some (n : Int)) = xs.take n := by
      unfold cutV
      rw [sIx_n, HT.sIx_none, List.drop_zero, Nat.sub_zero, List.take_eq_take_iff]
      omega
    refine k _ _ (k2.trans (Keep.new hp)) (.tup (SqT.of upd_same) ?_)
    rw [e]
    exact (da.take n).k0 (Keep.new hp)
theorem LtH.drop {ta : TE} {tn : TO} {ds : List PyData} {n : Nat} (h : LtH K ta σ H (.tuple ds)) (hn : ∀ H1 (Q : Option Int → Hp → Prop), Q (some (n : Int)) H1 → tn σ H1 Q) : LtH K (tSl (SM.rSlA K) ta tn tNoPart) σ H (.tuple (ds.drop n)) := by
  intro H1 k1 Q k
  refine h H1 k1 _ fun v H2 k2 d2 => ?_
  refine hn H2 _ ?_
  obtain ⟨a, xs, rfl, ha, da⟩ := d2.items
  by_cases hw : HT.sIx xs.length 0 (some (n : Int)) = 0 ∧ HT.sIx xs.length xs.length none = xs.length
  · refine .inr ⟨a, xs, rfl, ha, hw, ?_⟩
    have e := hw.1
    rw [sIx_n, da.length] at e
    rcases Nat.eq_zero_or_pos n with z | z
    · subst z
      exact k _ _ k2 d2
    · have e2 : ds = [] := List.eq_nil_of_length_eq_zero (by omega)
      subst e2
      rw [List.drop_nil] at k
      exact k _ _ k2 d2
  · refine .inl ⟨a, xs, rfl, ha, hw, fun p hp => ?_⟩
    have e : cutV xs (some (n : Int)) none = xs.drop n := by
      unfold cutV
      rw [sIx_n, HT.sIx_none, List.take_of_length_le (by rw [List.length_drop]; exact Nat.le_refl _)]
      rcases Nat.le_total n xs.length with z | z
      · rw [Nat.min_eq_left z]
      · rw [Nat.min_eq_right z, List.drop_length, List.drop_of_length_le z]
    refine k _ _ (k2.trans (Keep.new hp)) (.tup (SqT.of upd_same) ?_)
    rw [e]
    exact (da.drop n).k0 (Keep.new hp)
theorem atI_n {xs : List V} {n : Nat} {v : V} (h : xs[n]? = some v) : atI xs (n : Int) = some v := by
  have hn : n < xs.length := by
    rcases Nat.lt_or_ge n xs.length with z | z
    · exact z
    · rw [List.getElem?_eq_none z] at h
      cases h
  have e : (n : Int) < xs.length := by omega
  simp [atI, ixN, e, h]
theorem LtH.ix {ta ti : TE} {ds : List PyData} {d : PyData} {n : Nat} (h : LtH K ta σ H (.tuple ds)) (hn : ∀ H1 (Q : VK), Q (.int (n : Int)) H1 → ti σ H1 Q) (e : ds[n]? = some d) : LtH K (tOp (rIx K) ta ti) σ H d := by
  intro H1 k1 Q k
  refine h H1 k1 _ fun v H2 k2 d2 => ?_
  refine hn H2 _ ?_
  obtain ⟨a, xs, rfl, ha, da⟩ := d2.items
  obtain ⟨v, hv, dv⟩ := da.getD e
  exact .inr (.inl ⟨a, xs, _, v, rfl, rfl, ha, atI_n hv, k _ _ k2 dv⟩)
/-- not x -/
theorem LtH.notV {ta : TE} {b : Bool} (h : LtH K ta σ H (.bool b)) : LtH K (tNotV ta) σ H (.bool (!b)) := by
  intro H1 k1 Q k
  refine h H1 k1 _ fun v H2 k2 d2 => ?_
  cases d2
  exact ⟨b, rfl, k _ _ k2 (.bl _)⟩
/-- len(t) -/
theorem LtH.len {ta : TE} {ds : List PyData} {H1 : Hp} {Q : VK} (h : LtH K ta σ H (.tuple ds)) (k1 : Keep [] H H1) (k : ∀ H2, Keep [] H1 H2 → Q (.int (ds.length : Int)) H2) : tCB (fun xs H Q => ∃ p ys, xs = [V.ref p] ∧ (SqL K H p ys ∨ SqT K H p ys) ∧ Q (.int (ys.length : Int)) H) (tCons ta tNil) σ H1 Q := by
  refine h H1 k1 _ fun v H2 k2 d2 => ?_
  obtain ⟨a, xs, rfl, ha, da⟩ := d2.items
  exact ⟨a, xs, rfl, .inr ha, by rw [da.length]; exact k _ k2⟩
/-! ### data of texts, truths and tuples: equal is the same -/
mutual
inductive Pl : PyData → Prop
  | str (x : Str) : Pl (.str x)
  | bl (b : Bool) : Pl (.bool b)
  | tup {ds : List PyData} : PlA ds → Pl (.tuple ds)
inductive PlA : List PyData → Prop
  | nil : PlA []
  | cons {d : PyData} {ds : List PyData} : Pl d → PlA ds → PlA (d :: ds)
end
mutual
theorem Pl.eqv : ∀ {d e : PyData}, Pl d → Pl e → (PyData.eqv d e = true ↔ d = e)
  | _, _, .str x, .str y => by
    rw [PyData.eqv]
    exact ⟨fun h => by rw [eq_of_beq h], fun h => by cases h; exact beq_self_eq_true _⟩
  | _, _, .bl x, .bl y => by
    rw [PyData.eqv]
    cases x <;> cases y <;> simp
  | _, _, .tup x, .tup y => by
    rw [PyData.eqv, PlA.eqv x y]
    exact ⟨fun h => by rw [h], fun h => by cases h; rfl⟩
  | _, _, .str x, .bl y => by
    rw [PyData.eqv]
    simp
  | _, _, .str x, .tup y => by
    rw [PyData.eqv]
    simp
  | _, _, .bl x, .str y => by
    rw [PyData.eqv]
    simp
  | _, _, .bl x, .tup y => by
    rw [PyData.eqv]
    simp
  | _, _, .tup x, .str y => by
    rw [PyData.eqv]
    simp
  | _, _, .tup x, .bl y => by
    rw [PyData.eqv]
    simp
theorem PlA.eqv : ∀ {d e : List PyData}, PlA d → PlA e → (PyData.eqvAll d e = true ↔ d = e)
  | _, _, .nil, .nil => by
    rw [PyData.eqvAll]
    simp
  | _, _, .nil, .cons x y => by
    rw [PyData.eqvAll]
    simp
  | _, _, .cons x y, .nil => by
    rw [PyData.eqvAll]
    simp
  | _, _, .cons x y, .cons z u => by
    rw [PyData.eqvAll, Bool.and_eq_true, Pl.eqv x z, PlA.eqv y u]
    exact ⟨fun h => by rw [h.1, h.2], fun h => by cases h; exact ⟨rfl, rfl⟩⟩
end
theorem PlA.of : ∀ {ds : List PyData}, (∀ d ∈ ds, Pl d) → PlA ds
  | [], _ => .nil
  | d :: ds, h => .cons (h d List.mem_cons_self) (PlA.of fun e z => h e (List.mem_cons_of_mem _ z))
theorem pl_names (ns : List Str) : Pl (.tuple (ns.map .str)) := .tup (.of fun d z => by
  obtain ⟨x, _, rfl⟩ := List.mem_map.mp z
  exact .str x)
theorem pl_steps (l : List (Str × Str)) : Pl (stepsD l) := .tup (.of fun d z => by
  obtain ⟨x, _, rfl⟩ := List.mem_map.mp z
  exact .tup (.cons (.str _) (.cons (.str _) .nil)))
theorem pl_tests (l : List (Str × Str × Bool)) : Pl (testsD l) := .tup (.of fun d z => by
  obtain ⟨x, _, rfl⟩ := List.mem_map.mp z
  exact .tup (.cons (.str _) (.cons (.str _) (.cons (.bl _) .nil))))
theorem pl_line (l : Ln) : Pl (lnD l) := by
  obtain ⟨t, s, k⟩ := l
  cases k with
  | none => exact .tup (.cons (pl_tests _) (.cons (pl_steps _) .nil))
  | some k => exact .tup (.cons (pl_tests _) (.cons (pl_steps _) (.cons (pl_steps _) .nil)))
theorem pl_lines (ls : List Ln) : Pl (.tuple (linesD ls)) := .tup (.of fun d z => by
  obtain ⟨x, _, rfl⟩ := List.mem_map.mp z
  exact pl_line x)
theorem pl_plan (ns : List Str) (ls : List Ln) : Pl (planD ns ls) := .tup (.cons (pl_names ns) (.cons (pl_lines ls) .nil))
theorem map_inj {α : Type} {f : α → PyData} (h : ∀ a b, f a = f b → a = b) : ∀ {xs ys : List α}, xs.map f = ys.map f → xs = ys
  | [], [], _ => rfl
  | [], y :: ys, e => by simp at e
  | x :: xs, [], e => by simp at e
  | x :: xs, y :: ys, e => by
    rw [List.map_cons, List.map_cons] at e
    injection e with e1 e2
    rw [h _ _ e1, map_inj h e2]
theorem names_inj {a b : List Str} (h : PyData.tuple (a.map .str) = .tuple (b.map .str)) : a = b := by
  injection h with h
  exact map_inj (fun x y e => by injection e) h
theorem steps_inj {a b : List (Str × Str)} (h : stepsD a = stepsD b) : a = b := by
  injection h with h
  refine map_inj (fun x y e => ?_) h
  obtain ⟨x1, x2⟩ := x
  obtain ⟨y1, y2⟩ := y
  simp only [stepD] at e
  injection e with e
  injection e with e1 e
  injection e with e2 e
  injection e1 with e1
  injection e2 with e2
  rw [e1, e2]
theorem tests_inj {a b : List (Str × Str × Bool)} (h : testsD a = testsD b) : a = b := by
  injection h with h
  refine map_inj (fun x y e => ?_) h
  obtain ⟨x1, x2, x3⟩ := x
  obtain ⟨y1, y2, y3⟩ := y
  simp only [testD] at e
  injection e with e
  injection e with e1 e
  injection e with e2 e
  injection e with e3 e
  injection e1 with e1
  injection e2 with e2
  injection e3 with e3
  rw [e1, e2, e3]
theorem line_inj {a b : Ln} (h : lnD a = lnD b) : a = b := by
  obtain ⟨t, s, k⟩ := a
  obtain ⟨t', s', k'⟩ := b
  simp only [lnD] at h
  injection h with h
  injection h with h1 h
  injection h with h2 h
  rw [tests_inj h1, steps_inj h2]
  cases k with
  | none =>
    cases k' with
    | none => rfl
    | some k' => simp [keepD] at h
  | some k =>
    cases k' with
    | none => simp [keepD] at h
    | some k' =>
      simp only [keepD] at h
      injection h with h
      rw [steps_inj h]
theorem lines_inj {a b : List Ln} (h : PyData.tuple (linesD a) = .tuple (linesD b)) : a = b := by
  injection h with h
  exact map_inj (fun _ _ => line_inj) h
theorem plan_eqv {ns ms : List Str} {ls ks : List Ln} : PyData.eqv (planD ns ls) (planD ms ks) = true ↔ ns = ms ∧ ls = ks := by
  rw [(pl_plan ns ls).eqv (pl_plan ms ks)]
  refine ⟨fun h => ?_, fun h => by rw [h.1, h.2]⟩
  simp only [planD] at h
  injection h with h
  injection h with h1 h
  injection h with h2 h
  exact ⟨names_inj h1, lines_inj h2⟩
end SM
set_option Elab.async false
set_option linter.all false
set_option maxRecDepth 100000
set_option maxHeartbeats 2000000
/-! x != y where x's class has an own __eq__ and no own __ne__, whatever y is -/
namespace SN
open PySem PySem.Spec PyProof.Rows PySem.SeqAt
section
variable {prog : Program} {w : World} {A : Around} {E : Value → Shared → Prop} {s : Shared} {K : PySem.W.Frag} {x C f : Addr} {ox : Obj} {od : Option Obj} {b tb : Value}
theorem entry_ne {Q : Fin → Shared → Prop} (hu : A.units < cLine) (X : K.In s.heap) (I : PySem.W.InstAt s.heap x ox C od) (hs : PySem.W.findIn K (.ref C) "__eq__" = some (some (.ref f))) (hf : PySem.W.isFn K (.ref f) = true)
    (hcall : wpAny (model prog w) A (call (.ref f) [.ref x, b]) (fun v s' => ∃ r, v = .bool r ∧ Q (.done (.ret (.bool (!r)))) s') E s) : wpAny (model prog w) A (Builtin.«object.__ne__» ⟨[.ref x, b], []⟩) Q E s := by
  unfold Builtin.«object.__ne__»
  repeat (first
    | with_reducible refine wpAny_cRoomFor hu ?_
    | (refine wpAny_bind (m := callSpecialIfBound? (.ref x) (Str.ofString "__eq__") [b])
        (PySem.W.ifBound_K X I hs hf (wpAny_mono hcall (fun r s' hr => by
          obtain ⟨b, rfl, hq⟩ := hr
          repeat (first | exact hq | exact wpAny_pure hq | exact wpAny_truthy_bool hq | (refine wpAny_bind (m := truthy (.bool _)) (wpAny_truthy_bool ?_)) | wp_step)) fun _ _ e => e)))
    | wp_step)
theorem ifBound_objNe {M : Model} {args : List Value} {Q : Option Value → Shared → Prop} (X : K.In s.heap) (I : PySem.W.InstAt s.heap x ox C od) (hs : PySem.W.findIn K (.ref C) "__ne__" = some (some (.builtin "object.__ne__")))
    (h : wpAny M A (call (.builtin "object.__ne__") (.ref x :: args)) (fun v => Q (some v)) E s) : wpAny M A (callSpecialIfBound? (.ref x) "__ne__" args) Q E s := by
  simp only [callSpecialIfBound?, bindSpecialIfBound?]
  refine wpAny_holding (wpAny_bind (wpAny_bind (wpAny_bind (I.type.here ((PySem.W.looks_findIn X hs).here ?_)))))
  refine wpAny_bind (wpAny_askSetting (wpAny_ite ?_))
  have fin : wpAny M A (call (.builtin "object.__ne__") ([.ref x] ++ args) >>= fun v => pure (some v)) Q E s := wpAny_bind (wpAny_mono h (fun v s' h' => wpAny_pure h') fun _ _ h' => h')
  split
  · exact wpAny_bind (wpAny_of_eq (F.cmp_object.ne.bind _) (wpAny_pure (by exact fin)))
  · exact wpAny_tryCatch (wpAny_bind (wpAny_of_eq (F.cmp_object.ne.bind _) (wpAny_pure (by exact fin))))
theorem call_objNe {Q : Value → Shared → Prop} (hu : A.units + 1 < cLine) (X : K.In s.heap) (I : PySem.W.InstAt s.heap x ox C od) (hm : PySem.W.mroIn K C (.type "object") = some true) (hs : PySem.W.findIn K (.ref C) "__eq__" = some (some (.ref f))) (hf : PySem.W.isFn K (.ref f) = true)
    (hcall : wpAny (model prog w) A.in1 (call (.ref f) [.ref x, b]) (fun v s' => ∃ r, v = .bool r ∧ Q (.bool (!r)) s') E s) : wpAny (model prog w) A (call (.builtin "object.__ne__") [.ref x, b]) Q E s :=
  wpAny_call (codeAny_call_builtin F.cmp_object.ne.plain F.cmpEntry_ne (PySem.W.check_slot F.cmpKind_ne F.cmpSplit_ne (I.type.andThen (PySem.W.looks_mroIn X hm)) (F.cmpArgs_ne _ _)
    (entry_ne (A := A.in1) hu X I hs hf (wpAny_mono hcall (fun v s' hv => by
      obtain ⟨b, rfl, hq⟩ := hv
      first | exact ⟨b, rfl, hq⟩ | exact ⟨b, rfl, wpAny_pure hq⟩) fun _ _ e => e))))
theorem cmpNe_K {Q : Value → Shared → Prop} (hu : A.units + 1 < cLine) (X : K.In s.heap) (I : PySem.W.InstAt s.heap x ox C od) (hb : PySem.W.Looks (model prog w) s.heap (typeOf b) tb) (hn : PySem.W.notFirst K C tb = true)
    (hm : PySem.W.mroIn K C (.type "object") = some true) (hne : PySem.W.findIn K (.ref C) "__ne__" = some (some (.builtin "object.__ne__"))) (hs : PySem.W.findIn K (.ref C) "__eq__" = some (some (.ref f))) (hf : PySem.W.isFn K (.ref f) = true)
    (h : wpAny (model prog w) A.in1 (call (.ref f) [.ref x, b]) (fun v s' => ∃ r, v = .bool r ∧ Q (.bool (!r)) s') E s) : wpAny (model prog w) A (richCompare .NotEq (.ref x) b) Q E s := by
  have one : wpAny (model prog w) A (tryCompare (.ref x) "__ne__" b) (fun r s' => ∃ v, r = some v ∧ Q v s') E s := by
    unfold tryCompare
    refine wpAny_bind (ifBound_objNe X I hne (call_objNe hu X I hm hs hf (wpAny_mono h (fun v s' hv => ?_) fun _ _ e => e)))
    obtain ⟨r, rfl, hq⟩ := hv
    exact ⟨r, rfl, wpAny_pure ⟨_, rfl, hq⟩⟩
  unfold richCompare
  simp only [oneThing_ref]
  refine wpAny_holding (wpAny_bind (wpAny_cRoomFor (Nat.lt_of_succ_lt hu) ?_))
  rw [cmpInfo_NotEq]
  refine wpAny_bind (I.type.here (wpAny_bind (hb.here ?_)))
  split
  · rename_i q
    have e : PySem.W.subIn K tb (.ref C) = some false := by
      rcases Bool.or_eq_true_iff.mp hn with e | e
      · rw [beq_iff_eq.mp e] at q; simp at q
      · exact beq_iff_eq.mp e
    refine wpAny_bind ((PySem.W.looks_subIn X e).here ?_)
    simp only [Bool.false_eq_true, if_false]
    refine wpAny_bind (wpAny_mono one (fun r s' z => ?_) fun _ _ e => e)
    obtain ⟨v, rfl, hq⟩ := z
    exact wpAny_pure hq
  · refine wpAny_bind (wpAny_pure ?_)
    simp only [Bool.false_eq_true, if_false]
    refine wpAny_bind (wpAny_mono one (fun r s' z => ?_) fun _ _ e => e)
    obtain ⟨v, rfl, hq⟩ := z
    exact wpAny_pure hq
end
end SN
namespace SM
open PySem PySem.Spec PyProof.Rows L2
section
variable {X : Cx} {CX : CXT} {j : Nat} {C fe : Addr} {fd : FuncData} {ps : List Str} {sp : Sp} {E : XK}
def rNeOwn (K : PySem.W.Frag) (C : Addr) (sp : Sp) (E : XK) : R2 := fun x y G Q => ∃ (a dx : Addr) (fs : List (Str × V)) (ty : Value),
  x = .ref a ∧ G a = some (.ins C dx fs) ∧ TyX K G y ty ∧ PySem.W.notFirst K C ty = true ∧ sp [x, y] G (fun v G' => ∃ b, v = .bl b ∧ Q (.bl (!b)) G') E
theorem op_neOwn (F : FnOk X.prog X.w X.K X.mg X.base CX j fe fd ps sp) (at_ : PySem.W.findIn X.K (.ref C) "__eq__" = some (some (.ref fe))) (hm : PySem.W.mroIn X.K C (.type "object") = some true) (hne : PySem.W.findIn X.K (.ref C) "__ne__" = some (some (.builtin "object.__ne__")))
    (fn : PySem.W.isFn X.K (.ref fe) = true) (bd : Binds X.K fd ps []) (hx : Passes CX X E) (hr : Room (j + 1) X.A) : OpR X (compareOp .NotEq) (rNeOwn X.K C sp E) := by
  intro pins sh τ G x y u v Q J rx ry q
  obtain ⟨a, dx, fs, ty, rfl, ha, hy, hn, want⟩ := q
  obtain rfl : u = Value.ref a := rx
  obtain ⟨mA, JA, _⟩ := ins_get J.hok ha
  obtain ⟨od, JA, _⟩ := JA.look
  obtain ⟨P, kx, hp, _⟩ := kit_of J ry hy
  show wpAny (model X.prog X.w) X.A (richCompare .NotEq (.ref a) v) (EP X pins τ Q) X.xe sh
  refine SN.cmpNe_K (tb := ty) (by have := hr.un; omega) J.kIn JA (kx.ty _ _ J.kIn hp) hn hm hne at_ fn ?_
  have many := F.len _ _ _ _ want
  have rr : Vals [V.ref a, y] [Value.ref a, v] := .cons rfl (.cons ry .nil)
  have bound : BindsTo sh fd ⟨[.ref a, v], []⟩ (ps.zip [.ref a, v]) := by
    have b := bd sh [.ref a, v] J.kIn (by simpa using many)
    simpa using b
  refine wpAny_call (codeAny_mono (F.run X.A.in1 X.stack sh G ⟨[.ref a, v], []⟩ _ _ _ E hr.in1 J.env0.in1 bound rr want) fun res sz z => ?_)
  match res, z with
  | .error er, z => exact hx pins τ G sh er sz J z
  | .ok (.ret w), z =>
    obtain ⟨z1, G1, J1, rz, ⟨b, rfl, q1⟩⟩ := J.after z
    obtain rfl : w = Value.bool b := rz
    exact ⟨b, rfl, .bl _, G1, J1, rfl, q1⟩
  | .ok .next, z => exact False.elim z
  | .ok .brk, z => exact False.elim z
  | .ok .cont, z => exact False.elim z
end
end SM
set_option Elab.async false
set_option linter.all false
set_option maxRecDepth 100000
set_option maxHeartbeats 2000000
/-! thing == x: the built-in's __eq__ declines, the own one of x's class answers -/
namespace SN
open PySem PySem.Spec PyProof.Rows PySem.SeqAt
section
variable {prog : Program} {w : World} {A : Around} {E : Value → Shared → Prop} {s : Shared} {K : PySem.W.Frag} {x C f : Addr} {ox : Obj} {od : Option Obj}
theorem inst_no {M : Model} {n : String} (X : K.In s.heap) (I : PySem.W.InstAt s.heap x ox C od) (e : PySem.W.subIn K (.ref C) (.type n) = some false) : PySem.W.Looks M s.heap (isInstance (.ref x) (.type n)) false := I.type.andThen (PySem.W.looks_subIn X e)
theorem list_no {l : Addr} {Q : Fin → Shared → Prop} (X : K.In s.heap) (I : PySem.W.InstAt s.heap x ox C od) (e : PySem.W.subIn K (.ref C) (.type "list") = some false) (hq : Q (.done (.ret .notImplemented)) s) : wpAny (model prog w) A (Builtin.«list.__eq__» ⟨[.ref l, .ref x], []⟩) Q E s := by
  unfold Builtin.«list.__eq__»
  repeat (first | with_reducible refine wpAny_bind ((inst_no X I e).here ?_) | wp_step)
  exact hq
theorem tuple_no {l : Addr} {Q : Fin → Shared → Prop} (X : K.In s.heap) (I : PySem.W.InstAt s.heap x ox C od) (e : PySem.W.subIn K (.ref C) (.type "tuple") = some false) (hq : Q (.done (.ret .notImplemented)) s) : wpAny (model prog w) A (Builtin.«tuple.__eq__» ⟨[.ref l, .ref x], []⟩) Q E s := by
  unfold Builtin.«tuple.__eq__»
  repeat (first | with_reducible refine wpAny_bind ((inst_no X I e).here ?_) | wp_step)
  exact hq
theorem dict_no {l : Addr} {Q : Fin → Shared → Prop} (X : K.In s.heap) (I : PySem.W.InstAt s.heap x ox C od) (e : PySem.W.subIn K (.ref C) (.type "dict") = some false) (hq : Q (.done (.ret .notImplemented)) s) : wpAny (model prog w) A (Builtin.«dict.__eq__» ⟨[.ref l, .ref x], []⟩) Q E s := by
  unfold Builtin.«dict.__eq__»
  repeat (first | with_reducible refine wpAny_bind ((inst_no X I e).here ?_) | wp_step)
  exact hq
theorem int_no {u : Value} {i : Int} {t : Tok} {Q : Fin → Shared → Prop} (hu : u = .int i t ∨ ∃ c, u = .bool c) (ho : s.heap.get? x = some ox) (np : ∀ v, ox.data ≠ .prim v) (hq : Q (.done (.ret .notImplemented)) s) : wpAny (model prog w) A (Builtin.«int.__eq__» ⟨[u, .ref x], []⟩) Q E s := by
  obtain ⟨hp, g, d, tk, os⟩ := s
  rcases hu with rfl | ⟨c, rfl⟩
  · unfold Builtin.«int.__eq__»
    repeat (first | with_reducible refine wpAny_loadPart_at ho ?_ | wp_step)
    split
    · rename_i q
      exact absurd q (np _)
    · repeat wp_step
      exact hq
  · unfold Builtin.«int.__eq__»
    repeat (first | with_reducible refine wpAny_loadPart_at ho ?_ | wp_step)
    split
    · rename_i q
      exact absurd q (np _)
    · repeat wp_step
      exact hq
theorem str_no {i : Str} {t : Tok} {Q : Fin → Shared → Prop} (ho : s.heap.get? x = some ox) (np : ∀ v, ox.data ≠ .prim v) (hq : Q (.done (.ret .notImplemented)) s) : wpAny (model prog w) A (Builtin.«str.__eq__» ⟨[.str i t, .ref x], []⟩) Q E s := by
  obtain ⟨hp, g, d, tk, os⟩ := s
  unfold Builtin.«str.__eq__»
  repeat (first | with_reducible refine wpAny_loadPart_at ho ?_ | wp_step)
  split
  · rename_i q
    exact absurd q (np _)
  · repeat wp_step
    exact hq
theorem rc_late {u : Value} {T id : String} {Q : Value → Shared → Prop} (hu : A.units < cLine) (X : K.In s.heap) (I : PySem.W.InstAt s.heap x ox C od) (hT : s.TypeIs u T) (hsub : PySem.W.subIn K (.ref C) (.type T) = some false) (slot : Slot T "__eq__" id)
    (dec : ∀ Q' : Value → Shared → Prop, Q' .notImplemented s → wpAny (model prog w) A (call (.builtin id) [u, .ref x]) Q' E s) (hs : PySem.W.findIn K (.ref C) "__eq__" = some (some (.ref f))) (hf : PySem.W.isFn K (.ref f) = true)
    (h : wpAny (model prog w) A (call (.ref f) [.ref x, u]) (PySem.W.CmpBack Q) E s) : wpAny (model prog w) A (richCompare .Eq u (.ref x)) Q E s := by
  have two : wpAny (model prog w) A (tryCompare (.ref x) "__eq__" u) (fun r s' => ∃ v, r = some v ∧ Q v s') E s := by
    unfold tryCompare
    refine wpAny_bind (PySem.W.ifBound_K X I hs hf (wpAny_mono h (fun v s' hv => ?_) fun _ _ e => e))
    cases v <;> first | exact hv.elim | exact wpAny_pure ⟨_, rfl, hv⟩
  simp only [richCompare, cmpInfo_Eq, hT.oneThing_none]
  refine wpAny_holding (wpAny_bind (wpAny_cRoomFor hu ?_))
  refine wpAny_bind (wpAny_typeOf hT ?_)
  refine wpAny_bind (I.type.here ?_)
  split
  · refine wpAny_bind ((PySem.W.looks_subIn X hsub).here ?_)
    simp only [Bool.false_eq_true, if_false, Bool.not_false, if_true]
    refine wpAny_bind (m := tryCompare u _ (.ref x)) (wpAny_tryCompare_declines hT slot (dec _ ⟨rfl, ?_⟩))
    refine wpAny_bind (m := tryCompare (.ref x) _ u) (wpAny_mono two (fun r s1 z => ?_) fun _ _ e => e)
    obtain ⟨v, rfl, q⟩ := z
    exact wpAny_pure q
  · rename_i q
    exact absurd (by simp) q
end
end SN
namespace SM
open PySem PySem.Spec PyProof.Rows L2
section
variable {X : Cx} {CX : CXT} {j : Nat} {C fe : Addr} {fd : FuncData} {ps : List Str} {sp : Sp} {E : XK}
/-- a built-in's value, by kind -/
inductive LateV (K : PySem.W.Frag) (G : Hp) : V → String → Prop where
  | non : LateV K G .non "NoneType"
  | bl (b : Bool) : LateV K G (.bl b) "bool"
  | int (i : Int) : LateV K G (.int i) "int"
  | str (x : Str) : LateV K G (.str x) "str"
  | lst {a : Addr} {xs : List V} : SqL K G a xs → LateV K G (.ref a) "list"
  | tup {a : Addr} {xs : List V} : SqT K G a xs → LateV K G (.ref a) "tuple"
  | dic {a : Addr} {kvs : List (Key × V)} : G a = some (.dK kvs) → LateV K G (.ref a) "dict"
/-- a built-in's value on the left, an instance of C on the right -/
def rEqLate (K : PySem.W.Frag) (C : Addr) (sp : Sp) (E : XK) : R2 := fun x y G Q => ∃ (a dx : Addr) (fs : List (Str × V)) (T : String),
  y = .ref a ∧ G a = some (.ins C dx fs) ∧ LateV K G x T ∧ PySem.W.subIn K (.ref C) (.type T) = some false ∧ sp [y, x] G (fun v G' => (∃ b, v = .bl b) ∧ Q v G') E
theorem op_eqLate (Fo : FnOk X.prog X.w X.K X.mg X.base CX j fe fd ps sp) (at_ : PySem.W.findIn X.K (.ref C) "__eq__" = some (some (.ref fe)))
    (fn : PySem.W.isFn X.K (.ref fe) = true) (bd : Binds X.K fd ps []) (hx : Passes CX X E) (hr : Room j X.A) : OpR X (compareOp .Eq) (rEqLate X.K C sp E) := by
  intro pins sh τ G x y u v Q J rx ry q
  obtain ⟨a, dx, fs, T, rfl, ha, hk, hsub, want⟩ := q
  obtain rfl : v = Value.ref a := ry
  obtain ⟨mA, JA, _⟩ := ins_get J.hok ha
  obtain ⟨od, JA, _⟩ := JA.look
  have X0 := J.kIn
  have many := Fo.len _ _ _ _ want
  have rr : Vals [V.ref a, x] [Value.ref a, u] := .cons rfl (.cons rx .nil)
  have bound : BindsTo sh fd ⟨[.ref a, u], []⟩ (ps.zip [.ref a, u]) := by
    have b := bd sh [.ref a, u] J.kIn (by simpa using many)
    simpa using b
  have own : wpAny (model X.prog X.w) X.A (call (.ref fe) [.ref a, u]) (PySem.W.CmpBack (EP X pins τ Q)) X.xe sh := by
    refine wpAny_call (codeAny_mono (Fo.run X.A X.stack sh G ⟨[.ref a, u], []⟩ _ _ _ E hr J.env0 bound rr want) fun res sz z => ?_)
    match res, z with
    | .error er, z => exact hx pins τ G sh er sz J z
    | .ok (.ret w), z =>
      obtain ⟨z1, G1, J1, rz, ⟨b, rfl⟩, q1⟩ := J.after z
      obtain rfl : w = Value.bool b := rz
      exact ⟨.bl b, G1, J1, rfl, q1⟩
    | .ok .next, z => exact False.elim z
    | .ok .brk, z => exact False.elim z
    | .ok .cont, z => exact False.elim z
  show wpAny (model X.prog X.w) X.A (richCompare .Eq u (.ref a)) (EP X pins τ Q) X.xe sh
  have np : ∀ z, (PySem.W.instObj C dx).data ≠ .prim z := fun z h => by cases h
  cases hk with
  | non =>
    cases (show u = Value.none from rx)
    exact SN.rc_late hr.units0 X0 JA (T := "NoneType") rfl hsub PySem.F.slot_NoneType_eq (fun Q' hq => call_gives PySem.F.slot_NoneType_eq rfl PySem.F.entry_NoneType_eq (PySem.F.args_NoneType_eq_2 _ _) (PySem.SeqAt.NoneType___eq___none_ref_0 _) hq) at_ fn own
  | bl b =>
    cases (show u = Value.bool b from rx)
    exact SN.rc_late hr.units0 X0 JA (T := "bool") rfl hsub PySem.F.slot_bool_eq (fun Q' hq => wpAny_call_entry PySem.F.slot_bool_eq rfl PySem.F.entry_int_eq (SN.int_no (i := 0) (t := 0) (.inr ⟨b, rfl⟩) JA.at_ np ⟨_, rfl, hq⟩) (PySem.F.args_int_eq_2 _ _)) at_ fn own
  | int i =>
    obtain ⟨t, e⟩ := (show ∃ t, u = Value.int i t from rx)
    cases e
    exact SN.rc_late hr.units0 X0 JA (T := "int") rfl hsub PySem.F.slot_int_eq (fun Q' hq => wpAny_call_entry PySem.F.slot_int_eq rfl PySem.F.entry_int_eq (SN.int_no (.inl rfl) JA.at_ np ⟨_, rfl, hq⟩) (PySem.F.args_int_eq_2 _ _)) at_ fn own
  | str z =>
    obtain ⟨t, e⟩ := (show ∃ t, u = Value.str z t from rx)
    cases e
    exact SN.rc_late hr.units0 X0 JA (T := "str") rfl hsub PySem.F.slot_str_eq (fun Q' hq => wpAny_call_entry PySem.F.slot_str_eq rfl PySem.F.entry_str_eq (SN.str_no JA.at_ np ⟨_, rfl, hq⟩) (PySem.F.args_str_eq_2 _ _)) at_ fn own
  | lst hs =>
    cases (show u = Value.ref _ from rx)
    obtain ⟨its, r, pl, hz⟩ := J.list hs
    exact SN.rc_late hr.units0 X0 JA (T := "list") pl.isList.typeIs hsub PySem.F.slot_list_eq (fun Q' hq => wpAny_call_entry PySem.F.slot_list_eq pl.isList.typeIs PySem.F.entry_list_eq (SN.list_no X0 JA hsub ⟨_, rfl, hq⟩) (PySem.F.args_list_eq_2 _ _)) at_ fn own
  | tup hs =>
    cases (show u = Value.ref _ from rx)
    obtain ⟨its, r, ht, hz⟩ := J.tuple hs
    exact SN.rc_late hr.units0 X0 JA (T := "tuple") ht.typeIs hsub PySem.F.slot_tuple_eq (fun Q' hq => wpAny_call_entry PySem.F.slot_tuple_eq ht.typeIs PySem.F.entry_tuple_eq (SN.tuple_no X0 JA hsub ⟨_, rfl, hq⟩) (PySem.F.args_tuple_eq_2 _ _)) at_ fn own
  | @dic b kvs hs =>
    cases (show u = Value.ref b from rx)
    have hT : sh.TypeIs (.ref b) "dict" := by
      obtain ⟨_, _, vs, _, o, es, ep, h1, h2, _⟩ := (show ObjOk X.prog X.w G sh.heap b (.dK kvs) from J.hok b _ hs)
      exact ⟨o, h1, h2.1⟩
    exact SN.rc_late hr.units0 X0 JA (T := "dict") hT hsub PySem.F.slot_dict_eq (fun Q' hq => wpAny_call_entry PySem.F.slot_dict_eq hT PySem.F.entry_dict_eq (SN.dict_no X0 JA hsub ⟨_, rfl, hq⟩) (PySem.F.args_dict_eq_2 _ _)) at_ fn own
end
end SM
set_option Elab.async false
set_option linter.all false
set_option maxRecDepth 100000
set_option maxHeartbeats 2000000
/-! t * 1 is t itself -/
namespace SN
open PySem PySem.Spec PyProof.Rows L2
theorem tuple_mul1 (l : Addr) (items : Array Value) (n : Nat) (dd : Option Addr) (sl : Array (Option Value)) (u : Tok) :
    Meets (Builtin.«tuple.__mul__» ⟨[.ref l, .int 1 u], []⟩) (fun _ R s => s.heap.get? l = some { cls := .type "tuple", dict := dd, data := .seq items n, slots := sl } ∧
      R (.ok (.ret (Value.ref l))) s) :=
  .of_wp fun prog w A R s h => by
    obtain ⟨hp, g, d, tk, os⟩ := s
    obtain ⟨hl, h⟩ := h
    have f1 := AutoSeq1.idx_int
    have c1 : (items.isEmpty || (1 : Int) == 1) = true := by rw [show ((1 : Int) == 1) = true from rfl, Bool.or_true]
    wp_walk using wpAny_loadPart' hl
    repeat (first
      | (refine wpAny_ite_true (by rw [c1]) ?_; wp_walk using wpAny_loadPart' hl)
      | (refine wpAny_ite_false (by decide) ?_; wp_walk using wpAny_loadPart' hl))
    exact ⟨_, rfl, h⟩
end SN
namespace SM
open PySem PySem.Spec PyProof.Rows L2
section
variable {X : Cx}
def rRep1 (K : PySem.W.Frag) : R2 := fun x y H Q => ∃ l xs, x = .ref l ∧ y = .int 1 ∧ SqT K H l xs ∧ Q (.ref l) H
theorem op_rep1 : OpR X (binaryOp .Mult) (rRep1 X.K) := by
  intro pins s σ H x y v u Q I rx ry h
  obtain ⟨l, xs, rfl, rfl, hT, q⟩ := h
  cases rx
  obtain ⟨t, rfl⟩ := ry
  obtain ⟨its, r, ⟨⟨cls, dd, data, sl⟩, ho, hc, n, hd⟩, hs⟩ := I.tuple hT
  simp only at hc hd
  subst hc hd
  refine wpAny_binaryOp_repeat_ref (T := "tuple") (U := "int") (by decide) ⟨_, ho, rfl⟩ (fun s' => typeIs_int s' 1 t) noFill_tuple_mul PySem.F.fills_int_mul PySem.F.slot_int_rmul repeat_tuple PySem.F.slot_int_index.lookup
    (call_meets PySem.F.slot_int_rmul (typeIs_int s 1 t) PySem.F.entry_int_rmul (PySem.F.args_int_rmul_2 _ _) (int_rmul_tuple 1 t l its.toArray n dd sl)
      ⟨ho, rfl, ⟨_, ho, rfl⟩, call_meets PySem.F.slot_tuple_mul ⟨_, ho, rfl⟩ PySem.F.entry_tuple_mul (PySem.F.args_tuple_mul_2 _ _) (SN.tuple_mul1 l its.toArray n dd sl t) ⟨ho, ?_⟩⟩)
  exact ⟨.ref l, H, I, rfl, q⟩
def rRepA (K : PySem.W.Frag) : R2 := fun x y H Q => rRepT K x y H Q ∨ rRep1 K x y H Q
theorem op_repA : OpR X (binaryOp .Mult) (rRepA X.K) := op_repT.or op_rep1
end
end SM
set_option Elab.async false
set_option linter.all false
set_option maxRecDepth 100000
set_option maxHeartbeats 2000000
/-! comprehensions over a tuple, with the data that they give; a plan's data -/
namespace SM
open PySem PySem.Spec PyProof.Rows L2
variable {K : PySem.W.Frag} {σ : L2.St} {H0 : Hp}
/-- tuple([.. for .. in a tuple]), item by item -/
theorem LtH.tupLc {tx : TE} {g : TG} {te : TE} {vs : List Nat} {xs : List V} {rs : List PyData} (hl : xs.length ≤ 100) (len : rs.length = xs.length)
    (hx : ∀ H, Keep [] H0 H → ∀ Q : VK, (∀ t H', Keep [] H H' → SqT K H' t xs → Q (.ref t) H') → tx σ H Q)
    (he : ∀ (i : Nat) x r H2, xs[i]? = some x → rs[i]? = some r → Keep [] H0 H2 → ∀ Q' : VK, (∀ y H', Keep [] H2 H' → Dt K H' y r → Q' y H') → g x (wipe σ vs) H2 fun σ2 H3 => wipe σ2 vs = wipe σ vs ∧ te σ2 H3 Q') : LtH K (teTup K (tLc (iTup K tx) g tYes te vs)) σ H0 (.tuple rs) := by
  intro H k0 Q k
  refine hx H k0 _ fun t H1 k1 hq => ⟨t, rfl, ⟨xs, hq⟩, fun D hD => ?_⟩
  refine lc_tup (xs := xs) (Qd := fun H' => ∃ p ys, [V.ref D] = [.ref p] ∧ ((SqL K H' p ys ∧ ∀ l, H' l = none → Q (.ref l) (upd H' l (.tup ys))) ∨ (SqT K H' p ys ∧ Q (.ref p) H'))) (fun i H' => ∃ acc, Keep [] H1 H' ∧ H' D = some (.lst acc) ∧ acc.length = i ∧ DtAll K H' acc (rs.take i)) ⟨[], Keep.new hD, upd_same, rfl, by simpa using DtAll.nil⟩ ?_ ?_ ?_
  · rintro n H' _ ⟨acc, k2, _⟩
    exact seqT_keep k2 Soft.nil hq
  · rintro n x H' hx' ⟨acc, k2, e2, en, da⟩
    have hn : n < xs.length := (List.getElem?_eq_some_iff.mp hx').1
    obtain ⟨r, hr⟩ : ∃ r, rs[n]? = some r := ⟨_, List.getElem?_eq_getElem (show n < rs.length by omega)⟩
    refine he n x r H' hx' hr (k0.trans (k1.trans k2)) _ fun y H2 k3 dy => ?_
    refine ⟨acc, k3.to e2, ?_, acc ++ [y], Keep.own (k2.trans k3) hD, upd_same, by rw [List.length_append, en]; rfl, ?_⟩
    · rw [en]
      exact Nat.lt_of_lt_of_le (show n < 101 by omega) (by decide)
    · rw [List.take_succ, hr, Option.toList_some]
      exact ((da.k0 k3).append (.cons dy .nil)).keep (Keep.at_ (m := [D]) (by simp)) (Soft.lst (k3.to e2))
  · rintro H' ⟨acc, k2, e2, en, da⟩
    rw [← len, List.take_length] at da
    exact ⟨D, acc, rfl, .inl ⟨SqL.of e2, fun l hl => k _ _ (k1.trans (k2.trans (Keep.new hl))) (.tup (SqT.of upd_same) (da.k0 (Keep.new hl)))⟩⟩
theorem LtH.dget {i j : Nat} {d : Addr} {kvs : List (Key × V)} {x : Str} {n : Int} (hi : σ[i]? = some (some (.ref d))) (hj : σ[j]? = some (some (.str x))) (hd : H0 d = some (.dK kvs)) (hv : valV kvs (.inr x) = some (.int n)) : LtH K (tDGet (tVar i) (tVar j)) σ H0 (.int n) :=
  fun H k0 Q k => ⟨_, hi, _, hj, d, .int n, rfl, by rw [← hv]; exact DGet.k (k := .inr x) (k0.to hd), k _ H Keep.refl (.int n)⟩
/-! ### a line by positions -/
def stepX (f : Str → Nat) (s : Str × Str) : PyData := .tuple [.int (f s.1), .int (f s.2)]
def stepsX (f : Str → Nat) (l : List (Str × Str)) : PyData := .tuple (l.map (stepX f))
def testX (f : Str → Nat) (t : Str × Str × Bool) : PyData := .tuple [.int (f t.1), .int (f t.2.1), .bool t.2.2]
def testsX (f : Str → Nat) (l : List (Str × Str × Bool)) : PyData := .tuple (l.map (testX f))
def listsOf (l : Ln) : List (List (Str × Str)) := l.steps :: (match l.keep with | none => [] | some k => [k])
def choX (f : Str → Nat) (l : Ln) : PyData := .tuple [testsX f l.tests, .tuple ((listsOf l).map (stepsX f))]
theorem listsOf_D (l : Ln) : stepsD l.steps :: keepD l.keep = (listsOf l).map stepsD := by
  obtain ⟨t, s, k⟩ := l
  cases k <;> rfl
end SM
set_option Elab.async false
set_option linter.all false
set_option maxRecDepth 100000
set_option maxHeartbeats 2000000
/-! Files by positions: contents (none or a text), states, what deeds make of them. f tells the position of a word. -/
namespace SM
open PySem PySem.Spec PyProof.Rows L2
abbrev Cn := Option Str
def cD : Cn → PyData
  | none => .none
  | some s => .str s
def cV : Cn → V
  | none => .non
  | some s => .str s
def atC (h : List Cn) (i : Nat) : Cn := (h[i]?).getD none
/-- what stands in a file: here and the registers, last, mark, mine, amid -/
structure Fs where
  cs : List Cn
  last : Cn
  mark : Str
  mine : Cn
  amid : Bool
def fsD (s : Fs) : PyData := .tuple [.tuple (s.cs.map cD), cD s.last, .str s.mark, cD s.mine, .bool s.amid]
def firstS (n : Nat) : Fs := ⟨List.replicate (n + 1) none, none, "none", none, false⟩
def editedS (s : Fs) (c : Cn) : Fs :=
  if c = atC s.cs 0 then s else if c = s.last then { s with cs := s.cs.set 0 c, mark := "none", mine := none } else { s with cs := s.cs.set 0 c, mark := "own", mine := c }
def heldOf (f : Str → Nat) (s : Fs) (new : Cn) (ren : Bool) : List Cn :=
  if ren then ((s.cs ++ [new, none]).set (f "elder") (atC s.cs 0)).set 0 none else s.cs ++ [new, none]
def testOk (f : Str → Nat) (h : List Cn) (t : Str × Str × Bool) : Bool := decide (atC h (f t.1) = atC h (f t.2.1)) == t.2.2
def lineOk (f : Str → Nat) (h : List Cn) (l : Ln) : Bool := l.tests.all (testOk f h)
/-- the first line that fits, the last one anyway -/
def taken (f : Str → Nat) (h : List Cn) : List Ln → Nat
  | [] => 0
  | [_] => 0
  | l :: m :: ls => if lineOk f h l then 0 else taken f h (m :: ls) + 1
def doSteps (f : Str → Nat) (h : List Cn) (ss : List (Str × Str)) : List Cn := ss.foldl (fun h s => h.set (f s.1) (atC h (f s.2))) h
def listFor (l : Ln) (reply : Option Str) : List (Str × Str) := match l.keep with
  | some k => if reply = some "keep" then k else l.steps
  | none => l.steps
def needlessS (s : Fs) (new : Cn) : Bool :=
  if s.mark = "none" ∨ (s.mark = "own" ∧ atC s.cs 0 ≠ s.mine) then true else decide (atC s.cs 0 = new) || (decide (s.last = new) && !s.amid)
/-- what the answer makes of the mark -/
def questionS (s : Fs) (new : Cn) (asks : Bool) (reply : Option Str) : List Str × Str × Cn :=
  if asks = false then ([], s.mark, s.mine) else
  let w : List Str := if needlessS s new then ["needless"] else []
  if reply = some "take" ∧ s.mark = "own" then (w, "free", none) else
  if reply = some "keep" ∧ s.mark ≠ "own" then (w, "own", atC s.cs 0) else (w, s.mark, s.mine)
def harmS (spots : List Nat) (h : List Cn) (mine : Cn) : List Str :=
  if mine = none then (if atC h 0 = none then [] else ["revived"]) else if (spots.any fun i => decide (atC h i = mine)) = true then [] else ["lost"]
def remainsS (elder : Option Nat) (h : List Cn) (new : Cn) (own : List Cn) : List Str :=
  (if atC h 0 = new ∨ atC h 0 ∈ own then ([] : List Str) else ["stale"]) ++ (match elder with | none => [] | some e => if atC h e = none ∨ atC h e ∈ own then [] else ["left"])
/-- an upgrade's troubles, and the state behind it -/
def outcomeS (f : Str → Nat) (spots : List Nat) (elder : Option Nat) (s : Fs) (new : Cn) (ren : Bool) (l : Ln) (reply : Option Str) (stop : Option Nat) : List Str × Fs :=
  let (w, mark, mine) := questionS s new l.keep.isSome reply
  let ss := listFor l reply
  let h := doSteps f (heldOf f s new ren) (match stop with | none => ss | some n => ss.take n)
  let hm := if mark = "own" then harmS spots h mine else []
  let (mark, mine) := if hm = [] then (mark, mine) else (("none" : Str), none)
  match stop with
  | some _ => (w ++ hm, ⟨h.take (h.length - 2), s.last, mark, mine, true⟩)
  | none =>
    let (mark, mine) := if mark = "free" ∨ (mark = "own" ∧ mine = new) then (("none" : Str), none) else (mark, mine)
    (w ++ hm ++ remainsS elder h new (if mark = "own" then [mine] else []), ⟨h.take (h.length - 2), new, mark, mine, false⟩)
theorem cV_dt {K : PySem.W.Frag} {H : Hp} (c : Cn) : Dt K H (cV c) (cD c) := by
  cases c with
  | none => exact .non
  | some s => exact .str s
theorem cV_all {K : PySem.W.Frag} {H : Hp} : ∀ cs : List Cn, DtAll K H (cs.map cV) (cs.map cD)
  | [] => .nil
  | c :: cs => .cons (cV_dt c) (cV_all cs)
theorem cV_inj {a b : Cn} (h : cV a = cV b) : a = b := by
  cases a <;> cases b <;> cases h <;> rfl
theorem cD_eqv (a b : Cn) : PyData.eqv (cD a) (cD b) = decide (a = b) := by
  cases a with
  | none =>
    cases b with
    | none => rw [cD, PyData.eqv]; rfl
    | some y => rw [cD, cD, PyData.eqv]; rfl
  | some x =>
    cases b with
    | none => rw [cD, cD, PyData.eqv]; rfl
    | some y =>
      rw [cD, cD, PyData.eqv]
      by_cases e : x = y
      · subst e
        simp
      · simp [e]
theorem cV_of {K : PySem.W.Frag} {H : Hp} : ∀ {cs : List Cn} {us : List V}, DtAll K H us (cs.map cD) → us = cs.map cV
  | [], _, .nil => rfl
  | none :: cs, _, .cons h t => by
    rw [cV_of t]
    cases h
    rfl
  | some s :: cs, _, .cons h t => by
    rw [cV_of t]
    cases h
    rfl
theorem doSteps_len (f : Str → Nat) : ∀ (ss : List (Str × Str)) (h : List Cn), (doSteps f h ss).length = h.length
  | [], h => rfl
  | s :: ss, h => by
    rw [doSteps, List.foldl_cons]
    exact (doSteps_len f ss _).trans (List.length_set ..)
theorem doSteps_snoc (f : Str → Nat) (h : List Cn) (ss : List (Str × Str)) (s : Str × Str) : doSteps f h (ss ++ [s]) = (doSteps f h ss).set (f s.1) (atC (doSteps f h ss) (f s.2)) := by
  rw [doSteps, List.foldl_append]
  rfl
/-- what is never reached may be read as anything -/
theorem ps_never {X : Cx} {st : Stmt} : PS X st (fun _ _ _ => False) := ⟨fun _ _ _ _ _ _ h => h.elim⟩
theorem pe_never {X : Cx} {e : Expr} : PE X e (fun _ _ _ => False) := ⟨fun _ _ _ _ _ _ h => h.elim⟩
end SM
set_option Elab.async false
set_option linter.all false
set_option maxRecDepth 100000
set_option maxHeartbeats 2000000
/-! dict(d); x[:n] with n None or a number; d[k] and o.f among several targets; o.m(x, k = v). -/
namespace SM
open PySem PySem.Spec PyProof.Rows L2
section
variable {X : Cx}
/-- dict(d), a copy -/
def rDictC : List V → Hp → VK → Prop := fun xs H Q => ∃ (a : Addr) (kvs : List (Key × V)), xs = [.ref a] ∧ H a = some (.dK kvs) ∧ ∀ p, H p = none → Q (.ref p) (upd H p (.dK kvs))
theorem call_dictC : CallR X (.type "dict") rDictC := by
  intro pins s σ H xs us Q I r h
  obtain ⟨a, kvs, rfl, e, q⟩ := h
  obtain ⟨u, rfl, ru⟩ := vals1 r
  obtain rfl : u = Value.ref a := ru
  exact d_copyOf I (.inl e) fun p s' np I' => ⟨.ref p, _, I', rfl, q p np⟩
/-- a slice's part: a number or None -/
def tPartN (t : TE) : TO := fun σ H Q => t σ H fun x H1 => (∃ i, x = .int i ∧ Q (some i) H1) ∨ (x = .non ∧ Q none H1)
theorem po_may {e : Expr} {te : TE} (h : PE X e te) : PO X (some e) (tPartN te) := by
  refine ⟨fun pins s σ H Q I hw => ?_⟩
  rw [evalPart_some]
  refine thn (h.run pins s σ H _ I hw) fun u s1 ⟨x, H1, I1, r1, q1⟩ => ?_
  rcases q1 with ⟨i, rfl, q⟩ | ⟨rfl, q⟩
  · obtain ⟨t, rfl⟩ := r1
    exact ⟨some i, H1, I1, .int i t, q⟩
  · cases r1
    exact ⟨none, H1, I1, .none, q⟩
def rSetD : TSet := fun o i v H Q => ∃ a H1, o = .ref a ∧ DPut H a i v H1 ∧ Q H1
theorem set_dict (hu : X.A.units + 1 < cLine) : PSet X rSetD := by
  intro pins s σ H o i v ov iv u Q I ro ri rv h
  obtain ⟨a, H1, rfl, g, q⟩ := h
  obtain rfl : ov = Value.ref a := ro
  exact d_setItem hu I g ri rv fun s' I' => ⟨H1, I', q⟩
/-- o.f = v, among several targets -/
def gFld (K : PySem.W.Frag) (to : TE) (f : Str) : TG := fun v σ H Q => to σ H fun x H1 => ∃ a C dx fs, x = .ref a ∧ H1 a = some (.ins C dx fs) ∧ Cls K C ∧ NoAttr K C f ∧ fs.length < 1000 ∧ Q σ (upd H1 a (.ins C dx (putF f v fs)))
theorem pg_fld {o : Expr} {to : TE} {f : Str} {pos : Pos} (ho : PE X o to) : PG X (.Attribute o f pos) (gFld X.K to f) := by
  refine ⟨fun pins s σ H v u Q I r h => ?_⟩
  rw [arm_assign_Attribute]
  refine wpAny_bind (wpAny_holding (thn (ho.run pins s σ H _ I h) fun ov s1 ⟨x, H1, I1, r1, a, C, dx, fs, ex, ea, c, n, l, q⟩ => ?_))
  subst ex
  obtain rfl : ov = Value.ref a := r1
  refine wpAny_bind (wpAny_standAt (wpAny_bind (wpAny_holding (setattr_ok I1 ea c n l r fun s2 I2 => ?_))))
  exact wpAny_release ⟨σ, _, I2, q⟩
end
section
variable {X : Cx} {CX : CXT} {k n : Nat} {f C : Addr} {fd : FuncData} {ps ks : List Str} {sp : Sp} {E : XK} {m : Str} {pos apos : Pos} {e o : Expr} {es : List Expr} {kws : List Keyword} {ta : TE} {t tk : TA} {g : List Value → List Value → List Value} {gV : List V → List V → List V}
/-- o.m(e, .., k = v, ..); n counts the instance, too -/
def tMethN (C : Addr) (m : Str) (n j : Nat) (sp : Sp) (gV : List V → List V → List V) (E : XK) (ta : TE) (t tk : TA) : TE := fun σ H Q => ta σ H fun x H1 => ∃ a dx fs, x = .ref a ∧ H1 a = some (.ins C dx fs) ∧ fs.lookup m = none ∧
  t σ H1 fun vs H2 => tk σ H2 fun zs H3 => vs.length + 1 = n ∧ zs.length = j ∧ sp (gV (x :: vs) zs) H3 Q E
theorem pe_methN {pl : Sem Bool} (he : PE X o ta) (c : Cls X.K C) (hm : Meth X.K C m f) (F : FnOk X.prog X.w X.K X.mg X.base CX k f fd ps sp) (hr : Room k X.A) (hb : KBn X.K fd ps n ks g gV) (hx : Passes CX X E) (ha : PA X (e :: es) t) (hkw : PK X kws tk)
    (hall : (backToKw pos (keywordEach kws X.env)).all (·.1.isSome) = true := by rfl) (hks : (backToKw pos (keywordEach kws X.env)).filterMap (·.1) = ks := by rfl)
    (hst : starEach (e :: es) X.env = (false, eval e X.env) :: starEach es X.env := by rfl)
    (hpl : ((backTo pos (starEach (e :: es) X.env)).any (·.1) || (backToKw pos (keywordEach kws X.env)).any (·.1.isNone)) = false := by rfl)
    (ht : eval (.Call (.Attribute o m apos) (e :: es) kws pos) X.env = (do
      let ov ← eval o X.env
      standAt apos.atName
      let (f, first) ← holding [ov] (getMethod ov m pl)
      callWith pos f first (backTo pos (starEach (e :: es) X.env)) (backToKw pos (keywordEach kws X.env))) := by rfl) :
    PE X (.Call (.Attribute o m apos) (e :: es) kws pos) (tMethN C m n ks.length sp gV E ta t tk) := by
  refine ⟨fun pins s σ H Q I h => ?_⟩
  refine PySem.W.methodCall_KW (pl := pl) (thn (he.run pins s σ H _ I h) fun u s1 ⟨x, H1, I1, rx, a, dx, fs, ex, ea, l, q⟩ => ?_) ht
  subst ex
  obtain rfl : u = Value.ref a := rx
  refine getmeth_ok I1 ea c hm l ?_
  refine PySem.W.callWith_KW (first := [.ref a]) (h₀ := X.base) I.ok.mod.kin hm.kp hall (thn (ha.run pos pins s1 σ H1 _ I1 q) fun us s2 ⟨vs, H2, I2, r, q2⟩ => ?_) hpl hst
  refine thn (hkw.run pos pins s2 σ H2 _ I2 q2) fun ws s3 ⟨zs, H3, I3, rz, l1, l2, q3⟩ => ⟨I3.kIn, ?_⟩
  rw [hks]
  exact run_fnN (us := .ref a :: us) (vs := .ref a :: vs) F hr hb hx I3 (.cons rfl r) rz l1 l2 q3
end
/-- o[i] by the own __getitem__ of o's class -/
def tOwnIx (C : Addr) (sp : Sp) (E : XK) (ta ti : TE) : TE := fun σ H Q => ta σ H fun x H1 => ti σ H1 fun y H2 => ∃ a dx fs, x = .ref a ∧ H2 a = some (.ins C dx fs) ∧ sp [x, y] H2 Q E
theorem pe_ownIx {X : Cx} {CX : CXT} {j : Nat} {C fe : Addr} {fd : FuncData} {ps : List Str} {sp : Sp} {E : XK} {o i : Expr} {pos : Pos} {ta ti : TE} (ho : PE X o ta) (hi : PE X i ti) (F : FnOk X.prog X.w X.K X.mg X.base CX j fe fd ps sp) (at_ : Meth X.K C "__getitem__" fe)
    (hf : PySem.W.fnIn X.K fe = true) (bd : Binds X.K fd ps []) (hx : Passes CX X E) (hr : Room (j + 1) X.A)
    (hsl : ∀ a v, subscripted i true (.ref a) v = runValue (.builtin "lifetime.subscript" ⟨[.ref a, v], []⟩) := by intro _ _; with_unfolding_all rfl) : PE X (.Subscript o i pos) (tOwnIx C sp E ta ti) := by
  refine ⟨fun pins s σ H Q I h => ?_⟩
  refine Subscript_ (thn (ho.run pins s σ H _ I h) fun u s1 ⟨x, H1, I1, rx, q1⟩ => thn (hi.run pins s1 σ H1 _ I1 q1) fun iv s2 ⟨y, H2, I2, ry, a, dx, fs, ex, ea, want⟩ => ?_)
  subst ex
  obtain rfl : u = Value.ref a := rx
  obtain ⟨mA, JA, _⟩ := ins_get I2.hok ea
  obtain ⟨od, JA, _⟩ := JA.look
  obtain ⟨m, hF⟩ := I2.fr
  refine PySem.W.sub_K hF I2.ok.mod.kin JA at_.at_ hf at_.fn ?_ (hsl a iv)
  have many := F.len _ _ _ _ want
  have rr : Vals [V.ref a, y] [Value.ref a, iv] := .cons rfl (.cons ry .nil)
  have bound : BindsTo s2 fd ⟨[.ref a, iv], []⟩ (ps.zip [.ref a, iv]) := by
    have b := bd s2 [.ref a, iv] I2.kIn (by simpa using many)
    simpa using b
  refine wpAny_call (codeAny_mono (F.run X.A.in1 X.stack s2 H2 ⟨[.ref a, iv], []⟩ _ _ _ E hr.in1 (Env0.in1 I2.env0) bound rr want) fun res sz z => ?_)
  match res, z with
  | .error er, z => exact hx pins σ H2 s2 er sz I2 z
  | .ok (.ret w), z => exact I2.after z
  | .ok .next, z => exact False.elim z
  | .ok .brk, z => exact False.elim z
  | .ok .cont, z => exact False.elim z
section
variable {X : Cx}
/-- text * number -/
def rMulS : R2 := fun x y H Q => ∃ (z : Str) (n : Int), x = .str z ∧ y = .int n ∧ z.length ≤ 100 ∧ 0 ≤ n ∧ n ≤ 1000 ∧ Q (.str (Txt.mul z n)) H
theorem op_mulS : OpR X (binaryOp .Mult) rMulS := by
  intro pins s σ H x y u v Q I rx ry h
  obtain ⟨z, n, rfl, rfl, hz, h0, h1, q⟩ := h
  obtain ⟨t, rfl⟩ := rx
  obtain ⟨t2, rfl⟩ := ry
  refine PySem.SB.mul (mulOk_of 100 1000 hz h1 (by omega) (by decide) (by decide)) fun t' k => ?_
  exact ⟨.str _, H, I.tok k, ⟨_, rfl⟩, q⟩
/-- repr of a truth -/
def rReprB : List V → Hp → VK → Prop := fun xs H Q => ∃ b : Bool, xs = [.bl b] ∧ Q (.str (PyData.bool b).shown) H
theorem call_reprB : CallR X (.builtin "repr") rReprB := by
  intro pins s σ H xs us Q I r h
  obtain ⟨b, rfl, q⟩ := h
  obtain ⟨u, rfl, ru⟩ := vals1 r
  obtain rfl : u = Value.bool b := ru
  refine P.repr_of_bool ?_
  exact ⟨.str _, H, I.kept (fun _ _ e => e), ⟨_, rfl⟩, q⟩
end
end SM
set_option Elab.async false
set_option linter.all false
set_option maxRecDepth 100000
set_option maxHeartbeats 2000000
/-! comprehensions over tuples and lists, by the values that they give; those that keep some of the items -/
namespace SM
open PySem PySem.Spec PyProof.Rows L2
variable {K : PySem.W.Frag} {σ : L2.St} {H : Hp}
/-- [.. for .. in a sequence] by values -/
theorem lcTV {tx : TE} {g : TG} {te : TE} {vs : List Nat} {xs rs : List V} {Q : VK} (len : rs.length = xs.length) (hl : xs.length ≤ 1000) (hx : ∀ Q' : VK, (∀ t H', Keep [] H H' → SqT K H' t xs → Q' (.ref t) H') → tx σ H Q')
    (he : ∀ (i : Nat) x r H2, xs[i]? = some x → rs[i]? = some r → Keep [] H H2 → ∀ Q' : VK, (∀ H', Keep [] H2 H' → Q' r H') → g x (wipe σ vs) H2 fun σ2 H3 => wipe σ2 vs = wipe σ vs ∧ te σ2 H3 Q')
    (k : ∀ D H', H D = none → Keep [] H H' → H' D = some (.lst rs) → Q (.ref D) H') : tLc (iTup K tx) g tYes te vs σ H Q := by
  refine hx _ fun t H1 k1 hq => ⟨t, rfl, ⟨xs, hq⟩, fun D hD => ?_⟩
  refine lc_tup (xs := xs) (Qd := fun H' => Q (.ref D) H') (fun i H' => Keep [] H1 H' ∧ H' D = some (.lst (rs.take i))) ⟨Keep.new hD, by rw [List.take_zero]; exact upd_same⟩ ?_ ?_ ?_
  · rintro n H' _ ⟨k2, _⟩
    exact seqT_keep k2 Soft.nil hq
  · rintro n x H' hx' ⟨k2, e2⟩
    have hn : n < xs.length := (List.getElem?_eq_some_iff.mp hx').1
    obtain ⟨r, hr⟩ : ∃ r, rs[n]? = some r := ⟨_, List.getElem?_eq_getElem (show n < rs.length by omega)⟩
    refine he n x r H' hx' hr (k1.trans k2) _ fun H2 k3 => ?_
    refine ⟨_, k3.to e2, ?_, Keep.own (k2.trans k3) hD, ?_⟩
    · rw [List.length_take]
      exact Nat.lt_of_lt_of_le (show min n rs.length < 1001 by omega) (by decide)
    · rw [upd_same, List.take_succ, hr, Option.toList_some]
  · rintro H' ⟨k2, e2⟩
    rw [← len, List.take_length] at e2
    exact k D H' (k1.free (by simp) hD) (k1.trans k2) e2
/-- [x for x in a sequence if ..] -/
theorem lcTP {α : Type} {l : List α} {e : α → V} {p : α → Bool} {j : Nat} {tx : TE} {tt : TT} {Q : VK} (hj : j < σ.length) (hl : l.length ≤ 1000) (hx : ∀ Q' : VK, (∀ t H', Keep [] H H' → SqT K H' t (l.map e) → Q' (.ref t) H') → tx σ H Q')
    (ht : ∀ (i : Nat) a H2, l[i]? = some a → Keep [] H H2 → ∀ Q' : Bool → Hp → Prop, (∀ H', Keep [] H2 H' → Q' (p a) H') → tt ((σ.set j none).set j (some (e a))) H2 Q')
    (k : ∀ D H', H D = none → Keep [] H H' → H' D = some (.lst ((l.filter p).map e)) → Q (.ref D) H') : tLc (iTup K tx) (gName j) tt (tVar j) [j] σ H Q := by
  refine hx _ fun t H1 k1 hq => ⟨t, rfl, ⟨_, hq⟩, fun D hD => ?_⟩
  refine lc_tup (xs := l.map e) (Qd := fun H' => Q (.ref D) H') (fun i H' => Keep [] H1 H' ∧ H' D = some (.lst (((l.take i).filter p).map e))) ⟨Keep.new hD, by rw [List.take_zero]; exact upd_same⟩ ?_ ?_ ?_
  · rintro n H' _ ⟨k2, _⟩
    exact seqT_keep k2 Soft.nil hq
  · rintro n x H' hx' ⟨k2, e2⟩
    rw [List.getElem?_map] at hx'
    cases es : l[n]? with
    | none => rw [es] at hx'; cases hx'
    | some a =>
    rw [es] at hx'
    cases hx'
    have hn : n < l.length := (List.getElem?_eq_some_iff.mp es).1
    refine ⟨by show ((σ.set j none).set j (some (e a))).set j none = σ.set j none; rw [List.set_set, List.set_set], ?_⟩
    refine ht n a H' es (k1.trans k2) _ fun H2 k3 => ?_
    have few : ((l.take n).filter p).length ≤ n := Nat.le_trans (List.length_filter_le _ _) (by rw [List.length_take]; omega)
    cases c : p a with
    | true =>
      rw [if_pos rfl]
      refine ⟨e a, by simp [wipe, hj], _, k3.to e2, ?_, Keep.own (k2.trans k3) hD, ?_⟩
      · rw [List.length_map]
        exact Nat.lt_of_lt_of_le (show _ < 1001 by omega) (by decide)
      · rw [upd_same, List.take_succ, es, Option.toList_some, List.filter_append, List.map_append, List.filter_cons, if_pos c, List.filter_nil]
        rfl
    | false =>
      rw [if_neg Bool.false_ne_true]
      refine ⟨k2.trans k3, ?_⟩
      rw [k3.to e2, List.take_succ, es, Option.toList_some, List.filter_append, List.filter_cons, c, List.filter_nil, if_neg Bool.false_ne_true, List.append_nil]
  · rintro H' ⟨k2, e2⟩
    rw [List.length_map, List.take_length] at e2
    exact k D H' (k1.free (by simp) hD) (k1.trans k2) e2
/-- [e(x) for x in a sequence if ..] -/
theorem lcTM {α : Type} {l : List α} {e e2 : α → V} {p : α → Bool} {j : Nat} {tx te : TE} {tt : TT} {Q : VK} (hj : j < σ.length) (hl : l.length ≤ 1000) (hx : ∀ Q' : VK, (∀ t H', Keep [] H H' → SqT K H' t (l.map e) → Q' (.ref t) H') → tx σ H Q')
    (ht : ∀ (i : Nat) a H2, l[i]? = some a → Keep [] H H2 → ∀ Q' : Bool → Hp → Prop, (∀ H', Keep [] H2 H' → Q' (p a) H') → tt ((σ.set j none).set j (some (e a))) H2 Q')
    (he : ∀ (i : Nat) a H2, l[i]? = some a → p a = true → Keep [] H H2 → ∀ Q' : VK, (∀ H', Keep [] H2 H' → Q' (e2 a) H') → te ((σ.set j none).set j (some (e a))) H2 Q')
    (k : ∀ D H', H D = none → Keep [] H H' → H' D = some (.lst ((l.filter p).map e2)) → Q (.ref D) H') : tLc (iTup K tx) (gName j) tt te [j] σ H Q := by
  refine hx _ fun t H1 k1 hq => ⟨t, rfl, ⟨_, hq⟩, fun D hD => ?_⟩
  refine lc_tup (xs := l.map e) (Qd := fun H' => Q (.ref D) H') (fun i H' => Keep [] H1 H' ∧ H' D = some (.lst (((l.take i).filter p).map e2))) ⟨Keep.new hD, by rw [List.take_zero]; exact upd_same⟩ ?_ ?_ ?_
  · rintro n H' _ ⟨k2, _⟩
    exact seqT_keep k2 Soft.nil hq
  · rintro n x H' hx' ⟨k2, ed⟩
    rw [List.getElem?_map] at hx'
    cases es : l[n]? with
    | none => rw [es] at hx'; cases hx'
    | some a =>
    rw [es] at hx'
    cases hx'
    have hn : n < l.length := (List.getElem?_eq_some_iff.mp es).1
    refine ⟨by show ((σ.set j none).set j (some (e a))).set j none = σ.set j none; rw [List.set_set, List.set_set], ?_⟩
    refine ht n a H' es (k1.trans k2) _ fun H2 k3 => ?_
    have few : ((l.take n).filter p).length ≤ n := Nat.le_trans (List.length_filter_le _ _) (by rw [List.length_take]; omega)
    cases c : p a with
    | true =>
      rw [if_pos rfl]
      refine he n a H2 es c ((k1.trans k2).trans k3) _ fun H3 k4 => ?_
      refine ⟨_, (k3.trans k4).to ed, ?_, Keep.own (k2.trans (k3.trans k4)) hD, ?_⟩
      · rw [List.length_map]
        exact Nat.lt_of_lt_of_le (show _ < 1001 by omega) (by decide)
      · rw [upd_same, List.take_succ, es, Option.toList_some, List.filter_append, List.map_append, List.filter_cons, if_pos c, List.filter_nil]
        rfl
    | false =>
      rw [if_neg Bool.false_ne_true]
      refine ⟨k2.trans k3, ?_⟩
      rw [k3.to ed, List.take_succ, es, Option.toList_some, List.filter_append, List.filter_cons, c, List.filter_nil, if_neg Bool.false_ne_true, List.append_nil]
  · rintro H' ⟨k2, e2⟩
    rw [List.length_map, List.take_length] at e2
    exact k D H' (k1.free (by simp) hD) (k1.trans k2) e2
/-- [.. for .. in a sequence] by values -/
theorem lcLV {tx : TE} {g : TG} {te : TE} {vs : List Nat} {xs rs : List V} {Q : VK} (len : rs.length = xs.length) (hl : xs.length ≤ 1000) (hx : ∀ Q' : VK, (∀ t H', Keep [] H H' → SqL K H' t xs → Q' (.ref t) H') → tx σ H Q')
    (he : ∀ (i : Nat) x r H2, xs[i]? = some x → rs[i]? = some r → Keep [] H H2 → ∀ Q' : VK, (∀ H', Keep [] H2 H' → Q' r H') → g x (wipe σ vs) H2 fun σ2 H3 => wipe σ2 vs = wipe σ vs ∧ te σ2 H3 Q')
    (k : ∀ D H', H D = none → Keep [] H H' → H' D = some (.lst rs) → Q (.ref D) H') : tLc (iList K tx) g tYes te vs σ H Q := by
  refine hx _ fun t H1 k1 hq => ⟨t, rfl, ⟨xs, hq⟩, fun D hD => ?_⟩
  refine lc_list (xs := xs) (Qd := fun H' => Q (.ref D) H') (fun i H' => Keep [] H1 H' ∧ H' D = some (.lst (rs.take i))) ⟨Keep.new hD, by rw [List.take_zero]; exact upd_same⟩ ?_ ?_ ?_
  · rintro n H' _ ⟨k2, _⟩
    exact k2.same.seq hq
  · rintro n x H' hx' ⟨k2, e2⟩
    have hn : n < xs.length := (List.getElem?_eq_some_iff.mp hx').1
    obtain ⟨r, hr⟩ : ∃ r, rs[n]? = some r := ⟨_, List.getElem?_eq_getElem (show n < rs.length by omega)⟩
    refine he n x r H' hx' hr (k1.trans k2) _ fun H2 k3 => ?_
    refine ⟨_, k3.to e2, ?_, Keep.own (k2.trans k3) hD, ?_⟩
    · rw [List.length_take]
      exact Nat.lt_of_lt_of_le (show min n rs.length < 1001 by omega) (by decide)
    · rw [upd_same, List.take_succ, hr, Option.toList_some]
  · rintro H' ⟨k2, e2⟩
    rw [← len, List.take_length] at e2
    exact k D H' (k1.free (by simp) hD) (k1.trans k2) e2
/-- [x for x in a sequence if ..] -/
theorem lcLP {α : Type} {l : List α} {e : α → V} {p : α → Bool} {j : Nat} {tx : TE} {tt : TT} {Q : VK} (hj : j < σ.length) (hl : l.length ≤ 1000) (hx : ∀ Q' : VK, (∀ t H', Keep [] H H' → SqL K H' t (l.map e) → Q' (.ref t) H') → tx σ H Q')
    (ht : ∀ (i : Nat) a H2, l[i]? = some a → Keep [] H H2 → ∀ Q' : Bool → Hp → Prop, (∀ H', Keep [] H2 H' → Q' (p a) H') → tt ((σ.set j none).set j (some (e a))) H2 Q')
    (k : ∀ D H', H D = none → Keep [] H H' → H' D = some (.lst ((l.filter p).map e)) → Q (.ref D) H') : tLc (iList K tx) (gName j) tt (tVar j) [j] σ H Q := by
  refine hx _ fun t H1 k1 hq => ⟨t, rfl, ⟨_, hq⟩, fun D hD => ?_⟩
  refine lc_list (xs := l.map e) (Qd := fun H' => Q (.ref D) H') (fun i H' => Keep [] H1 H' ∧ H' D = some (.lst (((l.take i).filter p).map e))) ⟨Keep.new hD, by rw [List.take_zero]; exact upd_same⟩ ?_ ?_ ?_
  · rintro n H' _ ⟨k2, _⟩
    exact k2.same.seq hq
  · rintro n x H' hx' ⟨k2, e2⟩
    rw [List.getElem?_map] at hx'
    cases es : l[n]? with
    | none => rw [es] at hx'; cases hx'
    | some a =>
    rw [es] at hx'
    cases hx'
    have hn : n < l.length := (List.getElem?_eq_some_iff.mp es).1
    refine ⟨by show ((σ.set j none).set j (some (e a))).set j none = σ.set j none; rw [List.set_set, List.set_set], ?_⟩
    refine ht n a H' es (k1.trans k2) _ fun H2 k3 => ?_
    have few : ((l.take n).filter p).length ≤ n := Nat.le_trans (List.length_filter_le _ _) (by rw [List.length_take]; omega)
    cases c : p a with
    | true =>
      rw [if_pos rfl]
      refine ⟨e a, by simp [wipe, hj], _, k3.to e2, ?_, Keep.own (k2.trans k3) hD, ?_⟩
      · rw [List.length_map]
        exact Nat.lt_of_lt_of_le (show _ < 1001 by omega) (by decide)
      · rw [upd_same, List.take_succ, es, Option.toList_some, List.filter_append, List.map_append, List.filter_cons, if_pos c, List.filter_nil]
        rfl
    | false =>
      rw [if_neg Bool.false_ne_true]
      refine ⟨k2.trans k3, ?_⟩
      rw [k3.to e2, List.take_succ, es, Option.toList_some, List.filter_append, List.filter_cons, c, List.filter_nil, if_neg Bool.false_ne_true, List.append_nil]
  · rintro H' ⟨k2, e2⟩
    rw [List.length_map, List.take_length] at e2
    exact k D H' (k1.free (by simp) hD) (k1.trans k2) e2
/-- [e(x) for x in a sequence if ..] -/
theorem lcLM {α : Type} {l : List α} {e e2 : α → V} {p : α → Bool} {j : Nat} {tx te : TE} {tt : TT} {Q : VK} (hj : j < σ.length) (hl : l.length ≤ 1000) (hx : ∀ Q' : VK, (∀ t H', Keep [] H H' → SqL K H' t (l.map e) → Q' (.ref t) H') → tx σ H Q')
    (ht : ∀ (i : Nat) a H2, l[i]? = some a → Keep [] H H2 → ∀ Q' : Bool → Hp → Prop, (∀ H', Keep [] H2 H' → Q' (p a) H') → tt ((σ.set j none).set j (some (e a))) H2 Q')
    (he : ∀ (i : Nat) a H2, l[i]? = some a → p a = true → Keep [] H H2 → ∀ Q' : VK, (∀ H', Keep [] H2 H' → Q' (e2 a) H') → te ((σ.set j none).set j (some (e a))) H2 Q')
    (k : ∀ D H', H D = none → Keep [] H H' → H' D = some (.lst ((l.filter p).map e2)) → Q (.ref D) H') : tLc (iList K tx) (gName j) tt te [j] σ H Q := by
  refine hx _ fun t H1 k1 hq => ⟨t, rfl, ⟨_, hq⟩, fun D hD => ?_⟩
  refine lc_list (xs := l.map e) (Qd := fun H' => Q (.ref D) H') (fun i H' => Keep [] H1 H' ∧ H' D = some (.lst (((l.take i).filter p).map e2))) ⟨Keep.new hD, by rw [List.take_zero]; exact upd_same⟩ ?_ ?_ ?_
  · rintro n H' _ ⟨k2, _⟩
    exact k2.same.seq hq
  · rintro n x H' hx' ⟨k2, ed⟩
    rw [List.getElem?_map] at hx'
    cases es : l[n]? with
    | none => rw [es] at hx'; cases hx'
    | some a =>
    rw [es] at hx'
    cases hx'
    have hn : n < l.length := (List.getElem?_eq_some_iff.mp es).1
    refine ⟨by show ((σ.set j none).set j (some (e a))).set j none = σ.set j none; rw [List.set_set, List.set_set], ?_⟩
    refine ht n a H' es (k1.trans k2) _ fun H2 k3 => ?_
    have few : ((l.take n).filter p).length ≤ n := Nat.le_trans (List.length_filter_le _ _) (by rw [List.length_take]; omega)
    cases c : p a with
    | true =>
      rw [if_pos rfl]
      refine he n a H2 es c ((k1.trans k2).trans k3) _ fun H3 k4 => ?_
      refine ⟨_, (k3.trans k4).to ed, ?_, Keep.own (k2.trans (k3.trans k4)) hD, ?_⟩
      · rw [List.length_map]
        exact Nat.lt_of_lt_of_le (show _ < 1001 by omega) (by decide)
      · rw [upd_same, List.take_succ, es, Option.toList_some, List.filter_append, List.map_append, List.filter_cons, if_pos c, List.filter_nil]
        rfl
    | false =>
      rw [if_neg Bool.false_ne_true]
      refine ⟨k2.trans k3, ?_⟩
      rw [k3.to ed, List.take_succ, es, Option.toList_some, List.filter_append, List.filter_cons, c, List.filter_nil, if_neg Bool.false_ne_true, List.append_nil]
  · rintro H' ⟨k2, e2⟩
    rw [List.length_map, List.take_length] at e2
    exact k D H' (k1.free (by simp) hD) (k1.trans k2) e2
end SM
set_option Elab.async false
set_option linter.all false
set_option maxRecDepth 100000
set_option maxHeartbeats 2000000
/-! readings brought to form, one step each -/
namespace SM
open PySem PySem.Spec PyProof.Rows L2
theorem rx_if {c : TT} {a b : TS} {D : Ends} {σ : L2.St} {H : Hp} (h : c σ H fun k H1 => if k = true then a D σ H1 else b D σ H1) : tIfS c a b D σ H := h
theorem rx_ife {c : TT} {a b : TE} {σ : L2.St} {H : Hp} {Q : VK} (h : c σ H fun k H1 => if k = true then a σ H1 Q else b σ H1 Q) : tIf c a b σ H Q := h
theorem rx_tB {te : TE} {σ : L2.St} {H : Hp} {Q : Bool → Hp → Prop} (h : te σ H fun x H1 => ∃ k, x = .bl k ∧ Q k H1) : tB te σ H Q := h
theorem rx_tTest {te : TE} {σ : L2.St} {H : Hp} {Q : Bool → Hp → Prop} (h : te σ H fun x H1 => ∃ k, x = .bl k ∧ Q k H1) : tTest te σ H Q := h
theorem rx_and {t u : TT} {σ : L2.St} {H : Hp} {Q : Bool → Hp → Prop} (h : t σ H fun c H1 => if c = true then u σ H1 Q else Q false H1) : tAnd t u σ H Q := h
theorem rx_or {t u : TT} {σ : L2.St} {H : Hp} {Q : Bool → Hp → Prop} (h : t σ H fun c H1 => if c = true then Q true H1 else u σ H1 Q) : tOr t u σ H Q := h
theorem rx_not {t : TT} {σ : L2.St} {H : Hp} {Q : Bool → Hp → Prop} (h : t σ H fun c H1 => Q (!c) H1) : tNot t σ H Q := h
theorem rx_asg {te : TE} {g : TG} {D : Ends} {σ : L2.St} {H : Hp} (h : te σ H fun v H1 => g v σ H1 D.nx) : tAsg te g D σ H := h
theorem rx_ret {te : TE} {D : Ends} {σ : L2.St} {H : Hp} (h : te σ H D.rt) : tRet te D σ H := h
theorem rx_op {r : R2} {ta tb : TE} {σ : L2.St} {H : Hp} {Q : VK} (h : ta σ H fun x H1 => tb σ H1 fun y H2 => r x y H2 Q) : tOp r ta tb σ H Q := h
theorem rx_cb1 {r : List V → Hp → VK → Prop} {te : TE} {σ : L2.St} {H : Hp} {Q : VK} (h : te σ H fun v H1 => r [v] H1 Q) : tCB r (tCons te tNil) σ H Q := h
theorem rx_cb2 {r : List V → Hp → VK → Prop} {ta tb : TE} {σ : L2.St} {H : Hp} {Q : VK} (h : ta σ H fun v H1 => tb σ H1 fun w H2 => r [v, w] H2 Q) : tCB r (tCons ta (tCons tb tNil)) σ H Q := h
theorem rx_cons {te : TE} {ta : TA} {σ : L2.St} {H : Hp} {Q : List V → Hp → Prop} (h : te σ H fun v H1 => ta σ H1 fun vs H2 => Q (v :: vs) H2) : tCons te ta σ H Q := h
theorem rx_nil {σ : L2.St} {H : Hp} {Q : List V → Hp → Prop} (h : Q [] H) : tNil σ H Q := h
theorem rx_c {v : V} {σ : L2.St} {H : Hp} {Q : VK} (h : Q v H) : tC v σ H Q := h
theorem rx_var {i : Nat} {v : V} {σ : L2.St} {H : Hp} {Q : VK} (hi : σ[i]? = some (some v)) (h : Q v H) : tVar i σ H Q := ⟨v, hi, h⟩
theorem rx_call {sp : Sp} {dvs : List V} {E : XK} {t : TA} {σ : L2.St} {H : Hp} {Q : VK} (h : t σ H fun vs H1 => sp (vs ++ dvs) H1 Q E) : tCall sp dvs E t σ H Q := h
theorem rx_tup {ta : TA} {σ : L2.St} {H : Hp} {Q : VK} (h : ta σ H fun vs H1 => vs.length ≤ sizeLine ∧ ∀ p, H1 p = none → Q (.ref p) (upd H1 p (.tup vs))) : tTup ta σ H Q := h
theorem rx_lst {ta : TA} {σ : L2.St} {H : Hp} {Q : VK} (h : ta σ H fun vs H1 => vs.length ≤ sizeLine ∧ ∀ p, H1 p = none → Q (.ref p) (upd H1 p (.lst vs))) : tLst ta σ H Q := h
theorem rx_yes {σ : L2.St} {H : Hp} {Q : Bool → Hp → Prop} (h : Q true H) : tYes σ H Q := h
theorem rx_dget {td ty : TE} {σ : L2.St} {H : Hp} {Q : VK} (h : td σ H fun x H1 => ty σ H1 fun y H2 => ∃ a v, x = .ref a ∧ DGet H2 a y (some v) ∧ Q v H2) : tDGet td ty σ H Q := h
end SM
set_option Elab.async false
set_option linter.all false
set_option maxRecDepth 100000
set_option maxHeartbeats 2000000
/-! == and != of two dicts with the same keys, of which the values are None, truths or texts -/
namespace SM
open PySem PySem.Spec PyProof.Rows L2
def nsb : V → Bool
  | .non => true | .bl _ => true | .str _ => true
  | _ => false
theorem castE {A : Around} {s : Shared} {u v : Value} {b b' : Bool} (h : SeqAt.EqAt A s u v b) (e : b = b') : SeqAt.EqAt A s u v b' := e ▸ h
theorem eqAt_nsb {A : Around} {s : Shared} {x y : V} {u v : Value} (rx : RelV x u) (ry : RelV y v) (hx : nsb x = true) (hy : nsb y = true) : SeqAt.EqAt A s u v (decide (x = y)) := by
  cases x with
  | non =>
    cases (show u = Value.none from rx)
    cases y with
    | non => cases (show v = Value.none from ry); exact castE (SeqAt.EqAt.same _) (by simp)
    | bl j => cases (show v = Value.bool j from ry); exact castE (SeqAt.EqAt.none_bool j) (by simp)
    | str j => obtain ⟨t', rfl⟩ := (show ∃ t, v = Value.str j t from ry); exact castE (SeqAt.EqAt.none_str j t') (by simp)
    | _ => exact absurd (show false = true from hy) Bool.false_ne_true
  | bl i =>
    cases (show u = Value.bool i from rx)
    cases y with
    | non => cases (show v = Value.none from ry); exact castE (SeqAt.EqAt.bool_none i) (by simp)
    | bl j => cases (show v = Value.bool j from ry); exact castE (SeqAt.EqAt.bool_bool i j) (by cases i <;> cases j <;> rfl)
    | str j => obtain ⟨t', rfl⟩ := (show ∃ t, v = Value.str j t from ry); exact castE (SeqAt.EqAt.bool_str i j t') (by simp)
    | _ => exact absurd (show false = true from hy) Bool.false_ne_true
  | str i =>
    obtain ⟨t, rfl⟩ := (show ∃ t, u = Value.str i t from rx)
    cases y with
    | non => cases (show v = Value.none from ry); exact castE (SeqAt.EqAt.str_none i t) (by simp)
    | bl j => cases (show v = Value.bool j from ry); exact castE (SeqAt.EqAt.str_bool i t j) (by simp)
    | str j =>
      obtain ⟨t', rfl⟩ := (show ∃ t, v = Value.str j t from ry)
      refine castE (SeqAt.EqAt.str_str i t j t') ?_
      by_cases e : i = j
      · rw [e, beq_self_eq_true, decide_eq_true rfl]
      · rw [beq_eq_false_iff_ne.mpr e, decide_eq_false (fun z => e (V.str.inj z))]
    | _ => exact absurd (show false = true from hy) Bool.false_ne_true
  | _ => exact absurd (show false = true from hx) Bool.false_ne_true
section
variable {κ : Type} [DecidableEq κ]
theorem hits_dec {A : Around} {s : Shared} {kvs : List (κ × V)} {vb : List (κ × Value)} (rb : KV kvs vb) {ks : List (κ × V)} {va : List (κ × Value)} (ra : KV ks va) :
    (∀ p ∈ ks, ∃ w, valV kvs p.1 = some w ∧ nsb p.2 = true ∧ nsb w = true) → PySem.W.KeqHits A s vb va (ks.all fun p => decide (valV kvs p.1 = some p.2)) := by
  unfold KV at ra
  induction ra with
  | nil => intro _; exact .nil
  | @cons p q ps qs h t ih =>
    intro hp
    obtain ⟨h1, h2⟩ := h
    obtain ⟨w, e, f, g⟩ := hp p List.mem_cons_self
    have rr : RelO (some w) (valueAt vb p.1) := by rw [← e]; exact rb.val p.1
    obtain ⟨y, hy, ry⟩ := rr.some_of
    obtain ⟨k, v⟩ := q
    have h1' : p.1 = k := h1
    rw [h1'] at hy
    rw [List.all_cons]
    refine .hit hy (castE (eqAt_nsb h2 ry f g) ?_) (ih fun p' hm => hp p' (List.mem_cons_of_mem _ hm))
    rw [e]
    exact decide_eq_decide.mpr ⟨fun z => by rw [z], fun z => (Option.some.inj z).symm⟩
end
section
variable {X : Cx}
def rDicts (neg : Bool) : R2 := fun x y H Q => ∃ a b ks ls, x = .ref a ∧ y = .ref b ∧ H a = some (.dK ks) ∧ H b = some (.dK ls) ∧ ks.length = ls.length ∧ (∀ p ∈ ks, ∃ w, valV ls p.1 = some w ∧ nsb p.2 = true ∧ nsb w = true) ∧ Q (.bl (xor neg (ks.all fun p => decide (valV ls p.1 = some p.2)))) H
theorem op_eqDicts (hu : X.A.units < cLine) : OpR X (compareOp .Eq) (rDicts false) := by
  intro pins s σ H x y v u Q I rx ry h
  obtain ⟨a, b, ks, ls, rfl, rfl, ea, eb, hlen, hp, q⟩ := h
  obtain rfl : v = Value.ref a := rx
  obtain rfl : u = Value.ref b := ry
  obtain ⟨_, ya, va, ra, da⟩ := (show ObjOk X.prog X.w H s.heap a (.dK ks) from I.hok a _ ea)
  obtain ⟨_, yb, vb, rb, db⟩ := (show ObjOk X.prog X.w H s.heap b (.dK ls) from I.hok b _ eb)
  have hl : va.length = vb.length := by rw [← ra.length, ← rb.length]; exact hlen
  exact PySem.W.keq_eq (knd := mixKind X.prog X.w) ya yb da db hu (fun _ => hits_dec rb ra hp) (fin_bl I q (by simp [hl]))
theorem op_neDicts (hu : X.A.units < cLine) : OpR X (compareOp .NotEq) (rDicts true) := by
  intro pins s σ H x y v u Q I rx ry h
  obtain ⟨a, b, ks, ls, rfl, rfl, ea, eb, hlen, hp, q⟩ := h
  obtain rfl : v = Value.ref a := rx
  obtain rfl : u = Value.ref b := ry
  obtain ⟨_, ya, va, ra, da⟩ := (show ObjOk X.prog X.w H s.heap a (.dK ks) from I.hok a _ ea)
  obtain ⟨_, yb, vb, rb, db⟩ := (show ObjOk X.prog X.w H s.heap b (.dK ls) from I.hok b _ eb)
  have hl : va.length = vb.length := by rw [← ra.length, ← rb.length]; exact hlen
  exact PySem.W.keq_ne (knd := mixKind X.prog X.w) ya yb da db hu (fun _ => hits_dec rb ra hp) (fin_bl I q (by simp [hl]))
end
end SM
set_option Elab.async false
set_option linter.all false
set_option maxRecDepth 100000
set_option maxHeartbeats 4000000
namespace La
open PySem PySem.Spec PyProof.Rows L2 SM
/-! ### what of the run is asked besides -/
def errs01 : List (Str × Str) := [("BadRegisters", "value"), ("BadLines", "value"), ("BadLine", "position")]
def words01 : List Str := ["here", "new", "nothing", "is", "not", "from", "or", "ask", "do", "otherwise"]
def exA0 (K : PySem.W.Frag) : Bool := (SM.kTup? K (He.ga K "WORDS_OF_TEXTS") words01 && SM.kTup? K (He.ga K "PLACES") ["beside", "elder"]) && errs01.all fun e => SM.err? K (He.ga K e.1) (He.ma K (He.ga K e.1) "__init__") && He.eqO (PySem.W.findIn K (.ref (He.ga K e.1)) e.2) (some none) && L2.xfB K (He.ga K e.1)
def tys02 : List String := ["NoneType", "int", "str", "tuple", "list", "dict", "bool"]
def clsM (K : PySem.W.Frag) (c : Str) : Bool :=
  (He.eqO (PySem.W.findIn K (.ref (He.ga K c)) "__class__") (some (some (.builtin "object.__class__"))) && (He.eqO (PySem.W.specialIn K (.builtin "object.__class__") "__get__") (some (some (.builtin "getset_descriptor.__get__"))) && (PySem.W.takesIn K (.builtin "object.__class__") == some true && PySem.W.mroIn K (He.ga K c) (.type "object") == some true))) &&
  ((He.eqO (PySem.W.findIn K (.ref (He.ga K c)) "__eq__") (some (some (.ref (He.ma K (He.ga K c) "__eq__")))) && PySem.W.isFn K (.ref (He.ma K (He.ga K c) "__eq__"))) && tys02.all fun n => PySem.W.kitOne K (.type n) (.ref (He.ga K c)) == some false && PySem.W.subIn K (.type n) (.ref (He.ga K c)) == some false)
def ruleM (K : PySem.W.Frag) : Bool := He.eqO (PySem.W.findIn K (.ref (He.ga K "Rule")) "__ne__") (some (some (.builtin "object.__ne__"))) && tys02.all fun n => PySem.W.subIn K (.ref (He.ga K "Rule")) (.type n) == some false
def exM (K : PySem.W.Frag) : Bool := (clsM K "Rule" && clsM K "File") && (((PySem.W.kitOne K (.ref (He.ga K "File")) (.ref (He.ga K "Rule")) == some false && PySem.W.kitOne K (.ref (He.ga K "Rule")) (.ref (He.ga K "File")) == some false) && (PySem.W.notFirst K (He.ga K "Rule") (.ref (He.ga K "File")) && PySem.W.notFirst K (He.ga K "File") (.ref (He.ga K "Rule")))) && ruleM K)

/-- File's own != -/
def fileM (K : PySem.W.Frag) : Bool := He.eqO (PySem.W.findIn K (.ref (He.ga K "File")) "__ne__") (some (some (.builtin "object.__ne__")))
def exM7 (K : PySem.W.Frag) : Bool := exM K && fileM K
def top (i : Nat) : Stmt := PySem.Challenge.pw_stillmine_k07_files_compared_and_forked.main.body.getD i (.Pass ⟨0, 0, 0, 0⟩)
def d_BadRegisters___init__ : He.DefD := ⟨("BadRegisters", some "__init__"), "__init__", "BadRegisters.__init__", defArgs (inClass (top 3) 0), defBody (inClass (top 3) 0), defScope (inClass (top 3) 0), [], []⟩
def d_BadLines___init__ : He.DefD := ⟨("BadLines", some "__init__"), "__init__", "BadLines.__init__", defArgs (inClass (top 4) 0), defBody (inClass (top 4) 0), defScope (inClass (top 4) 0), [], []⟩
def d_BadLine___init__ : He.DefD := ⟨("BadLine", some "__init__"), "__init__", "BadLine.__init__", defArgs (inClass (top 5) 0), defBody (inClass (top 5) 0), defScope (inClass (top 5) 0), [], []⟩
def d_first_state : He.DefD := ⟨("first_state", none), "first_state", "first_state", defArgs (top 13), defBody (top 13), defScope (top 13), [], []⟩
def d_edited : He.DefD := ⟨("edited", none), "edited", "edited", defArgs (top 14), defBody (top 14), defScope (top 14), [], []⟩
def d_Arrival___init__ : He.DefD := ⟨("Arrival", some "__init__"), "__init__", "Arrival.__init__", defArgs (inClass (top 15) 0), defBody (inClass (top 15) 0), defScope (inClass (top 15) 0), [], []⟩
def d_Arrival_steps : He.DefD := ⟨("Arrival", some "steps"), "steps", "Arrival.steps", defArgs (inClass (top 15) 2), defBody (inClass (top 15) 2), defScope (inClass (top 15) 2), [], []⟩
def d_Arrival_point : He.DefD := ⟨("Arrival", some "point"), "point", "Arrival.point", defArgs (inClass (top 15) 4), defBody (inClass (top 15) 4), defScope (inClass (top 15) 4), [], []⟩
def d_Arrival_outcome : He.DefD := ⟨("Arrival", some "outcome"), "outcome", "Arrival.outcome", defArgs (inClass (top 15) 5), defBody (inClass (top 15) 5), defScope (inClass (top 15) 5), [], []⟩
def d_Arrival__question : He.DefD := ⟨("Arrival", some "_question"), "_question", "Arrival._question", defArgs (inClass (top 15) 6), defBody (inClass (top 15) 6), defScope (inClass (top 15) 6), [], []⟩
def d_line_taken : He.DefD := ⟨("line_taken", none), "line_taken", "line_taken", defArgs (top 16), defBody (top 16), defScope (top 16), [], []⟩
def d_done : He.DefD := ⟨("done", none), "done", "done", defArgs (top 17), defBody (top 17), defScope (top 17), [], []⟩
def d_is_needless : He.DefD := ⟨("is_needless", none), "is_needless", "is_needless", defArgs (top 18), defBody (top 18), defScope (top 18), [], []⟩
def d_harm_of : He.DefD := ⟨("harm_of", none), "harm_of", "harm_of", defArgs (top 19), defBody (top 19), defScope (top 19), [], []⟩
def d_remains_of : He.DefD := ⟨("remains_of", none), "remains_of", "remains_of", defArgs (top 20), defBody (top 20), defScope (top 20), [], []⟩
def d_File___init__ : He.DefD := ⟨("File", some "__init__"), "__init__", "File.__init__", defArgs (inClass (top 22) 0), defBody (inClass (top 22) 0), defScope (inClass (top 22) 0), [], []⟩
def d_File___getitem__ : He.DefD := ⟨("File", some "__getitem__"), "__getitem__", "File.__getitem__", defArgs (inClass (top 22) 7), defBody (inClass (top 22) 7), defScope (inClass (top 22) 7), [], []⟩
def d_File___eq__ : He.DefD := ⟨("File", some "__eq__"), "__eq__", "File.__eq__", defArgs (inClass (top 22) 9), defBody (inClass (top 22) 9), defScope (inClass (top 22) 9), [], []⟩
def d_File_edit : He.DefD := ⟨("File", some "edit"), "edit", "File.edit", defArgs (inClass (top 22) 10), defBody (inClass (top 22) 10), defScope (inClass (top 22) 10), [], []⟩
def d_File_upgrade : He.DefD := ⟨("File", some "upgrade"), "upgrade", "File.upgrade", defArgs (inClass (top 22) 11), defBody (inClass (top 22) 11), defScope (inClass (top 22) 11), [], [("answer", .non), ("stop", .non)]⟩
def d_File_renamed : He.DefD := ⟨("File", some "renamed"), "renamed", "File.renamed", defArgs (inClass (top 22) 12), defBody (inClass (top 22) 12), defScope (inClass (top 22) 12), [], [("answer", .non), ("stop", .non)]⟩
def d_File__receive : He.DefD := ⟨("File", some "_receive"), "_receive", "File._receive", defArgs (inClass (top 22) 13), defBody (inClass (top 22) 13), defScope (inClass (top 22) 13), [], []⟩
def d_File_fork : He.DefD := ⟨("File", some "fork"), "fork", "File.fork", defArgs (inClass (top 22) 14), defBody (inClass (top 22) 14), defScope (inClass (top 22) 14), [], []⟩
def d_is_content : He.DefD := ⟨("is_content", none), "is_content", "is_content", defArgs (top 23), defBody (top 23), defScope (top 23), [], []⟩
def d_is_text : He.DefD := ⟨("is_text", none), "is_text", "is_text", defArgs (top 24), defBody (top 24), defScope (top 24), [], []⟩
def d_is_index : He.DefD := ⟨("is_index", none), "is_index", "is_index", defArgs (top 25), defBody (top 25), defScope (top 25), [], []⟩
def d_refuse_bad_arrival : He.DefD := ⟨("refuse_bad_arrival", none), "refuse_bad_arrival", "refuse_bad_arrival", defArgs (top 26), defBody (top 26), defScope (top 26), [], []⟩
def d_Plan___init__ : He.DefD := ⟨("Plan", some "__init__"), "__init__", "Plan.__init__", defArgs (inClass (top 28) 0), defBody (inClass (top 28) 0), defScope (inClass (top 28) 0), [], []⟩
def d_choice_of : He.DefD := ⟨("choice_of", none), "choice_of", "choice_of", defArgs (top 29), defBody (top 29), defScope (top 29), [], []⟩
def d_Rule___init__ : He.DefD := ⟨("Rule", some "__init__"), "__init__", "Rule.__init__", defArgs (inClass (top 33) 0), defBody (inClass (top 33) 0), defScope (inClass (top 33) 0), [], []⟩
def d_Rule_asks : He.DefD := ⟨("Rule", some "asks"), "asks", "Rule.asks", defArgs (inClass (top 33) 5), defBody (inClass (top 33) 5), defScope (inClass (top 33) 5), [], []⟩
def d_Rule___eq__ : He.DefD := ⟨("Rule", some "__eq__"), "__eq__", "Rule.__eq__", defArgs (inClass (top 33) 6), defBody (inClass (top 33) 6), defScope (inClass (top 33) 6), [], []⟩
def d_is_word : He.DefD := ⟨("is_word", none), "is_word", "is_word", defArgs (top 34), defBody (top 34), defScope (top 34), [], []⟩
def d_are_registers : He.DefD := ⟨("are_registers", none), "are_registers", "are_registers", defArgs (top 35), defBody (top 35), defScope (top 35), [], []⟩
def d_refuse_bad_lines : He.DefD := ⟨("refuse_bad_lines", none), "refuse_bad_lines", "refuse_bad_lines", defArgs (top 36), defBody (top 36), defScope (top 36), [], []⟩
def d_is_line : He.DefD := ⟨("is_line", none), "is_line", "is_line", defArgs (top 37), defBody (top 37), defScope (top 37), [], []⟩
def d_are_at_most_four : He.DefD := ⟨("are_at_most_four", none), "are_at_most_four", "are_at_most_four", defArgs (top 38), defBody (top 38), defScope (top 38), [], []⟩
def d_is_test : He.DefD := ⟨("is_test", none), "is_test", "is_test", defArgs (top 39), defBody (top 39), defScope (top 39), [], []⟩
def d_are_steps : He.DefD := ⟨("are_steps", none), "are_steps", "are_steps", defArgs (top 40), defBody (top 40), defScope (top 40), [], []⟩
def d_is_step : He.DefD := ⟨("is_step", none), "is_step", "is_step", defArgs (top 41), defBody (top 41), defScope (top 41), [], []⟩
def d__law_source : He.DefD := ⟨("_law_source", none), "_law_source", "_law_source", defArgs (top 43), defBody (top 43), defScope (top 43), [], []⟩
def d__law_draw : He.DefD := ⟨("_law_draw", none), "_law_draw", "_law_draw", defArgs (top 44), defBody (top 44), defScope (top 44), [], []⟩
def d__law_pick : He.DefD := ⟨("_law_pick", none), "_law_pick", "_law_pick", defArgs (top 45), defBody (top 45), defScope (top 45), [], []⟩
def d__law_mixed : He.DefD := ⟨("_law_mixed", none), "_law_mixed", "_law_mixed", defArgs (top 46), defBody (top 46), defScope (top 46), [], []⟩
def d__law_steps : He.DefD := ⟨("_law_steps", none), "_law_steps", "_law_steps", defArgs (top 47), defBody (top 47), defScope (top 47), [], []⟩
def d__law_tests : He.DefD := ⟨("_law_tests", none), "_law_tests", "_law_tests", defArgs (top 48), defBody (top 48), defScope (top 48), [], []⟩
def d__law_good : He.DefD := ⟨("_law_good", none), "_law_good", "_law_good", defArgs (top 49), defBody (top 49), defScope (top 49), [], []⟩
def d__law_noted_as : He.DefD := ⟨("_law_noted_as", none), "_law_noted_as", "_law_noted_as", defArgs (top 50), defBody (top 50), defScope (top 50), [], []⟩
def d__law_plan : He.DefD := ⟨("_law_plan", none), "_law_plan", "_law_plan", defArgs (top 51), defBody (top 51), defScope (top 51), [], []⟩
def d__law_rule : He.DefD := ⟨("_law_rule", none), "_law_rule", "_law_rule", defArgs (top 52), defBody (top 52), defScope (top 52), [], []⟩
def d__law_new : He.DefD := ⟨("_law_new", none), "_law_new", "_law_new", defArgs (top 53), defBody (top 53), defScope (top 53), [], []⟩
def d__law_taken : He.DefD := ⟨("_law_taken", none), "_law_taken", "_law_taken", defArgs (top 54), defBody (top 54), defScope (top 54), [], []⟩
def d__law_edited : He.DefD := ⟨("_law_edited", none), "_law_edited", "_law_edited", defArgs (top 55), defBody (top 55), defScope (top 55), [], []⟩
def d__law_held : He.DefD := ⟨("_law_held", none), "_law_held", "_law_held", defArgs (top 56), defBody (top 56), defScope (top 56), [], []⟩
def d__law_list : He.DefD := ⟨("_law_list", none), "_law_list", "_law_list", defArgs (top 57), defBody (top 57), defScope (top 57), [], []⟩
def d__law_is_asked : He.DefD := ⟨("_law_is_asked", none), "_law_is_asked", "_law_is_asked", defArgs (top 58), defBody (top 58), defScope (top 58), [], []⟩
def d__law_answered : He.DefD := ⟨("_law_answered", none), "_law_answered", "_law_answered", defArgs (top 59), defBody (top 59), defScope (top 59), [], []⟩
def d__law_brought : He.DefD := ⟨("_law_brought", none), "_law_brought", "_law_brought", defArgs (top 60), defBody (top 60), defScope (top 60), [], []⟩
def d__law_ended : He.DefD := ⟨("_law_ended", none), "_law_ended", "_law_ended", defArgs (top 61), defBody (top 61), defScope (top 61), [], []⟩
def d__law_texts : He.DefD := ⟨("_law_texts", none), "_law_texts", "_law_texts", defArgs (top 62), defBody (top 62), defScope (top 62), [], []⟩
def d__law_deed : He.DefD := ⟨("_law_deed", none), "_law_deed", "_law_deed", defArgs (top 63), defBody (top 63), defScope (top 63), [], []⟩
def d__law_behind : He.DefD := ⟨("_law_behind", none), "_law_behind", "_law_behind", defArgs (top 64), defBody (top 64), defScope (top 64), [], []⟩
def d__law_told : He.DefD := ⟨("_law_told", none), "_law_told", "_law_told", defArgs (top 65), defBody (top 65), defScope (top 65), [], []⟩
def d__law_file_right : He.DefD := ⟨("_law_file_right", none), "_law_file_right", "_law_file_right", defArgs (top 66), defBody (top 66), defScope (top 66), [], []⟩
def d__law_made : He.DefD := ⟨("_law_made", none), "_law_made", "_law_made", defArgs (top 67), defBody (top 67), defScope (top 67), [], []⟩
def d__law_unlike : He.DefD := ⟨("_law_unlike", none), "_law_unlike", "_law_unlike", defArgs (top 68), defBody (top 68), defScope (top 68), [], []⟩
def d_law : He.DefD := ⟨("law", none), "law", "law", defArgs (top 69), defBody (top 69), defScope (top 69), [], []⟩
def fns : List He.DefD := [d_BadRegisters___init__, d_BadLines___init__, d_BadLine___init__, d_first_state, d_edited, d_Arrival___init__, d_Arrival_steps, d_Arrival_point, d_Arrival_outcome, d_Arrival__question, d_line_taken, d_done, d_is_needless, d_harm_of, d_remains_of, d_File___init__, d_File___getitem__, d_File___eq__, d_File_edit, d_File_upgrade, d_File_renamed, d_File__receive, d_File_fork, d_is_content, d_is_text, d_is_index, d_refuse_bad_arrival, d_Plan___init__, d_choice_of, d_Rule___init__, d_Rule_asks, d_Rule___eq__, d_is_word, d_are_registers, d_refuse_bad_lines, d_is_line, d_are_at_most_four, d_is_test, d_are_steps, d_is_step, d__law_source, d__law_draw, d__law_pick, d__law_mixed, d__law_steps, d__law_tests, d__law_good, d__law_noted_as, d__law_plan, d__law_rule, d__law_new, d__law_taken, d__law_edited, d__law_held, d__law_list, d__law_is_asked, d__law_answered, d__law_brought, d__law_ended, d__law_texts, d__law_deed, d__law_behind, d__law_told, d__law_file_right, d__law_made, d__law_unlike, d_law]
def fas : List He.Fa := [.glo "_wall", .glo "UpgradeError", .glo "BadRegisters", .glo "BadLines", .glo "BadLine", .glo "BadContent", .glo "StillAmid", .glo "Unanswered", .glo "BadAnswer", .glo "BadStop", .glo "NoPlace", .glo "first_state", .glo "edited", .glo "Arrival", .glo "line_taken", .glo "done", .glo "is_needless", .glo "harm_of", .glo "remains_of", .glo "File", .glo "is_content", .glo "is_text", .glo "is_index", .glo "refuse_bad_arrival", .glo "Plan", .glo "choice_of", .glo "Rule", .glo "is_word", .glo "are_registers", .glo "refuse_bad_lines", .glo "is_line", .glo "are_at_most_four", .glo "is_test", .glo "are_steps", .glo "is_step", .glo "_law_source", .glo "_law_draw", .glo "_law_pick", .glo "_law_mixed", .glo "_law_steps", .glo "_law_tests", .glo "_law_good", .glo "_law_noted_as", .glo "_law_plan", .glo "_law_rule", .glo "_law_new", .glo "_law_taken", .glo "_law_edited", .glo "_law_held", .glo "_law_list", .glo "_law_is_asked", .glo "_law_answered", .glo "_law_brought", .glo "_law_ended", .glo "_law_texts", .glo "_law_deed", .glo "_law_behind", .glo "_law_told", .glo "_law_file_right", .glo "_law_made", .glo "_law_unlike", .glo "law", .free "TypeError", .free "ValueError", .free "all", .free "bool", .free "dict", .free "enumerate", .free "int", .free "isinstance", .free "len", .free "list", .free "max", .free "min", .free "property", .free "range", .free "repr", .free "set", .free "str", .free "tuple", .free "zip", .glo "PLACES", .glo "WORDS_OF_TEXTS", .cls "Rule", .noat "Rule" "_registers", .noat "Rule" "_lines", .noat "Rule" "plan", .mkr "Rule", .meth "Rule" "asks", .meth "Rule" "__eq__", .meth "File" "__eq__", .meth "File" "fork", .cls "Plan", .noat "Plan" "spots", .noat "Plan" "elder", .noat "Plan" "choices", .mkr "Plan", .cls "File", .noat "File" "_rule", .noat "File" "_state", .mkr "File", .meth "File" "edit", .meth "File" "upgrade", .meth "File" "renamed", .meth "File" "_receive", .meth "File" "__getitem__", .cls "Arrival", .noat "Arrival" "_plan", .noat "Arrival" "_state", .noat "Arrival" "_held", .noat "Arrival" "position", .noat "Arrival" "_lists", .mkr "Arrival", .meth "Arrival" "steps", .meth "Arrival" "outcome", .meth "Arrival" "_question"]
abbrev R : PySem.W.OpenRow := PySem.W.OpenLaw.row PySem.Challenge.rw_stillmine_k07_files_compared_and_forked
def exB : PySem.W.Frag → Bool := fun K => exA0 K && exM7 K
def q_File_here : SM.PropD := ⟨"File", "here", "File.here", defArgs (inClass (top 22) 2), defBody (inClass (top 22) 2), defScope (inClass (top 22) 2)⟩
def q_File_change : SM.PropD := ⟨"File", "change", "File.change", defArgs (inClass (top 22) 5), defBody (inClass (top 22) 5), defScope (inClass (top 22) 5)⟩
def q_File_amid : SM.PropD := ⟨"File", "amid", "File.amid", defArgs (inClass (top 22) 6), defBody (inClass (top 22) 6), defScope (inClass (top 22) 6)⟩
def q_Rule_registers : SM.PropD := ⟨"Rule", "registers", "Rule.registers", defArgs (inClass (top 33) 1), defBody (inClass (top 33) 1), defScope (inClass (top 33) 1)⟩
def q_Rule_places : SM.PropD := ⟨"Rule", "places", "Rule.places", defArgs (inClass (top 33) 3), defBody (inClass (top 33) 3), defScope (inClass (top 33) 3)⟩
def prs : List SM.PropD := [q_File_here, q_File_change, q_File_amid, q_Rule_registers, q_Rule_places]
def adrs0 : List PySem.Addr := [3, 6, 31, 51, 70, 89, 108, 127, 146, 165, 184, 203, 212, 219, 278, 287, 294, 301, 306, 313, 436, 447, 452, 459, 466, 481, 490, 553, 562, 567, 574, 579, 586, 593, 598, 605, 612, 619, 626, 633]
def adrs1 : List PySem.Addr := [640, 647, 654, 659, 666, 673, 680, 685, 692, 699, 706, 713, 720, 725, 732, 739, 744, 751, 758, 763, 770, 775, 782, 0, 30, 50, 69, 88, 107, 126, 145, 164, 183, 202, 277, 435, 480, 552, 48, 67]
def adrs2 : List PySem.Addr := [86, 210, 217, 233, 247, 261, 268, 275, 285, 292, 299, 304, 311, 327, 382, 396, 403, 411, 419, 426, 433, 445, 450, 457, 464, 478, 488, 506, 543, 550, 560, 565, 572, 577, 584, 591, 596, 603, 610, 617]
def adrs3 : List PySem.Addr := [624, 631, 638, 645, 652, 657, 664, 671, 678, 683, 690, 697, 704, 711, 718, 723, 730, 737, 742, 749, 756, 761, 768, 773, 780, 342, 366, 374, 404, 412, 513, 527, 46, 65, 84, 231, 245, 259, 266, 273]
def adrs4 : List PySem.Addr := [325, 380, 394, 401, 409, 417, 424, 431, 476, 504, 541, 548, 340, 364, 372, 511, 525, 4, 491, 492, 211, 218, 286, 293, 300, 305, 312, 446, 451, 458, 465, 489, 561, 566, 573, 578, 585, 592, 597, 604]
def adrs5 : List PySem.Addr := [611, 618, 625, 632, 639, 646, 653, 658, 665, 672, 679, 684, 691, 698, 705, 712, 719, 724, 731, 738, 743, 750, 757, 762, 769, 774, 781, 29, 32, 49, 68, 87, 106, 125, 144, 163, 182, 201, 206, 207]
def adrs6 : List PySem.Addr := [208, 209, 213, 214, 215, 216, 276, 279, 280, 283, 284, 288, 289, 290, 291, 295, 296, 297, 298, 302, 303, 307, 308, 309, 310, 335, 343, 351, 359, 367, 375, 434, 437, 438, 441, 442, 443, 444, 448, 449]
def adrs7 : List PySem.Addr := [453, 454, 455, 456, 460, 461, 462, 463, 479, 482, 483, 486, 487, 514, 522, 528, 536, 551, 554, 555, 558, 559, 563, 564, 568, 569, 570, 571, 575, 576, 580, 581, 582, 583, 587, 588, 589, 590, 594, 595]
def adrs8 : List PySem.Addr := [599, 600, 601, 602, 606, 607, 608, 609, 613, 614, 615, 616, 620, 621, 622, 623, 627, 628, 629, 630, 634, 635, 636, 637, 641, 642, 643, 644, 648, 649, 650, 651, 655, 656, 660, 661, 662, 663, 667, 668]
def adrs9 : List PySem.Addr := [669, 670, 674, 675, 676, 677, 681, 682, 686, 687, 688, 689, 693, 694, 695, 696, 700, 701, 702, 703, 707, 708, 709, 710, 714, 715, 716, 717, 721, 722, 726, 727, 728, 729, 733, 734, 735, 736, 740, 741]
def adrs10 : List PySem.Addr := [745, 746, 747, 748, 752, 753, 754, 755, 759, 760, 764, 765, 766, 767, 771, 772, 776, 777, 778, 779, 47, 66, 85, 232, 246, 260, 267, 274, 326, 381, 395, 402, 410, 418, 425, 432, 477, 505, 542, 549]
def adrs11 : List PySem.Addr := [42, 43, 44, 45, 61, 62, 63, 64, 80, 81, 82, 83, 227, 228, 229, 230, 241, 242, 243, 244, 255, 256, 257, 258, 262, 263, 264, 265, 269, 270, 271, 272, 321, 322, 323, 324, 341, 365, 373, 376]
def adrs12 : List PySem.Addr := [377, 378, 379, 390, 391, 392, 393, 397, 398, 399, 400, 405, 406, 407, 408, 413, 414, 415, 416, 420, 421, 422, 423, 427, 428, 429, 430, 474, 475, 500, 501, 502, 503, 512, 526, 537, 538, 539, 540, 544]
def adrs13 : List PySem.Addr := [545, 546, 547, 336, 337, 338, 339, 360, 361, 362, 363, 368, 369, 370, 371, 507, 508, 509, 510, 523, 524]
def adrs : List PySem.Addr := adrs0 ++ adrs1 ++ adrs2 ++ adrs3 ++ adrs4 ++ adrs5 ++ adrs6 ++ adrs7 ++ adrs8 ++ adrs9 ++ adrs10 ++ adrs11 ++ adrs12 ++ adrs13
abbrev hk : PySem.W.Hook := SM.hookA adrs fas fns prs exB
def ob (s : PySem.W.SharedT) : SM.AlP := SM.obsA adrs fas fns prs exB (HandSHeadRun.getT s)
theorem ob_eq (s : PySem.W.SharedT) : ob s = hk.obs s.abs := SM.obsA_eq (HandSHeadRun.getT_eq s)
def loose0 : List PySem.Str := ["_wall", "UpgradeError", "BadRegisters", "BadLines", "BadLine", "BadContent", "StillAmid", "Unanswered", "BadAnswer", "BadStop", "NoPlace", "first_state", "edited", "Arrival", "line_taken", "done", "is_needless", "harm_of", "remains_of", "File", "is_content", "is_text", "is_index", "refuse_bad_arrival", "Plan", "choice_of", "PLACES", "WORDS_OF_TEXTS", "Rule", "is_word"]
def loose1 : List PySem.Str := ["are_registers", "refuse_bad_lines", "is_line", "are_at_most_four", "is_test", "are_steps", "is_step", "_law_source", "_law_draw", "_law_pick", "_law_mixed", "_law_steps", "_law_tests", "_law_good", "_law_noted_as", "_law_plan", "_law_rule", "_law_new", "_law_taken", "_law_edited", "_law_held", "_law_list", "_law_is_asked", "_law_answered", "_law_brought", "_law_ended", "_law_texts", "_law_deed", "_law_behind", "_law_told"]
def loose2 : List PySem.Str := ["_law_file_right", "_law_made", "_law_unlike"]
def loose : List PySem.Str := loose0 ++ loose1 ++ loose2
abbrev qv : Program := PySem.W.view R.prog [69]
theorem run (w : World) : HandSHeadRun.RunEq R qv hk ob 20000 loose w := by
  intro os
  kernel_rfl
section
variable {P : Program} {w : World} {K : PySem.W.Frag} {mg : Str → Option Value} {base : Heap}
abbrev s__law_draw : Stmt := (top 44)
abbrev N__law_draw : List Str := ["source", "span", "found"]
abbrev P__law_draw : List Str := ["source", "span"]
theorem sc__law_draw : FnScope N__law_draw P__law_draw (defScope s__law_draw) := ⟨rfl, rfl, rfl, by decide +kernel, rfl, by decide +kernel, by decide +kernel⟩
theorem D_law_draw (W : Cw fas fns K mg) : DefOk P w K mg base CX0 1 "_law_draw" P__law_draw spDraw := by
  refine DefOk.of W 41 36 (st := s__law_draw) rfl rfl sc__law_draw (fun _ _ _ _ _ _ us hl => match us, hl with | [_, _], _ => rfl) (fun vs H Q E h => ?_) (fun cdv A outer s H vs Q E hr h => ?_)
  · obtain ⟨a, span, rfl, _⟩ := h
    rfl
  · obtain ⟨a, span, rfl, ⟨x, y, ea, hx, hy, hy2⟩, hs, hs2, k⟩ := h
    refine ⟨_, PSs.nox (pss_cons (ps_if (pt_cmpR op_ge (pe_ix ix_seq (pv 0) pe_int (fun _ _ => rfl)) (pv 1) (nomark _)) (pss_cons (ps_set (i := 2) sc__law_draw.nd rfl (by first | exact Or.inl rfl | exact Or.inr rfl) (pe_op op_modN (pe_callTy call_int1 (by rfl) (W.fre 68) (by decide +kernel) (pa_cons (pe_ix ix_seq (pv 0) pe_int (fun _ _ => rfl)) pa_nil)) (pv 1))) (pss_cons (ps_asg (pe_op op_fdivN (pe_ix ix_seq (pv 0) pe_int (fun _ _ => rfl)) (pv 1)) (pg_sub (pv 0) pe_int set_list)) (pss_one (ps_ret (pv 2))))) pss_nil) (pss_cons (ps_asg (pe_op op_modN (pe_callTy call_int1 (by rfl) (W.fre 68) (by decide +kernel) (pa_cons (pe_op op_add (pe_op op_mul (pe_ix ix_seq (pv 0) pe_int (fun _ _ => rfl)) pe_int) pe_int) pa_nil)) pe_int) (pg_sub (pv 0) pe_int set_list)) (pss_one (ps_ret (pe_op op_modN (pe_callTy call_int1 (by rfl) (W.fre 68) (by decide +kernel) (pa_cons (pe_op op_fdivN (pe_op op_modN (pe_callTy call_int1 (by rfl) (W.fre 68) (by decide +kernel) (pa_cons (pe_op op_pow (pe_callTy call_int1 (by rfl) (W.fre 68) (by decide +kernel) (pa_cons (pe_ix ix_seq (pv 0) pe_int (fun _ _ => rfl)) pa_nil)) pe_int) pa_nil)) pe_int) pe_int) pa_nil)) (pv 1)))))), ?_⟩
    have ix0 : ∀ {H : Hp} {x y : Int}, H a = some (.lst [.int x, .int y]) → ∀ {Q : VK}, Q (.int x) H → rIx K (.ref a) (.int 0) H Q := by
      intro H x y e Q q
      exact .inl ⟨a, _, 0, _, rfl, rfl, SqL.of e, rfl, q⟩
    have ix1 : ∀ {H : Hp} {x y : Int}, H a = some (.lst [.int x, .int y]) → ∀ {Q : VK}, Q (.int y) H → rIx K (.ref a) (.int 1) H Q := by
      intro H x y e Q q
      exact .inl ⟨a, _, 1, _, rfl, rfl, SqL.of e, rfl, q⟩
    refine ⟨_, rfl, ix0 ea ⟨_, rfl, _, _, rfl, rfl, _, rfl, ?_⟩⟩
    refine ite2 (fun c => ?_) (fun c => ?_)
    · refine ⟨_, rfl, ix0 ea (.inl ⟨_, rfl, _, rfl, _, _, rfl, rfl, by omega, ?_⟩)⟩
      refine ⟨_, rfl, ix0 ea ⟨_, rfl, _, _, rfl, rfl, ⟨by omega, by omega⟩, ?_⟩⟩
      refine ⟨_, rfl, a, _, 0, 0, rfl, rfl, ea, rfl, ?_⟩
      refine ⟨_, rfl, ?_⟩
      have m := fmod_pos (i := x) hs
      exact k _ _ m.1 m.2 (Keep.at_ (by simp)) ⟨_, _, upd_same, fdiv_nn hx hs, hy, hy2⟩
    · refine ⟨_, rfl, ix1 ea ⟨_, _, rfl, rfl, .inl ⟨by omega, by omega⟩, _, _, rfl, rfl, .inl ⟨_, rfl, _, _, rfl, rfl, (fun z => by cases z), ?_⟩⟩⟩
      refine ⟨_, rfl, a, _, 1, 1, rfl, rfl, ea, rfl, ?_⟩
      have m := fmod_pos (i := y * 69621 + 3571) (j := 2147483647) (by decide)
      refine ⟨_, rfl, .inl ⟨a, _, 1, _, rfl, rfl, SqL.of upd_same, rfl, ?_⟩⟩
      refine .inl ⟨_, rfl, _, _, rfl, rfl, ⟨by decide, by decide, by omega⟩, .inl ⟨_, rfl, _, _, rfl, rfl, (fun z => by cases z), _, _, rfl, rfl, ⟨(fun z => by cases z), (by show (13 : Int).natAbs < 1073741824; decide)⟩, .inl ⟨_, rfl, _, rfl, _, _, rfl, rfl, by omega, ?_⟩⟩⟩
      have m2 := fmod_pos (i := (((y * 69621 + 3571).fmod 2147483647) ^ (5 : Int).toNat).fmod 1000000007 |>.fdiv 13) hs
      exact k _ _ m2.1 m2.2 (Keep.at_ (by simp)) ⟨_, _, upd_same, hx, m.1, by omega⟩
end
section
variable {P : Program} {w : World} {K : PySem.W.Frag} {mg : Str → Option Value} {base : Heap}
abbrev s__law_source : Stmt := (top 43)
abbrev N__law_source : List Str := ["script", "start", "mixed", "cell", "rest"]
abbrev P__law_source : List Str := ["script", "start"]
theorem sc__law_source : FnScope N__law_source P__law_source (defScope s__law_source) := ⟨rfl, rfl, rfl, by decide +kernel, rfl, by decide +kernel, by decide +kernel⟩
theorem D_law_source (W : Cw fas fns K mg) : DefOk P w K mg base CX0 1 "_law_source" P__law_source (spSource K) := by
  refine DefOk.of W 40 35 (st := s__law_source) rfl rfl sc__law_source (fun _ _ _ _ _ _ us hl => match us, hl with | [_, _], _ => rfl) (fun vs H Q E h => ?_) (fun cdv A outer s H vs Q E hr h => ?_)
  · obtain ⟨a, ns, start, rfl, _⟩ := h
    rfl
  · obtain ⟨a, ns, start, rfl, hS, hl, hb, h0, h1, k⟩ := h
    refine ⟨_, PSs.nox (pss_cons (ps_set (i := 2) sc__law_source.nd rfl (by first | exact Or.inl rfl | exact Or.inr rfl) (pe_op op_add pe_int (pv 1))) (pss_cons (ps_for PassesOwn.never rfl (pi_list (pv 0)) (pg_name (i := 3) sc__law_source.nd rfl (by first | exact Or.inl rfl | exact Or.inr rfl)) (pss_one (ps_set (i := 2) sc__law_source.nd rfl (by first | exact Or.inl rfl | exact Or.inr rfl) (pe_op op_add (pe_op op_modN (pe_callTy call_int1 (by rfl) (W.fre 68) (by decide +kernel) (pa_cons (pe_op SM.op_powW (pe_callTy call_int1 (by rfl) (W.fre 68) (by decide +kernel) (pa_cons (pe_op op_add (pe_op op_mul (pv 2) pe_int) (pe_callTy call_int1 (by rfl) (W.fre 68) (by decide +kernel) (pa_cons (pv 3) pa_nil))) pa_nil)) pe_int) pa_nil)) pe_int) pe_int)))) (pss_cons (ps_set (i := 4) sc__law_source.nd rfl (by first | exact Or.inl rfl | exact Or.inr rfl) pe_int) (pss_cons (ps_if (PW.pt (pw_and (pt_cmpR op_lt (pv 1) (pe_callB call_len_seq (by rfl) (W.fre 70) (by decide +kernel) (pa_cons (pv 0) pa_nil)) (nomark _)) (pw_and1 (pt_cmpR op_ge (pe_ix ix_seq (pv 0) (pv 1) (fun _ _ => rfl)) (pe_op op_pow pe_int pe_int) (nomark _))))) (pss_one (ps_set (i := 4) sc__law_source.nd rfl (by first | exact Or.inl rfl | exact Or.inr rfl) (pe_op op_sub (pe_ix ix_seq (pv 0) (pv 1) (fun _ _ => rfl)) (pe_op op_pow pe_int pe_int)))) pss_nil) (pss_one (ps_ret (pe_lst (pa_cons (pv 4) (pa_cons (pv 2) pa_nil))))))))), ?_⟩
    refine ⟨_, rfl, _, _, rfl, rfl, ?_⟩
    refine ⟨_, rfl, a, rfl, ⟨_, hS⟩, for_list (K := K) (a := a) (xs := ns.map V.int) (fun i σ H' => ∃ (z : Int) (v : Option V), σ = [some (.ref a), some (.int start), some (.int z), v, none] ∧ 0 ≤ z ∧ z < 1099511627776 ∧ H' = H)
      ⟨_, none, rfl, by omega, by omega, rfl⟩ (fun i σ H' _ z => by obtain ⟨_, _, _, _, _, e⟩ := z; rw [e]; exact hS) ?_ ?_⟩
    · rintro i y σ H' hi ⟨z, v, rfl, z0, z1, rfl⟩
      obtain ⟨c, hc, rfl⟩ : ∃ c, ns[i]? = some c ∧ y = V.int c := by
        rw [List.getElem?_map] at hi
        cases e : ns[i]? with
        | none =>
          rw [e] at hi
          cases hi
        | some u =>
          rw [e] at hi
          exact ⟨u, rfl, (Option.some.inj hi).symm⟩
      have bc := hb c (List.mem_of_getElem? hc)
      have bs := bits_sum (N := 1048576) (by decide) (m := z * 50021) (c := c) (by omega) bc
      have m := fmod_pos (i := (z * 50021 + c) ^ (3 : Int).toNat) (j := 2147483563) (by decide)
      refine ⟨_, rfl, _, _, rfl, rfl, .inl ⟨by omega, by omega⟩, _, rfl, .inl ⟨_, rfl, _, _, rfl, rfl, .inl ⟨_, rfl, _, _, rfl, rfl, ⟨by decide, by decide, by omega⟩, .inl ⟨_, rfl, _, _, rfl, rfl, (fun z => by cases z), _, _, rfl, rfl, ?_⟩⟩⟩⟩
      exact ⟨_, _, rfl, by omega, by omega, rfl⟩
    · rintro σ H' ⟨z, v, rfl, z0, z1, rfl⟩
      have fin : ∀ (rest : Int), 0 ≤ rest → ∀ p, H' p = none → Q (.ref p) (upd H' p (.lst [.int rest, .int z])) := fun rest hr p hp =>
        k p _ hp (Keep.new hp) ⟨rest, z, upd_same, hr, z0, z1⟩
      refine ⟨_, rfl, _, rfl, a, _, rfl, .inl hS, _, _, rfl, rfl, _, rfl, ?_⟩
      refine ite2 (fun c => ?_) (fun c => ?_)
      · have c2 : start < ((ns.map V.int).length : Int) := of_decide_eq_true c
        rw [List.length_map] at c2
        obtain ⟨n, hn⟩ : ∃ n, ns[start.toNat]? = some n := ⟨ns[start.toNat]'(by omega), List.getElem?_eq_getElem _⟩
        have at_ : atI (ns.map V.int) start = some (V.int n) := at_of (j := start.toNat) (by omega) (by rw [List.getElem?_map, hn]; rfl)
        refine ⟨_, rfl, _, rfl, .inl ⟨a, _, start, _, rfl, rfl, hS, at_, _, _, rfl, rfl, ⟨by decide, by decide, by decide⟩, _, _, rfl, rfl, _, rfl, ?_⟩⟩
        refine ite2 (fun d => ?_) (fun d => ?_)
        · have d2 : (10 : Int) ^ (18 : Int).toNat ≤ n := of_decide_eq_true d
          refine ⟨_, rfl, _, rfl, .inl ⟨a, _, start, _, rfl, rfl, hS, at_, _, _, rfl, rfl, ⟨by decide, by decide, by decide⟩, _, _, rfl, rfl, ?_⟩⟩
          exact ⟨_, rfl, _, rfl, (by show 2 ≤ sizeLine; decide), fin _ (by omega)⟩
        · exact ⟨_, rfl, _, rfl, (by show 2 ≤ sizeLine; decide), fin 0 (by omega)⟩
      · exact ⟨_, rfl, _, rfl, (by show 2 ≤ sizeLine; decide), fin 0 (by omega)⟩
end
section
variable {P : Program} {w : World} {K : PySem.W.Frag} {mg : Str → Option Value} {base : Heap}
abbrev s__law_pick : Stmt := (top 45)
abbrev N__law_pick : List Str := ["source", "things"]
abbrev P__law_pick : List Str := ["source", "things"]
theorem sc__law_pick : FnScope N__law_pick P__law_pick (defScope s__law_pick) := ⟨rfl, rfl, rfl, by decide +kernel, rfl, by decide +kernel, by decide +kernel⟩
theorem D_law_pick (W : Cw fas fns K mg) (D_law_draw : DefOk P w K mg base CX0 1 "_law_draw" P__law_draw spDraw) : DefOk P w K mg base CX0 2 "_law_pick" P__law_pick (spPick K) := by
  refine DefOk.of W 42 37 (st := s__law_pick) rfl rfl sc__law_pick (fun _ _ _ _ _ _ us hl => match us, hl with | [_, _], _ => rfl) (fun vs H Q E h => ?_) (fun cdv A outer s H vs Q E hr h => ?_)
  · obtain ⟨a, l, xs, rfl, _⟩ := h
    rfl
  · obtain ⟨a, l, xs, rfl, hs, hx, ne, l0, l1, k⟩ := h
    refine ⟨_, PSs.nox (pss_one (ps_ret (pe_ix ix_seq (pv 1) (SM.pe_callD D_law_draw (hr.mono (by decide)) pass0 (pa_cons (pv 0) (pa_cons (pe_callB call_len_seq (by rfl) (W.fre 70) (by decide +kernel) (pa_cons (pv 1) pa_nil)) pa_nil))) (fun _ _ => rfl)))), ?_⟩
    refine ⟨_, rfl, _, rfl, _, rfl, l, xs, rfl, hx, a, _, rfl, hs, by omega, by omega, fun r H' r0 r1 kp hs' => ?_⟩
    obtain ⟨v, hv⟩ : ∃ v, xs[r.toNat]? = some v := ⟨xs[r.toNat]'(by omega), List.getElem?_eq_getElem _⟩
    have at_ : atI xs r = some v := at_of (j := r.toNat) (by omega) hv
    have nl : l ∉ [a] := by simpa using ne
    rcases hx with hx | hx
    · exact .inl ⟨l, xs, r, v, rfl, rfl, kp.seqL nl hx, at_, k _ v H' hv kp hs'⟩
    · exact .inr (.inl ⟨l, xs, r, v, rfl, rfl, kp.seqT nl hx, at_, k _ v H' hv kp hs'⟩)
end
theorem exA {K : PySem.W.Frag} (h : exB K = true) : exA0 K = true := (He.ba (show (exA0 K && exM7 K) = true from h)).1
/-! ### the error classes, the words at the top -/
theorem err01 {K : PySem.W.Frag} (h : exB K = true) (e : Str × Str) (he : e ∈ errs01) : ErrC K (He.ga K e.1) (He.ma K (He.ga K e.1) "__init__") ∧ PySem.W.findIn K (.ref (He.ga K e.1)) e.2 = some none := by
  obtain ⟨_, h⟩ := He.ba (show (_ && errs01.all _) = true from exA h)
  obtain ⟨ab, _⟩ := He.ba (List.all_eq_true.mp h e he)
  obtain ⟨a, b⟩ := He.ba ab
  exact ⟨err_ok a, He.eqO_ok b⟩
theorem xf01 {K : PySem.W.Frag} (h : exB K = true) (e : Str × Str) (he : e ∈ errs01) : XfC K (He.ga K e.1) := by
  obtain ⟨_, h⟩ := He.ba (show (_ && errs01.all _) = true from exA h)
  obtain ⟨_, c⟩ := He.ba (List.all_eq_true.mp h e he)
  exact xfB_ok c
theorem words_at {K : PySem.W.Frag} (h : exB K = true) (H : Hp) : SqT K H (He.ga K "WORDS_OF_TEXTS") (words01.map V.str) := by
  obtain ⟨h, _⟩ := He.ba (show (_ && errs01.all _) = true from exA h)
  obtain ⟨h, _⟩ := He.ba h
  exact kTup_ok h rfl H
theorem places_at {K : PySem.W.Frag} (h : exB K = true) (H : Hp) : SqT K H (He.ga K "PLACES") ((["beside", "elder"] : List Str).map V.str) := by
  obtain ⟨h, _⟩ := He.ba (show (_ && errs01.all _) = true from exA h)
  obtain ⟨_, h⟩ := He.ba h
  exact kTup_ok h rfl H
section
variable {P : Program} {w : World} {K : PySem.W.Frag} {mg : Str → Option Value} {base : Heap}
abbrev s_BadRegisters___init__ : Stmt := (inClass (top 3) 0)
abbrev N_BadRegisters___init__ : List Str := ["self", "value"]
abbrev P_BadRegisters___init__ : List Str := ["self", "value"]
theorem sc_BadRegisters___init__ : FnScope N_BadRegisters___init__ P_BadRegisters___init__ (defScope s_BadRegisters___init__) := ⟨rfl, rfl, rfl, by decide +kernel, rfl, by decide +kernel, by decide +kernel⟩
theorem R_BadRegisters (W : Cw fas fns K mg) (hx : exB K = true) : RaiseOk P w K mg base "BadRegisters" "value" := by
  obtain ⟨fd, F⟩ := W.says.def_ 0 (d := d_BadRegisters___init__) rfl
  obtain ⟨h1, h2⟩ := err01 hx ("BadRegisters", "value") (by decide +kernel)
  refine ⟨h1, h2, ⟨fd, FunD.ok F sc_BadRegisters___init__ (fun vs H Q E h => ?_) (fun cdv A outer s H vs Q E hr h => ?_), FunD.bindsN F (fun _ _ _ _ _ _ us hl => match us, hl with | [_, _], _ => rfl)⟩, W.glo 2⟩
  · obtain ⟨a, C, v, rfl, _⟩ := h
    rfl
  · obtain ⟨a, C, v, rfl, T, hn, ha, k⟩ := h
    refine ⟨_, PSs.nox (pss_one (ps_ost (pv 0) (pv 1))), ?_⟩
    exact ⟨_, rfl, _, rfl, a, C, rfl, T, hn, .inl ⟨ha, fun dx n ne => k dx n ne⟩⟩
abbrev s_BadLines___init__ : Stmt := (inClass (top 4) 0)
abbrev N_BadLines___init__ : List Str := ["self", "value"]
abbrev P_BadLines___init__ : List Str := ["self", "value"]
theorem sc_BadLines___init__ : FnScope N_BadLines___init__ P_BadLines___init__ (defScope s_BadLines___init__) := ⟨rfl, rfl, rfl, by decide +kernel, rfl, by decide +kernel, by decide +kernel⟩
theorem R_BadLines (W : Cw fas fns K mg) (hx : exB K = true) : RaiseOk P w K mg base "BadLines" "value" := by
  obtain ⟨fd, F⟩ := W.says.def_ 1 (d := d_BadLines___init__) rfl
  obtain ⟨h1, h2⟩ := err01 hx ("BadLines", "value") (by decide +kernel)
  refine ⟨h1, h2, ⟨fd, FunD.ok F sc_BadLines___init__ (fun vs H Q E h => ?_) (fun cdv A outer s H vs Q E hr h => ?_), FunD.bindsN F (fun _ _ _ _ _ _ us hl => match us, hl with | [_, _], _ => rfl)⟩, W.glo 3⟩
  · obtain ⟨a, C, v, rfl, _⟩ := h
    rfl
  · obtain ⟨a, C, v, rfl, T, hn, ha, k⟩ := h
    refine ⟨_, PSs.nox (pss_one (ps_ost (pv 0) (pv 1))), ?_⟩
    exact ⟨_, rfl, _, rfl, a, C, rfl, T, hn, .inl ⟨ha, fun dx n ne => k dx n ne⟩⟩
abbrev s_BadLine___init__ : Stmt := (inClass (top 5) 0)
abbrev N_BadLine___init__ : List Str := ["self", "position"]
abbrev P_BadLine___init__ : List Str := ["self", "position"]
theorem sc_BadLine___init__ : FnScope N_BadLine___init__ P_BadLine___init__ (defScope s_BadLine___init__) := ⟨rfl, rfl, rfl, by decide +kernel, rfl, by decide +kernel, by decide +kernel⟩
theorem R_BadLine (W : Cw fas fns K mg) (hx : exB K = true) : RaiseOk P w K mg base "BadLine" "position" := by
  obtain ⟨fd, F⟩ := W.says.def_ 2 (d := d_BadLine___init__) rfl
  obtain ⟨h1, h2⟩ := err01 hx ("BadLine", "position") (by decide +kernel)
  refine ⟨h1, h2, ⟨fd, FunD.ok F sc_BadLine___init__ (fun vs H Q E h => ?_) (fun cdv A outer s H vs Q E hr h => ?_), FunD.bindsN F (fun _ _ _ _ _ _ us hl => match us, hl with | [_, _], _ => rfl)⟩, W.glo 4⟩
  · obtain ⟨a, C, v, rfl, _⟩ := h
    rfl
  · obtain ⟨a, C, v, rfl, T, hn, ha, k⟩ := h
    refine ⟨_, PSs.nox (pss_one (ps_ost (pv 0) (pv 1))), ?_⟩
    exact ⟨_, rfl, _, rfl, a, C, rfl, T, hn, .inl ⟨ha, fun dx n ne => k dx n ne⟩⟩
end
end La
set_option Elab.async false
set_option linter.all false
set_option maxRecDepth 100000
set_option maxHeartbeats 4000000
namespace La
open PySem PySem.Spec PyProof.Rows L2 SM
theorem cat_le {xs : List V} {ns : List Str} (h : xs.length ≤ 100) (hn : ns.length ≤ 3) : xs.length + (ns.map V.str).length ≤ sizeLine := by
  rw [List.length_map]
  exact Nat.le_trans (Nat.add_le_add h hn) (by decide)
theorem cat_pos {xs : List V} {ns : List Str} (h : 0 < xs.length) : 0 < (xs ++ ns.map V.str).length := by
  rw [List.length_append]
  omega
theorem cat_lt {xs : List V} {ns : List Str} (h : xs.length ≤ 100) (hn : ns.length ≤ 3) : (xs ++ ns.map V.str).length < 100000 := by
  rw [List.length_append, List.length_map]
  omega
theorem strs_get {us ns : List Str} {j : Nat} {v : V} (h : (us.map V.str ++ ns.map V.str)[j]? = some v) : ∃ s, v = .str s ∧ (s ∈ us ∨ s ∈ ns) := by
  rw [← List.map_append, List.getElem?_map] at h
  cases e : (us ++ ns)[j]? with
  | none =>
    rw [e] at h
    cases h
  | some s =>
    rw [e] at h
    exact ⟨s, (Option.some.inj h).symm, List.mem_append.mp (List.mem_of_getElem? e)⟩
/-- steps over the names in lot, at most so many -/
def spSteps (K : PySem.W.Frag) : Sp := fun vs H Q _ => ∃ (a l : Addr) (ns : List Str) (most : Int), vs = [.ref a, .ref l, .int most] ∧ Src H a ∧ SqT K H l (ns.map V.str) ∧ ns.length ≤ 3 ∧ 0 ≤ most ∧ most ≤ 4 ∧
  ∀ v H' ss, Keep [a] H H' → Src H' a → Dt K H' v (stepsD ss) → (ss.length : Int) ≤ most → (∀ s ∈ ss, GoodS ns s) → Q v H'
section
variable {P : Program} {w : World} {K : PySem.W.Frag} {mg : Str → Option Value} {base : Heap}
abbrev s__law_steps : Stmt := (top 47)
abbrev N__law_steps : List Str := ["source", "lot", "most", "found", "turn", "target"]
abbrev P__law_steps : List Str := ["source", "lot", "most"]
theorem sc__law_steps : FnScope N__law_steps P__law_steps (defScope s__law_steps) := ⟨rfl, rfl, rfl, by decide +kernel, rfl, by decide +kernel, by decide +kernel⟩
theorem D_law_steps (W : Cw fas fns K mg) (D_law_draw : DefOk P w K mg base CX0 1 "_law_draw" P__law_draw spDraw) (D_law_pick : DefOk P w K mg base CX0 2 "_law_pick" P__law_pick (spPick K)) : DefOk P w K mg base CX0 3 "_law_steps" P__law_steps (spSteps K) := by
  refine DefOk.of W 44 39 (st := s__law_steps) rfl rfl sc__law_steps (fun _ _ _ _ _ _ us hl => match us, hl with | [_, _, _], _ => rfl) (fun vs H Q E h => ?_) (fun cdv A outer s H vs Q E hr h => ?_)
  · obtain ⟨a, l, ns, most, rfl, _⟩ := h
    rfl
  · obtain ⟨a, l, ns, most, rfl, hs, hl, hn, m0, m4, k⟩ := h
    refine ⟨_, PSs.nox (Evl.pss_cut (ps_set (i := 3) sc__law_steps.nd rfl (by first | exact Or.inl rfl | exact Or.inr rfl) (pe_lst pa_nil)) (Evl.pss_cut (ps_for PassesOwn.never rfl (pi_range1 (by rfl) (W.fre 75) (pa_cons (SM.pe_callD D_law_draw (hr.mono (by decide)) pass0 (pa_cons (pv 0) (pa_cons (pe_op op_add (pv 2) pe_int) pa_nil))) pa_nil)) (pg_name (i := 4) sc__law_steps.nd rfl (by first | exact Or.inl rfl | exact Or.inr rfl)) (Evl.pss_cut (ps_set (i := 5) sc__law_steps.nd rfl (by first | exact Or.inl rfl | exact Or.inr rfl) (SM.pe_callD D_law_pick (hr.mono (by decide)) pass0 (pa_cons (pv 0) (pa_cons (pe_op op_cat (pe_lst (pa_cons pe_str pa_nil)) (pe_callTy call_list_of (by rfl) (W.fre 71) (by decide +kernel) (pa_cons (pv 1) pa_nil))) pa_nil)))) (pss_one (ps_expr (pe_bm PySem.F.plainAttrs_list PySem.F.slot_list_append PySem.F.type_list_append mt_append (pv 3) (pa_cons (pe_tup (pa_cons (pv 5) (pa_cons (SM.pe_callD D_law_pick (hr.mono (by decide)) pass0 (pa_cons (pv 0) (pa_cons (pe_op op_cat (pe_lst (pa_cons pe_str (pa_cons pe_str (pa_cons pe_str (pa_cons pe_str pa_nil))))) (pe_callTy call_list_of (by rfl) (W.fre 71) (by decide +kernel) (pa_cons (pv 1) pa_nil))) pa_nil))) pa_nil))) pa_nil)))))) (pss_one (ps_ret (pe_callTy call_tuple_of (by rfl) (W.fre 79) (by decide +kernel) (pa_cons (pv 3) pa_nil)))))), ?_⟩
    refine ⟨fun σ' H' => ∃ p, σ' = [some (.ref a), some (.ref l), some (.int most), some (.ref p), none, none] ∧ H p = none ∧ Keep [] H H' ∧ H' p = some (.lst []), ?_, ?_⟩
    · exact ⟨Nat.zero_le _, fun p hp => ⟨p, rfl, hp, Keep.new hp, upd_same⟩⟩
    rintro σ' H1 ⟨p, rfl, np, k1, lp1⟩
    obtain ⟨x0, y0, ea0, _⟩ := id hs
    have pa : p ≠ a := (ne_of_none ea0 np).symm
    have hs1 := hs.keep k1 (by simp)
    refine ⟨fun σ' H' => ∃ (xs : List V) (ss : List (Str × Str)) (t g : Option V), σ' = [some (.ref a), some (.ref l), some (.int most), some (.ref p), t, g] ∧ Keep [a] H H' ∧ Src H' a ∧ H' p = some (.lst xs) ∧ DtAll K H' xs (ss.map stepD) ∧ (ss.length : Int) ≤ most ∧ ∀ s ∈ ss, GoodS ns s, ?_, ?_⟩
    · refine ⟨_, rfl, _, rfl, _, _, rfl, rfl, a, _, rfl, hs1, by omega, by omega, fun r H2 r0 r1 k2 s2 => ⟨r, rfl, by omega, by omega, for_range (lo := 0) (fun i σ' H' => ∃ (xs : List V) (ss : List (Str × Str)) (t g : Option V), σ' = [some (.ref a), some (.ref l), some (.int most), some (.ref p), t, g] ∧ Keep [a] H H' ∧ Src H' a ∧ H' p = some (.lst xs) ∧ DtAll K H' xs (ss.map stepD) ∧ ss.length = i ∧ ∀ s ∈ ss, GoodS ns s)
        ⟨[], [], none, none, rfl, (Keep.of_nil k1).trans k2, s2, k2 _ _ (by simpa using pa) lp1, .nil, rfl, fun s z => by cases z⟩ ?_ ?_⟩⟩
      · rintro i σ' H3 hi ⟨xs, ss, t, g, rfl, k3, s3, lp, dx, hss, hg⟩
        have hl3 := seqT_keep k3 hs.soft hl
        obtain ⟨x1, y1, ea, _⟩ := id s3
        refine ⟨fun σ' H' => ∃ tg, σ' = [some (.ref a), some (.ref l), some (.int most), some (.ref p), some (.int (0 + (i : Int))), some (.str tg)] ∧ (tg = "here" ∨ tg ∈ ns) ∧ Keep [a] H3 H' ∧ Src H' a, ?_, ?_⟩
        · refine ⟨_, rfl, (by show 1 ≤ sizeLine; decide), fun q1 n1 => ⟨_, rfl, l, _, rfl, .inr (seqT_keep (Keep.new (m := []) n1) Soft.nil hl3), fun q2 n2 => ⟨q1, q2, _, _, rfl, rfl, (Keep.new (m := []) n2).to upd_same, upd_same, cat_le (by decide) hn, fun q3 n3 => ⟨a, q3, _, rfl, s3.keep (((Keep.new (m := []) n1).trans (Keep.new n2)).trans (Keep.new n3)) (by simp), .inl (SqL.of upd_same), (ne_of_none (((Keep.new (m := []) n1).trans (Keep.new n2)).to ea) n3).symm, cat_pos (by decide), cat_lt (by decide) hn, fun j v H4 hv kp sp => ?_⟩⟩⟩⟩
          obtain ⟨tg, rfl, ht⟩ := strs_get (us := ["here"]) hv
          exact ⟨tg, rfl, by simpa using ht, (((Keep.new n1).trans (Keep.new n2)).trans (Keep.new n3)).trans kp, sp⟩
        rintro σ' H4 ⟨tg, rfl, htg, k4, s4⟩
        have hl4 := seqT_keep k4 s3.soft hl3
        obtain ⟨x2, y2, ea2, _⟩ := id s4
        have lp4 := k4 _ _ (by simpa using pa) lp
        have dx4 := dx.keep k4 s3.soft
        refine ⟨_, rfl, .inl ⟨rfl, _, SqL.of lp4⟩, _, rfl, ?_⟩
        refine ⟨_, rfl, (by show 4 ≤ sizeLine; decide), fun q1 n1 => ⟨_, rfl, l, _, rfl, .inr (seqT_keep (Keep.new (m := []) n1) Soft.nil hl4), fun q2 n2 => ⟨q1, q2, _, _, rfl, rfl, (Keep.new (m := []) n2).to upd_same, upd_same, cat_le (by decide) hn, fun q3 n3 => ⟨a, q3, _, rfl, s4.keep (((Keep.new (m := []) n1).trans (Keep.new n2)).trans (Keep.new n3)) (by simp), .inl (SqL.of upd_same), (ne_of_none (((Keep.new (m := []) n1).trans (Keep.new n2)).to ea2) n3).symm, cat_pos (by decide), cat_lt (by decide) hn, fun j v H5 hv kp sp => ?_⟩⟩⟩⟩
        obtain ⟨sr, rfl, hsr⟩ := strs_get (us := ["new", "new", "here", "nothing"]) hv
        have k5 : Keep [a] H4 H5 := (((Keep.new n1).trans (Keep.new n2)).trans (Keep.new n3)).trans kp
        have lp5 := k5 _ _ (by simpa using pa) lp4
        refine ⟨(by show 2 ≤ sizeLine; decide), fun q4 n4 => ?_⟩
        have k6 : Keep [] H5 (upd H5 q4 (.tup [.str tg, .str sr])) := Keep.new n4
        have dx6 := (dx4.keep k5 s4.soft).k0 k6
        have lp6 := k6.to lp5
        refine ⟨p, xs, _, rfl, rfl, lp6, ?_, ?_⟩
        · rw [dx.length, List.length_map, hss]
          exact Nat.lt_of_lt_of_le (show i < 100 by omega) (by decide)
        · have k7 : Keep [p] (upd H5 q4 (.tup [.str tg, .str sr])) (upd (upd H5 q4 (.tup [.str tg, .str sr])) p (.lst (xs ++ [.ref q4]))) := Keep.at_ (by simp)
          refine ⟨xs ++ [.ref q4], ss ++ [(tg, sr)], _, _, rfl, ?_, ?_, upd_same, ?_, by rw [List.length_append, hss]; rfl, ?_⟩
          · exact Keep.own (k3.trans (k4.trans (k5.trans (Keep.of_nil k6)))) np
          · exact (sp.keep k6 (by simp)).keep k7 (by simpa using pa.symm)
          · rw [List.map_append]
            refine (DtAll.append dx6 (.cons (.tup (SqT.of upd_same) (.cons (.str _) (.cons (.str _) .nil))) .nil)).keep k7 (Soft.lst lp6)
          · intro z hz
            rcases List.mem_append.mp hz with hz | hz
            · exact hg z hz
            · rw [List.mem_singleton.mp hz]
              refine ⟨htg, ?_⟩
              rcases hsr with hsr | hsr
              · simp only [List.mem_cons, List.not_mem_nil, or_false] at hsr
                rcases hsr with e | e | e | e
                · exact .inl e
                · exact .inl e
                · exact .inr (.inl e)
                · exact .inr (.inr (.inl e))
              · exact .inr (.inr (.inr hsr))
      · rintro σ' H3 ⟨xs, ss, t, g, rfl, k3, s3, lp, dx, hss, hg⟩
        exact ⟨xs, ss, t, g, rfl, k3, s3, lp, dx, by omega, hg⟩
    rintro σ' H3 ⟨xs, ss, t, g, rfl, k3, s3, lp, dx, hss, hg⟩
    refine ⟨_, rfl, p, xs, rfl, .inl ⟨SqL.of lp, fun q hq => ?_⟩⟩
    exact k _ _ ss (k3.trans (Keep.new hq)) (s3.keep (Keep.new (m := []) hq) (by simp)) (.tup (SqT.of upd_same) (dx.k0 (Keep.new hq))) hss hg
end
end La
set_option Elab.async false
set_option linter.all false
set_option maxRecDepth 100000
set_option maxHeartbeats 4000000
namespace La
open PySem PySem.Spec PyProof.Rows L2 SM
theorem rep_dt {K : PySem.W.Frag} {H : Hp} {v : V} {d : PyData} (h : Dt K H v d) : ∀ n, DtAll K H (List.replicate n [v]).flatten (List.replicate n d)
  | 0 => .nil
  | n + 1 => by
    rw [List.replicate_succ, List.flatten_cons, List.replicate_succ]
    exact .cons h (rep_dt h n)
theorem rep_len {v : V} : ∀ n, ((List.replicate n [v]).flatten).length = n
  | 0 => rfl
  | n + 1 => by
    rw [List.replicate_succ, List.flatten_cons, List.length_append, rep_len n]
    show 1 + n = n + 1
    omega
/-- tests over the names in lot -/
def spTests (K : PySem.W.Frag) : Sp := fun vs H Q _ => ∃ (a l : Addr) (ns : List Str) (most : Int), vs = [.ref a, .ref l, .int most] ∧ Src H a ∧ SqT K H l (ns.map V.str) ∧ ns.length ≤ 3 ∧ 0 < most ∧ most ≤ 2 ∧
  ∀ v H' ts, Keep [a] H H' → Src H' a → Dt K H' v (testsD ts) → ts.length ≤ 4 → (∀ t ∈ ts, GoodT ns t) → Q v H'
section
variable {P : Program} {w : World} {K : PySem.W.Frag} {mg : Str → Option Value} {base : Heap}
abbrev s__law_tests : Stmt := (top 48)
abbrev N__law_tests : List Str := ["source", "lot", "most", "kind", "found", "turn", "one", "other"]
abbrev P__law_tests : List Str := ["source", "lot", "most"]
theorem sc__law_tests : FnScope N__law_tests P__law_tests (defScope s__law_tests) := ⟨rfl, rfl, rfl, by decide +kernel, rfl, by decide +kernel, by decide +kernel⟩
theorem D_law_tests (W : Cw fas fns K mg) (D_law_draw : DefOk P w K mg base CX0 1 "_law_draw" P__law_draw spDraw) (D_law_pick : DefOk P w K mg base CX0 2 "_law_pick" P__law_pick (spPick K)) : DefOk P w K mg base CX0 3 "_law_tests" P__law_tests (spTests K) := by
  refine DefOk.of W 45 40 (st := s__law_tests) rfl rfl sc__law_tests (fun _ _ _ _ _ _ us hl => match us, hl with | [_, _, _], _ => rfl) (fun vs H Q E h => ?_) (fun cdv A outer s H vs Q E hr h => ?_)
  · obtain ⟨a, l, ns, most, rfl, _⟩ := h
    rfl
  · obtain ⟨a, l, ns, most, rfl, hs, hl, hn, m0, m2, k⟩ := h
    refine ⟨_, PSs.nox (Evl.pss_cut (ps_par (i := 3) (j := 4) (by rfl) sc__law_tests.nd rfl rfl (by decide) rfl rfl (pa_cons (SM.pe_callD D_law_draw (hr.mono (by decide)) pass0 (pa_cons (pv 0) (pa_cons pe_int pa_nil))) (pa_cons (pe_lst pa_nil) pa_nil)) (by rfl)) (Evl.pss_cut (ps_for PassesOwn.never rfl (pi_range1 (by rfl) (W.fre 75) (pa_cons (pe_ifExp (pt_cmpR op_gt (pv 3) pe_int (nomark _)) (pe_op op_add pe_int (SM.pe_callD D_law_draw (hr.mono (by decide)) pass0 (pa_cons (pv 0) (pa_cons (pv 2) pa_nil)))) pe_int) pa_nil)) (pg_name (i := 5) sc__law_tests.nd rfl (by first | exact Or.inl rfl | exact Or.inr rfl)) (Evl.pss_cut (ps_set (i := 6) sc__law_tests.nd rfl (by first | exact Or.inl rfl | exact Or.inr rfl) (SM.pe_callD D_law_pick (hr.mono (by decide)) pass0 (pa_cons (pv 0) (pa_cons (pe_op op_cat (pe_lst (pa_cons pe_str (pa_cons pe_str (pa_cons pe_str pa_nil)))) (pe_callTy call_list_of (by rfl) (W.fre 71) (by decide +kernel) (pa_cons (pv 1) pa_nil))) pa_nil)))) (Evl.pss_cut (ps_set (i := 7) sc__law_tests.nd rfl (by first | exact Or.inl rfl | exact Or.inr rfl) (SM.pe_callD D_law_pick (hr.mono (by decide)) pass0 (pa_cons (pv 0) (pa_cons (pe_op op_cat (pe_lst (pa_cons pe_str (pa_cons pe_str (pa_cons pe_str pa_nil)))) (pe_callTy call_list_of (by rfl) (W.fre 71) (by decide +kernel) (pa_cons (pv 1) pa_nil))) pa_nil)))) (pss_one (ps_expr (pe_bm PySem.F.plainAttrs_list PySem.F.slot_list_append PySem.F.type_list_append mt_append (pv 4) (pa_cons (pe_tup (pa_cons (pv 6) (pa_cons (pv 7) (pa_cons (pe_cmpR op_gt (SM.pe_callD D_law_draw (hr.mono (by decide)) pass0 (pa_cons (pv 0) (pa_cons pe_int pa_nil))) pe_int (nomark _)) pa_nil)))) pa_nil))))))) (pss_one (ps_ret (pe_ifExp (pt_cmpR op_eq (pv 3) pe_int (nomark _)) (pe_callTy call_tuple_of (by rfl) (W.fre 79) (by decide +kernel) (pa_cons (pe_op op_cat (pe_op op_rep (pe_lst (pa_cons (pe_tup (pa_cons pe_str (pa_cons pe_str (pa_cons pe_bl pa_nil)))) pa_nil)) (pe_op op_sub pe_int (pe_callB call_len_seq (by rfl) (W.fre 70) (by decide +kernel) (pa_cons (pv 4) pa_nil)))) (pv 4)) pa_nil)) (pe_callTy call_tuple_of (by rfl) (W.fre 79) (by decide +kernel) (pa_cons (pv 4) pa_nil))))))), ?_⟩
    obtain ⟨x0, y0, ea0, _⟩ := id hs
    refine ⟨fun σ' H' => ∃ kd p, σ' = [some (.ref a), some (.ref l), some (.int most), some (.int kd), some (.ref p), none, none, none] ∧ H p = none ∧ p ≠ a ∧ Keep [a] H H' ∧ Src H' a ∧ H' p = some (.lst []), ?_, ?_⟩
    · refine ⟨_, rfl, a, 9, rfl, hs, by decide, by decide, fun r H1 r0 r1 k1 s1 => ⟨Nat.zero_le _, fun p hp => ?_⟩⟩
      obtain ⟨x1, y1, ea1, _⟩ := id s1
      have pa : p ≠ a := (ne_of_none ea1 hp).symm
      exact ⟨.int r, .ref p, rfl, r, p, rfl, k1.free (by simpa using pa) hp, pa, k1.trans (Keep.new hp), s1.keep (Keep.new (m := []) hp) (by simp), upd_same⟩
    rintro σ' H1 ⟨kd, p, rfl, np, pa, k1, hs1, lp1⟩
    let Pv : Nat → L2.St → Hp → Prop := fun i σ' H' => ∃ (xs : List V) (ts : List (Str × Str × Bool)) (t g1 g2 : Option V), σ' = [some (.ref a), some (.ref l), some (.int most), some (.int kd), some (.ref p), t, g1, g2] ∧ Keep [a] H H' ∧ Src H' a ∧ H' p = some (.lst xs) ∧ DtAll K H' xs (ts.map testD) ∧ ts.length = i ∧ ∀ s ∈ ts, GoodT ns s
    refine ⟨fun σ' H' => ∃ i, i ≤ 2 ∧ Pv i σ' H', ?_, ?_⟩
    · have turn : ∀ (n : Int) (H2 : Hp), 0 ≤ n → n ≤ 2 → Keep [a] H H2 → Src H2 a → H2 p = some (.lst []) → ∀ (tb : TS) (D : Ends), (∀ i σ' H', (i : Nat) < n.toNat → Pv i σ' H' → gName 5 (.int (0 + (i : Int))) σ' H' fun σ2 H3 => tb { D with nx := Pv (i + 1), ct := Pv (i + 1), bk := D.nx } σ2 H3) → (∀ i σ' H', i ≤ 2 → Pv i σ' H' → D.nx σ' H') →
          ∃ j : Int, [V.int n] = [.int j] ∧ -(2 ^ 62) ≤ j ∧ j < 2 ^ 62 ∧ ∃ W : Nat → Nat → L2.St → Hp → Prop, (∃ m, W 0 m [some (.ref a), some (.ref l), some (.int most), some (.int kd), some (.ref p), none, none, none] H2) ∧ ∀ i m σ H, W i m σ H → ((Itr 0 j.toNat).stop i H ∧ D.nx σ H) ∨ ((Itr 0 j.toNat).go i H ∧ ∃ N : L2.St → Hp → Prop, (∀ σ' H', N σ' H' → ∃ m', m' < m ∧ W (i + 1) m' σ' H') ∧ ∀ x H', (Itr 0 j.toNat).yld i H x H' → gName 5 x σ H' fun σ2 H2 => tb { D with nx := N, ct := N, bk := D.nx } σ2 H2) := by
        intro n H2 n0 n2 k2 s2 lp2 tb D hturn hend
        exact ⟨n, rfl, by omega, by omega, for_range (lo := 0) Pv ⟨[], [], none, none, none, rfl, k2, s2, lp2, .nil, rfl, fun s z => by cases z⟩ hturn (fun σ' H' z => hend n.toNat σ' H' (by omega) z)⟩
      have body : ∀ (n : Int), n ≤ 2 → True := fun _ _ => trivial
      refine ⟨_, rfl, _, _, rfl, rfl, _, rfl, ?_⟩
      refine ite2 (fun _ => ?_) (fun _ => ?_)
      · refine ⟨_, rfl, _, rfl, a, most, rfl, hs1, m0, by omega, fun r H2 r0 r1 k2 s2 => ⟨_, _, rfl, rfl, ?_⟩⟩
        refine turn (1 + r) H2 (by omega) (by omega) (k1.trans k2) s2 (k2 _ _ (by simpa using pa) lp1) _ _ ?_ (fun i σ' H' hi z => ⟨i, hi, z⟩)
        rintro i σ' H3 hi ⟨xs, ts, t, g1, g2, rfl, k3, s3, lp, dx, hts, hg⟩
        have hl3 := seqT_keep k3 hs.soft hl
        obtain ⟨x1, y1, ea, _⟩ := id s3
        refine ⟨fun σ' H' => ∃ tg, σ' = [some (.ref a), some (.ref l), some (.int most), some (.int kd), some (.ref p), some (.int (0 + (i : Int))), some (.str tg), g2] ∧ (tg = "here" ∨ tg = "new" ∨ tg ∈ ns) ∧ Keep [a] H3 H' ∧ Src H' a, ?_, ?_⟩
        · refine ⟨_, rfl, (by show 3 ≤ sizeLine; decide), fun q1 n1 => ⟨_, rfl, l, _, rfl, .inr (seqT_keep (Keep.new (m := []) n1) Soft.nil hl3), fun q2 n2 => ⟨q1, q2, _, _, rfl, rfl, (Keep.new (m := []) n2).to upd_same, upd_same, cat_le (by decide) hn, fun q3 n3 => ⟨a, q3, _, rfl, s3.keep (((Keep.new (m := []) n1).trans (Keep.new n2)).trans (Keep.new n3)) (by simp), .inl (SqL.of upd_same), (ne_of_none (((Keep.new (m := []) n1).trans (Keep.new n2)).to ea) n3).symm, cat_pos (by decide), cat_lt (by decide) hn, fun j v H4 hv kp sp => ?_⟩⟩⟩⟩
          obtain ⟨tg, rfl, ht⟩ := strs_get (us := ["here", "here", "new"]) hv
          exact ⟨tg, rfl, by simpa [or_assoc] using ht, (((Keep.new n1).trans (Keep.new n2)).trans (Keep.new n3)).trans kp, sp⟩
        rintro σ' H4 ⟨tg, rfl, htg, k4, s4⟩
        have hl4 := seqT_keep k4 s3.soft hl3
        obtain ⟨x2, y2, ea2, _⟩ := id s4
        have lp4 := k4 _ _ (by simpa using pa) lp
        have dx4 := dx.keep k4 s3.soft
        refine ⟨fun σ' H' => ∃ tr, σ' = [some (.ref a), some (.ref l), some (.int most), some (.int kd), some (.ref p), some (.int (0 + (i : Int))), some (.str tg), some (.str tr)] ∧ (tr = "here" ∨ tr = "new" ∨ tr = "nothing" ∨ tr ∈ ns) ∧ Keep [a] H4 H' ∧ Src H' a, ?_, ?_⟩
        · refine ⟨_, rfl, (by show 3 ≤ sizeLine; decide), fun q1 n1 => ⟨_, rfl, l, _, rfl, .inr (seqT_keep (Keep.new (m := []) n1) Soft.nil hl4), fun q2 n2 => ⟨q1, q2, _, _, rfl, rfl, (Keep.new (m := []) n2).to upd_same, upd_same, cat_le (by decide) hn, fun q3 n3 => ⟨a, q3, _, rfl, s4.keep (((Keep.new (m := []) n1).trans (Keep.new n2)).trans (Keep.new n3)) (by simp), .inl (SqL.of upd_same), (ne_of_none (((Keep.new (m := []) n1).trans (Keep.new n2)).to ea2) n3).symm, cat_pos (by decide), cat_lt (by decide) hn, fun j v H5 hv kp sp => ?_⟩⟩⟩⟩
          obtain ⟨tr, rfl, hsr⟩ := strs_get (us := ["new", "here", "nothing"]) hv
          refine ⟨tr, rfl, ?_, (((Keep.new n1).trans (Keep.new n2)).trans (Keep.new n3)).trans kp, sp⟩
          rcases hsr with hsr | hsr
          · simp only [List.mem_cons, List.not_mem_nil, or_false] at hsr
            rcases hsr with e | e | e
            · exact .inr (.inl e)
            · exact .inl e
            · exact .inr (.inr (.inl e))
          · exact .inr (.inr (.inr hsr))
        rintro σ' H5 ⟨tr, rfl, htr, k5, s5⟩
        obtain ⟨x3, y3, ea3, _⟩ := id s5
        have lp5 := k5 _ _ (by simpa using pa) lp4
        have dx5 := dx4.keep k5 s4.soft
        refine ⟨_, rfl, .inl ⟨rfl, _, SqL.of lp5⟩, _, rfl, _, rfl, _, rfl, a, 3, rfl, s5, by decide, by decide, fun r6 H6 r0 r1 k6 s6 => ⟨r6, 0, rfl, rfl, (by show 3 ≤ sizeLine; decide), fun q4 n4 => ?_⟩⟩
        have lp6 := k6 _ _ (by simpa using pa) lp5
        have dx6 := dx5.keep k6 s5.soft
        have k7 : Keep [] H6 (upd H6 q4 (.tup [.str tg, .str tr, .bl (decide ((0 : Int) < r6))])) := Keep.new n4
        have dx7 := dx6.k0 k7
        have lp7 := k7.to lp6
        refine ⟨p, xs, _, rfl, rfl, lp7, ?_, ?_⟩
        · rw [dx.length, List.length_map, hts]
          exact Nat.lt_of_lt_of_le (show i < 100 by omega) (by decide)
        · have k8 : Keep [p] (upd H6 q4 (.tup [.str tg, .str tr, .bl (decide ((0 : Int) < r6))])) (upd (upd H6 q4 (.tup [.str tg, .str tr, .bl (decide ((0 : Int) < r6))])) p (.lst (xs ++ [.ref q4]))) := Keep.at_ (by simp)
          refine ⟨xs ++ [.ref q4], ts ++ [(tg, tr, decide ((0 : Int) < r6))], _, _, _, rfl, ?_, ?_, upd_same, ?_, by rw [List.length_append, hts]; rfl, ?_⟩
          · exact Keep.own (k3.trans (k4.trans (k5.trans (k6.trans (Keep.of_nil k7))))) np
          · exact (s6.keep k7 (by simp)).keep k8 (by simpa using pa.symm)
          · rw [List.map_append]
            refine (DtAll.append dx7 (.cons (.tup (SqT.of upd_same) (.cons (.str _) (.cons (.str _) (.cons (.bl _) .nil)))) .nil)).keep k8 (Soft.lst lp7)
          · intro z hz
            rcases List.mem_append.mp hz with hz | hz
            · exact hg z hz
            · rw [List.mem_singleton.mp hz]
              exact ⟨htg, by rcases htr with e | e | e | e <;> simp [e]⟩
      · refine turn 0 H1 (by omega) (by omega) k1 hs1 lp1 _ _ (fun i _ _ hi _ => absurd hi (by simp)) (fun i σ' H' hi z => ⟨i, hi, z⟩)
    rintro σ' H3 ⟨i, hi, xs, ts, t, g1, g2, rfl, k3, s3, lp, dx, hts, hg⟩
    have lx : xs.length = i := by rw [dx.length, List.length_map, hts]
    refine ⟨_, rfl, rfl, _, rfl, ?_⟩
    refine ite2 (fun _ => ?_) (fun _ => ?_)
    · refine ⟨(by show 3 ≤ sizeLine; decide), fun q1 n1 => ⟨(by show 1 ≤ sizeLine; decide), fun q2 n2 => ⟨_, rfl, p, xs, rfl, .inl (SqL.of (((Keep.new (m := []) n1).trans (Keep.new n2)).to lp)), _, _, rfl, rfl, q2, _, _, rfl, rfl, upd_same, ?_, ?_, ?_, fun q3 n3 => ⟨_, rfl, q3, p, _, _, rfl, rfl, upd_same, (((Keep.new (m := []) n1).trans (Keep.new n2)).trans (Keep.new n3)).to lp, ?_, fun q4 n4 => ?_⟩⟩⟩⟩
      · rw [lx]; omega
      · rw [lx]; omega
      · rw [lx]
        show 1 * (4 - (i : Int)).toNat ≤ sizeLine
        exact Nat.le_trans (show 1 * (4 - (i : Int)).toNat ≤ 4 by omega) (by decide)
      · rw [lx, rep_len]
        exact Nat.le_trans (show (4 - (i : Int)).toNat + i ≤ 100 by omega) (by decide)
      refine ⟨q4, _, rfl, .inl ⟨SqL.of upd_same, fun q5 n5 => ?_⟩⟩
      have fin : ∀ Hd, Keep [] (upd H3 q1 (.tup [.str "here", .str "here", .bl true])) Hd → Hd q5 = some (.tup ((List.replicate (4 - (xs.length : Int)).toNat [V.ref q1]).flatten ++ xs)) → Q (.ref q5) Hd := by
        intro Hd kd' hd
        refine k _ _ (List.replicate (4 - (xs.length : Int)).toNat (("here", "here", true) : Str × Str × Bool) ++ ts) (k3.trans (Keep.of_nil ((Keep.new n1).trans kd'))) (s3.keep ((Keep.new n1).trans kd') (by simp)) (.tup (SqT.of hd) ?_) ?_ ?_
        · have d1 : Dt K (upd H3 q1 (.tup [.str "here", .str "here", .bl true])) (.ref q1) (testD (("here", "here", true) : Str × Str × Bool)) := .tup (SqT.of upd_same) (.cons (.str _) (.cons (.str _) (.cons (.bl _) .nil)))
          rw [List.map_append, List.map_replicate]
          exact ((rep_dt d1 _).append (dx.k0 (Keep.new n1))).k0 kd'
        · rw [List.length_append, List.length_replicate, hts, lx]
          omega
        · intro z hz
          rcases List.mem_append.mp hz with hz | hz
          · rw [(List.mem_replicate.mp hz).2]
            exact ⟨.inl rfl, .inr (.inl rfl)⟩
          · exact hg z hz
      exact fin _ ((Keep.new n2).trans ((Keep.new n3).trans ((Keep.new n4).trans (Keep.new n5)))) upd_same
    · refine ⟨_, rfl, p, xs, rfl, .inl ⟨SqL.of lp, fun q hq => ?_⟩⟩
      exact k _ _ ts (k3.trans (Keep.new hq)) (s3.keep (Keep.new (m := []) hq) (by simp)) (.tup (SqT.of upd_same) (dx.k0 (Keep.new hq))) (by omega) hg
end
end La
set_option Elab.async false
set_option linter.all false
set_option maxRecDepth 100000
set_option maxHeartbeats 4000000
namespace La
open PySem PySem.Spec PyProof.Rows L2 SM
/-- the things in another sequence -/
def spMixed (K : PySem.W.Frag) : Sp := fun vs H Q _ => ∃ (a l : Addr) (xs : List V) (ns : List Str) (ls : List Ln), vs = [.ref a, .ref l] ∧ Src H a ∧ SqL K H l xs ∧ DtAll K H xs (ls.map lnD) ∧ OkN ns ∧ (∀ z ∈ ls, GoodL ns z) ∧ ls.length ≤ 8 ∧
  ∀ (p : Addr) (ys : List V) (ms : List Ln) (H' : Hp), Keep [a] H H' → H p = none → Src H' a → H' p = some (.lst ys) → DtAll K H' ys (ms.map lnD) → ms.length = ls.length → (∀ z ∈ ms, z ∈ ls) → Q (.ref p) H'
section
variable {P : Program} {w : World} {K : PySem.W.Frag} {mg : Str → Option Value} {base : Heap}
abbrev s__law_mixed : Stmt := (top 46)
abbrev N__law_mixed : List Str := ["source", "things", "lot", "found"]
abbrev P__law_mixed : List Str := ["source", "things"]
theorem sc__law_mixed : FnScope N__law_mixed P__law_mixed (defScope s__law_mixed) := ⟨rfl, rfl, rfl, by decide +kernel, rfl, by decide +kernel, by decide +kernel⟩
theorem D_law_mixed (W : Cw fas fns K mg) (D_law_draw : DefOk P w K mg base CX0 1 "_law_draw" P__law_draw spDraw) : DefOk P w K mg base CX0 2 "_law_mixed" P__law_mixed (spMixed K) := by
  refine DefOk.of W 43 38 (st := s__law_mixed) rfl rfl sc__law_mixed (fun _ _ _ _ _ _ us hl => match us, hl with | [_, _], _ => rfl) (fun vs H Q E h => ?_) (fun cdv A outer s H vs Q E hr h => ?_)
  · obtain ⟨a, l, xs, ns, ls, rfl, _⟩ := h
    rfl
  · obtain ⟨a, l, xs, ns, ls, rfl, hs, hl, hd, hok, hg, h8, k⟩ := h
    refine ⟨_, PSs.nox (Evl.pss_cut (ps_par (i := 2) (j := 3) (by rfl) sc__law_mixed.nd rfl rfl (by decide) rfl rfl (pa_cons (pe_callTy call_list_of (by rfl) (W.fre 71) (by decide +kernel) (pa_cons (pv 1) pa_nil)) (pa_cons (pe_lst pa_nil) pa_nil)) (by rfl)) (Evl.pss_cut (ps_while PassesOwn.never (pt_cmpR (op_neD hr.units) (pv 2) (pe_lst pa_nil) (nomark _)) (pss_one (ps_expr (pe_bm PySem.F.plainAttrs_list PySem.F.slot_list_append PySem.F.type_list_append mt_append (pv 3) (pa_cons (pe_bm PySem.F.plainAttrs_list PySem.F.slot_list_pop PySem.F.type_list_pop mt_popAt (pv 2) (pa_cons (SM.pe_callD D_law_draw (hr.mono (by decide)) pass0 (pa_cons (pv 0) (pa_cons (pe_callB call_len_seq (by rfl) (W.fre 70) (by decide +kernel) (pa_cons (pv 2) pa_nil)) pa_nil))) pa_nil)) pa_nil))))) (pss_one (ps_ret (pv 3))))), ?_⟩
    refine ⟨fun σ' H' => ∃ p q, σ' = [some (.ref a), some (.ref l), some (.ref p), some (.ref q)] ∧ H p = none ∧ H q = none ∧ p ≠ q ∧ Keep [] H H' ∧ H' p = some (.lst xs) ∧ H' q = some (.lst []), ?_, ?_⟩
    · refine ⟨_, rfl, l, xs, rfl, .inl hl, fun p hp => ⟨Nat.zero_le _, fun q hq => ?_⟩⟩
      have k1 : Keep [] H (upd H p (.lst xs)) := Keep.new hp
      have k2 : Keep [] (upd H p (.lst xs)) (upd (upd H p (.lst xs)) q (.lst [])) := Keep.new hq
      exact ⟨.ref p, .ref q, rfl, p, q, rfl, hp, k1.free (by simp) hq, ne_of_none upd_same hq, k1.trans k2, k2.to upd_same, upd_same⟩
    rintro σ' H1 ⟨p, q, rfl, np, nq, pq, k1, lp, lq⟩
    refine ⟨fun σ' H' => ∃ (ys : List V) (ms : List Ln), σ' = [some (.ref a), some (.ref l), some (.ref p), some (.ref q)] ∧ Keep [a] H H' ∧ Src H' a ∧ H' q = some (.lst ys) ∧ DtAll K H' ys (ms.map lnD) ∧ ms.length = ls.length ∧ ∀ z ∈ ms, z ∈ ls, ?_, ?_⟩
    · refine ⟨fun m σ' H' => ∃ (ys : List V) (ms : List Ln) (us : List V) (ns : List Ln), σ' = [some (.ref a), some (.ref l), some (.ref p), some (.ref q)] ∧ Keep [a] H H' ∧ Src H' a ∧ H' p = some (.lst us) ∧ H' q = some (.lst ys) ∧ DtAll K H' us (List.map lnD ns) ∧ DtAll K H' ys (List.map lnD ms) ∧ ns.length = m ∧ ms.length + ns.length = ls.length ∧ (∀ z ∈ ms, z ∈ ls) ∧ (∀ z ∈ ns, z ∈ ls), ⟨ls.length, [], [], xs, ls, rfl, Keep.of_nil k1, hs.keep k1 (by simp), lp, lq, hd.k0 k1, .nil, rfl, by simp, (fun z h => by cases h), fun z h => h⟩, ?_⟩
      rintro m σ' H2 ⟨ys, ms, us, os, rfl, k2, s2, lp2, lq2, du, dy, hm, hln, hms, hos⟩
      refine ⟨_, rfl, Nat.zero_le _, fun r hr1 => ?_⟩
      have kR : Keep [] H2 (upd H2 r (.lst [])) := Keep.new hr1
      have du1 := du.k0 kR
      have dy1 := dy.k0 kR
      have pr : p ≠ r := ne_of_none lp2 hr1
      have qr : q ≠ r := ne_of_none lq2 hr1
      refine ⟨.list (os.map lnD), .list [], .lst (SqL.of (kR.to lp2)) (DtAll.dp du1), .lst (SqL.of upd_same) .nil, (lines_lay (n := 0) hok fun z h => hg z (hos z h)).shaped (by decide), (Lay.list (n := 0) (ds := []) (fun z h => by cases h)).shaped (by decide), _, rfl, ?_⟩
      rw [eqv_nil]
      cases os with
      | nil =>
        exact ⟨ys, ms, rfl, k2.trans (Keep.of_nil kR), s2.keep kR (by simp), kR.to lq2, dy1, by simpa using hln, hms⟩
      | cons o os =>
        have lu : us.length = os.length + 1 := by rw [du.length]; simp
        have lo : os.length + 1 ≤ 8 := by
          simp only [List.length_cons] at hln
          omega
        obtain ⟨x0, y0, ea, _⟩ := id (s2.keep kR (by simp))
        refine ⟨_, fun _ _ z => z, ?_⟩
        refine ⟨_, rfl, .inl ⟨rfl, _, SqL.of (kR.to lq2)⟩, _, rfl, .inl ⟨rfl, _, SqL.of (kR.to lp2)⟩, _, rfl, _, rfl, p, us, rfl, .inl (SqL.of (kR.to lp2)), a, _, rfl, s2.keep kR (by simp), by rw [lu]; omega, by rw [lu]; omega, fun n H3 n0 n1 k3 s3 => ?_⟩
        obtain ⟨j, rfl⟩ := Int.eq_ofNat_of_zero_le n0
        have hj : j < us.length := by omega
        have pa : p ≠ a := (ne_of_none (show H a = _ from hs.choose_spec.choose_spec.1) np).symm
        have qa : q ≠ a := (ne_of_none (show H a = _ from hs.choose_spec.choose_spec.1) nq).symm
        have lp3 := k3 _ _ (by simpa using pa) (kR.to lp2)
        have lq3 := k3 _ _ (by simpa using qa) (kR.to lq2)
        have du3 := du1.keep k3 (s2.keep kR (by simp)).soft
        have dy3 := dy1.keep k3 (s2.keep kR (by simp)).soft
        obtain ⟨d, hd', dv⟩ := du3.get (i := j) (v := us[j]) (by simp [hj])
        rw [List.getElem?_map] at hd'
        obtain ⟨z, hz, rfl⟩ : ∃ z, (o :: os)[j]? = some z ∧ lnD z = d := by
          cases e : (o :: os)[j]? with
          | none =>
            rw [e] at hd'
            cases hd'
          | some z =>
            rw [e] at hd'
            exact ⟨z, rfl, Option.some.inj hd'⟩
        have zin : z ∈ o :: os := List.mem_of_getElem? hz
        refine ⟨p, us, j, j, us[j], rfl, rfl, lp3, by omega, by omega, seqIndex_nat hj, by simp [hj], ?_⟩
        have kp : Keep [p] H3 (upd H3 p (.lst (us.eraseIdx j))) := Keep.at_ (by simp)
        have lq4 : upd H3 p (.lst (us.eraseIdx j)) q = some (.lst ys) := kp _ _ (by simpa using pq.symm) lq3
        refine ⟨q, ys, _, rfl, rfl, lq4, ?_, ?_⟩
        · rw [dy.length, List.length_map]
          refine Nat.lt_of_lt_of_le (?_ : ms.length < 100) (by decide)
          simp only [List.length_cons] at hln
          omega
        · have kq : Keep [q] (upd H3 p (.lst (us.eraseIdx j))) (upd (upd H3 p (.lst (us.eraseIdx j))) q (.lst (ys ++ [us[j]]))) := Keep.at_ (by simp)
          have dall : ∀ {vs ds}, DtAll K H3 vs ds → DtAll K (upd (upd H3 p (.lst (us.eraseIdx j))) q (.lst (ys ++ [us[j]]))) vs ds := fun h => (h.keep kp (Soft.lst lp3)).keep kq (Soft.lst lq4)
          refine ⟨m - 1, by simp only [List.length_cons] at hm; omega, ys ++ [us[j]], ms ++ [z], us.eraseIdx j, (o :: os).eraseIdx j, rfl, ?_, ?_, ?_, upd_same, ?_, ?_, ?_, ?_, ?_, ?_⟩
          · exact Keep.own (Keep.own (k2.trans ((Keep.of_nil kR).trans k3)) np) nq
          · exact (s3.keep kp (by simpa using pa.symm)).keep kq (by simpa using qa.symm)
          · exact kq _ _ (by simpa using pq) upd_same
          · rw [← map_erase]
            exact dall (du3.eraseIdx j)
          · rw [List.map_append]
            exact (dall dy3).append (.cons (by
              have := dall (.cons dv .nil)
              cases this with
              | cons h _ => exact h) .nil)
          · rw [List.length_eraseIdx]
            simp only [List.length_cons] at hm ⊢
            have : j < os.length + 1 := by omega
            simp only [this, if_true]
            omega
          · rw [List.length_eraseIdx, List.length_append]
            simp only [List.length_cons] at hln hm ⊢
            have : j < os.length + 1 := by omega
            simp only [this, if_true, List.length_nil]
            omega
          · intro y hy
            rcases List.mem_append.mp hy with hy | hy
            · exact hms y hy
            · rw [List.mem_singleton.mp hy]
              exact hos z zin
          · exact fun y hy => hos y (mem_erase hy)
    rintro σ' H2 ⟨ys, ms, rfl, k2, s2, lq2, dy, hm, hms⟩
    exact ⟨_, rfl, k q ys ms H2 k2 nq s2 lq2 dy hm hms⟩
end
end La
set_option Elab.async false
set_option linter.all false
set_option maxRecDepth 100000
set_option maxHeartbeats 4000000
namespace La
open PySem PySem.Spec PyProof.Rows L2 SM
/-- the lines of a rule that keeps changes by a note -/
def spGood (K : PySem.W.Frag) : Sp := fun vs H Q _ => ∃ (a : Addr) (ns : List Str) (nt : Str), vs = [.ref a, .str nt] ∧ Src H a ∧ OkN ns ∧ nt ∈ ns ∧
  ∀ (p : Addr) (ys : List V) (ms : List Ln) (H' : Hp), Keep [a] H H' → H p = none → Src H' a → H' p = some (.lst ys) → DtAll K H' ys (ms.map lnD) → 2 ≤ ms.length → ms.length ≤ 3 → (∀ z ∈ ms, GoodL ns z) → Q (.ref p) H'
theorem at0 (x : V) (xs : List V) : atI (x :: xs) 0 = some x := by
  simp [atI, ixN]
theorem at1 (x y : V) (xs : List V) : atI (x :: y :: xs) 1 = some y := by
  have h : (1 : Int) < (xs.length : Int) + 1 + 1 := by omega
  simp [atI, ixN, h]
def gl1 (nt : Str) : Ln := ⟨[("here", nt, true)], [("here", "new"), (nt, "new")], none⟩
def gl2 (nt : Str) : Ln := ⟨[("here", "new", true)], [(nt, "new")], none⟩
def gl3 (nt : Str) : Ln := ⟨[("new", nt, true)], [], none⟩
theorem gl_good {nt : Str} {ns : List Str} (h : nt ∈ ns) : ∀ z ∈ [gl1 nt, gl2 nt, gl3 nt], GoodL ns z := by
  intro z hz
  simp only [List.mem_cons, List.not_mem_nil, or_false] at hz
  rcases hz with rfl | rfl | rfl
  · refine ⟨⟨Nat.le_of_ble_eq_true rfl, fun t z => ?_⟩, ⟨Nat.le_of_ble_eq_true rfl, fun t z => ?_⟩, fun k z => by cases z⟩
    · rw [List.mem_singleton.mp z]
      exact ⟨.inl rfl, .inr (.inr (.inr h))⟩
    · rcases List.mem_cons.mp z with e | z
      · rw [e]
        exact ⟨.inl rfl, .inl rfl⟩
      · rw [List.mem_singleton.mp z]
        exact ⟨.inr h, .inl rfl⟩
  · refine ⟨⟨Nat.le_of_ble_eq_true rfl, fun t z => ?_⟩, ⟨Nat.le_of_ble_eq_true rfl, fun t z => ?_⟩, fun k z => by cases z⟩
    · rw [List.mem_singleton.mp z]
      exact ⟨.inl rfl, .inl rfl⟩
    · rw [List.mem_singleton.mp z]
      exact ⟨.inr h, .inl rfl⟩
  · refine ⟨⟨Nat.le_of_ble_eq_true rfl, fun t z => ?_⟩, ⟨Nat.le_of_ble_eq_true rfl, fun t z => by cases z⟩, fun k z => by cases z⟩
    rw [List.mem_singleton.mp z]
    exact ⟨.inr (.inl rfl), .inr (.inr (.inr h))⟩
section
variable {P : Program} {w : World} {K : PySem.W.Frag} {mg : Str → Option Value} {base : Heap}
abbrev s__law_good : Stmt := (top 49)
abbrev N__law_good : List Str := ["source", "note", "lines", "kind"]
abbrev P__law_good : List Str := ["source", "note"]
theorem sc__law_good : FnScope N__law_good P__law_good (defScope s__law_good) := ⟨rfl, rfl, rfl, by decide +kernel, rfl, by decide +kernel, by decide +kernel⟩
theorem D_law_good (W : Cw fas fns K mg) (D_law_draw : DefOk P w K mg base CX0 1 "_law_draw" P__law_draw spDraw) (D_law_mixed : DefOk P w K mg base CX0 2 "_law_mixed" P__law_mixed (spMixed K)) : DefOk P w K mg base CX0 3 "_law_good" P__law_good (spGood K) := by
  refine DefOk.of W 46 41 (st := s__law_good) rfl rfl sc__law_good (fun _ _ _ _ _ _ us hl => match us, hl with | [_, _], _ => rfl) (fun vs H Q E h => ?_) (fun cdv A outer s H vs Q E hr h => ?_)
  · obtain ⟨a, ns, nt, rfl, _⟩ := h
    rfl
  · obtain ⟨a, ns, nt, rfl, hs, hok, hn, k⟩ := h
    refine ⟨_, PSs.nox (Evl.pss_cut (ps_set (i := 2) sc__law_good.nd rfl (by first | exact Or.inl rfl | exact Or.inr rfl) (pe_lst (pa_cons (pe_tup (pa_cons (pe_tup (pa_cons (pe_tup (pa_cons pe_str (pa_cons (pv 1) (pa_cons pe_bl pa_nil)))) pa_nil)) (pa_cons (pe_tup (pa_cons (pe_tup (pa_cons pe_str (pa_cons pe_str pa_nil))) (pa_cons (pe_tup (pa_cons (pv 1) (pa_cons pe_str pa_nil))) pa_nil))) pa_nil))) (pa_cons (pe_tup (pa_cons (pe_tup (pa_cons (pe_tup (pa_cons pe_str (pa_cons pe_str (pa_cons pe_bl pa_nil)))) pa_nil)) (pa_cons (pe_tup (pa_cons (pe_tup (pa_cons (pv 1) (pa_cons pe_str pa_nil))) pa_nil)) pa_nil))) pa_nil)))) (Evl.pss_cut (ps_expr (pe_bm PySem.F.plainAttrs_list PySem.F.slot_list_append PySem.F.type_list_append mt_append (pv 2) (pa_cons (pe_tup (pa_cons (pe_tup (pa_cons (pe_tup (pa_cons pe_str (pa_cons (pv 1) (pa_cons pe_bl pa_nil)))) pa_nil)) (pa_cons (pe_tup pa_nil) pa_nil))) pa_nil))) (Evl.pss_cut (ps_set (i := 3) sc__law_good.nd rfl (by first | exact Or.inl rfl | exact Or.inr rfl) (SM.pe_callD D_law_draw (hr.mono (by decide)) pass0 (pa_cons (pv 0) (pa_cons pe_int pa_nil)))) (Evl.pss_cut (ps_if (pt_cmpR op_eq (pv 3) pe_int (nomark _)) (pss_one (ps_expr (pe_bm PySem.F.plainAttrs_list PySem.F.slot_list_pop PySem.F.type_list_pop mt_popAt (pv 2) (pa_cons (SM.pe_callD D_law_draw (hr.mono (by decide)) pass0 (pa_cons (pv 0) (pa_cons pe_int pa_nil))) pa_nil)))) pss_nil) (Evl.pss_cut (ps_if (pt_cmpR op_eq (pv 3) pe_int (nomark _)) (pss_one (ps_set (i := 2) sc__law_good.nd rfl (by first | exact Or.inl rfl | exact Or.inr rfl) (SM.pe_callD D_law_mixed (hr.mono (by decide)) pass0 (pa_cons (pv 0) (pa_cons (pv 2) pa_nil))))) pss_nil) (Evl.pss_cut (ps_if (pt_cmpR op_eq (pv 3) pe_int (nomark _)) (pss_one (ps_asg (pe_tup (pa_cons (pe_ix ix_seq (pe_ix ix_seq (pv 2) pe_int (fun _ _ => rfl)) pe_int (fun _ _ => rfl)) (pa_cons (SM.pe_revT (pe_ix ix_seq (pe_ix ix_seq (pv 2) pe_int (fun _ _ => rfl)) pe_int (fun _ _ => rfl))) pa_nil))) (pg_sub (pv 2) pe_int set_list))) pss_nil) (pss_one (ps_ret (pv 2))))))))), ?_⟩
    have bnd3 : ∀ n : Nat, n ≤ 3 → n ≤ sizeLine := fun n h => Nat.le_trans h (by decide)
    refine ⟨fun σ' H' => ∃ p xs, σ' = [some (.ref a), some (.str nt), some (.ref p), none] ∧ H p = none ∧ Keep [] H H' ∧ H' p = some (.lst xs) ∧ DtAll K H' xs ([gl1 nt, gl2 nt].map lnD), ?_, ?_⟩
    · refine LtA.lst (K := K) (ds := [gl1 nt, gl2 nt].map lnD) (.cons (.tup (.cons (.tup (.cons (.tup (.cons .str (.cons (.var rfl) (.cons .bl .nil)))) .nil)) (.cons (.tup (.cons (.tup (.cons .str (.cons .str .nil))) (.cons (.tup (.cons (.var rfl) (.cons .str .nil))) .nil))) .nil)))
        (.cons (.tup (.cons (.tup (.cons (.tup (.cons .str (.cons .str (.cons .bl .nil)))) .nil)) (.cons (.tup (.cons (.tup (.cons (.var rfl) (.cons .str .nil))) .nil)) .nil))) .nil)) rfl ?_
      exact fun p xs H' hp k1 e d => ⟨p, xs, rfl, hp, k1, e, d⟩
    rintro σ' H1 ⟨p, xs, rfl, np, k1, lp1, d1⟩
    have pa : p ≠ a := (ne_of_none hs.choose_spec.choose_spec.1 np).symm
    have gl : ∀ z ∈ [gl1 nt, gl2 nt, gl3 nt], GoodL ns z := gl_good hn
    refine ⟨fun σ' H' => ∃ xs, σ' = [some (.ref a), some (.str nt), some (.ref p), none] ∧ Keep [] H H' ∧ H' p = some (.lst xs) ∧ DtAll K H' xs ([gl1 nt, gl2 nt, gl3 nt].map lnD), ?_, ?_⟩
    · refine ⟨_, rfl, .inl ⟨rfl, _, SqL.of lp1⟩, ?_⟩
      refine LtA.cons (K := K) (d := lnD (gl3 nt)) (.tup (.cons (.tup (.cons (.tup (.cons .str (.cons (.var rfl) (.cons .bl .nil)))) .nil)) (.cons (.tup .nil) .nil))) .nil H1 _ ?_
      intro ys H2 k2 d2
      cases d2 with
      | cons dv dn =>
        cases dn
        refine ⟨p, xs, _, rfl, rfl, k2.to lp1, ?_, ?_⟩
        · rw [d1.length]
          exact Nat.lt_of_lt_of_le (show 2 < 100 by decide) (by decide)
        · exact ⟨_, rfl, Keep.own (k1.trans k2) np, upd_same, ((d1.k0 k2).append (.cons dv .nil)).keep (Keep.at_ (m := [p]) (by simp)) (Soft.lst (k2.to lp1))⟩
    rintro σ' H2 ⟨ys, rfl, k2, lp2, d2⟩
    have s2 := hs.keep k2 (by simp)
    have hl2 : ys.length = 3 := by rw [d2.length]; rfl
    refine ⟨fun σ' H' => ∃ kd, σ' = [some (.ref a), some (.str nt), some (.ref p), some (.int kd)] ∧ Keep [a] H H' ∧ Src H' a ∧ H' p = some (.lst ys) ∧ DtAll K H' ys ([gl1 nt, gl2 nt, gl3 nt].map lnD), ?_, ?_⟩
    · exact ⟨_, rfl, a, 5, rfl, s2, by decide, by decide, fun r H3 r0 r1 k3 s3 => ⟨r, rfl, (Keep.of_nil k2).trans k3, s3, k3 _ _ (by simpa using pa) lp2, d2.keep k3 s2.soft⟩⟩
    rintro σ' H3 ⟨kd, rfl, k3, s3, lp3, d3⟩
    let M : L2.St → Hp → Prop := fun σ' H' => ∃ (p' : Addr) (ys : List V) (ms : List Ln), σ' = [some (.ref a), some (.str nt), some (.ref p'), some (.int kd)] ∧ H p' = none ∧ Keep [a] H H' ∧ Src H' a ∧ H' p' = some (.lst ys) ∧ DtAll K H' ys (ms.map lnD) ∧ 2 ≤ ms.length ∧ ms.length ≤ 3 ∧ ∀ z ∈ ms, GoodL ns z
    refine ⟨M, ?_, ?_⟩
    · refine ⟨_, rfl, rfl, _, rfl, ?_⟩
      refine ite2 (fun _ => ?_) (fun _ => ?_)
      · refine ⟨_, rfl, .inl ⟨rfl, _, SqL.of lp3⟩, _, rfl, a, 3, rfl, s3, by decide, by decide, fun r H4 r0 r1 k4 s4 => ?_⟩
        obtain ⟨j, rfl⟩ := Int.eq_ofNat_of_zero_le r0
        have hj : j < ys.length := by omega
        have lp4 := k4 _ _ (by simpa using pa) lp3
        have d4 := d3.keep k4 s3.soft
        refine ⟨p, ys, j, j, ys[j], rfl, rfl, lp4, by omega, by omega, seqIndex_nat hj, by simp [hj], ?_⟩
        have kp : Keep [p] H4 (upd H4 p (.lst (ys.eraseIdx j))) := Keep.at_ (by simp)
        have hj3 : j < 3 := by omega
        refine ⟨p, ys.eraseIdx j, [gl1 nt, gl2 nt, gl3 nt].eraseIdx j, rfl, np, Keep.own (k3.trans k4) np, s4.keep kp (by simpa using pa.symm), upd_same, ?_, ?_, ?_, fun z hz => gl z (mem_erase hz)⟩
        · rw [← map_erase]
          exact (d4.eraseIdx j).keep kp (Soft.lst lp4)
        · rw [List.length_eraseIdx]
          simp [hj3]
        · rw [List.length_eraseIdx]
          simp [hj3]
      · exact ⟨p, ys, _, rfl, np, k3, s3, lp3, d3, Nat.le_of_ble_eq_true rfl, Nat.le_of_ble_eq_true rfl, gl⟩
    rintro σ' H4 ⟨p4, y4, m4, rfl, n4, k4, s4, lp4, d4, l2, l3, g4⟩
    refine ⟨M, ?_, ?_⟩
    · refine ⟨_, rfl, rfl, _, rfl, ?_⟩
      refine ite2 (fun _ => ?_) (fun _ => ?_)
      · refine ⟨_, rfl, _, rfl, a, p4, y4, ns, m4, rfl, s4, SqL.of lp4, d4, hok, g4, by omega, fun q zs os H5 k5 nq s5 lq dq hl hm => ?_⟩
        exact ⟨q, zs, os, rfl, k4.free (by simpa using (ne_of_none s4.choose_spec.choose_spec.1 nq).symm) nq, k4.trans k5, s5, lq, dq, by omega, by omega, fun z hz => g4 z (hm z hz)⟩
      · exact ⟨p4, y4, m4, rfl, n4, k4, s4, lp4, d4, l2, l3, g4⟩
    rintro σ' H5 ⟨p5, y5, m5, rfl, n5, k5, s5, lp5, d5, l25, l35, g5⟩
    have pa5 : p5 ≠ a := (ne_of_none hs.choose_spec.choose_spec.1 n5).symm
    refine ⟨M, ?_, ?_⟩
    · refine ⟨_, rfl, rfl, _, rfl, ?_⟩
      refine ite2 (fun _ => ?_) (fun _ => ?_)
      · cases m5 with
        | nil => simp at l25
        | cons m0 ms =>
          generalize hy : y5 = yy at d5
          cases d5 with
          | cons dv dr =>
            rename_i v vs
            obtain ⟨la, lxs, rfl, hla, dl⟩ := dv.items
            generalize hx : lxs = xx at dl
            cases dl with
            | cons dt dl =>
              cases dl with
              | cons ds dk =>
                rename_i vt vr' vsx vk
                obtain ⟨sa, sxs, rfl, hsa, dss⟩ := ds.items
                subst hy hx
                refine ⟨_, rfl, .inl ⟨p5, _, 0, _, rfl, rfl, SqL.of lp5, at0 .., .inr (.inl ⟨la, _, 0, _, rfl, rfl, hla, at0 .., ?_⟩)⟩⟩
                refine ⟨_, rfl, .inl ⟨p5, _, 0, _, rfl, rfl, SqL.of lp5, at0 .., .inr (.inl ⟨la, _, 1, _, rfl, rfl, hla, at1 .., ?_⟩)⟩⟩
                refine ⟨sa, sxs, rfl, hsa, fun q1 n1 => ⟨(by show 2 ≤ sizeLine; decide), fun q2 n2 => ⟨_, rfl, p5, _, 0, 0, rfl, rfl, ((Keep.new (m := []) n1).trans (Keep.new n2)).to lp5, by simp [ixN], ?_⟩⟩⟩
                have fin : ∀ Hd, Keep [] H5 Hd → Hd q2 = some (.tup [vr', .ref q1]) → Hd q1 = some (.tup sxs.reverse) → M [some (.ref a), some (.str nt), some (.ref p5), some (.int kd)] (upd Hd p5 (.lst (.ref q2 :: vs))) := by
                  intro Hd kd' h2 h1
                  have kp : Keep [p5] Hd (upd Hd p5 (.lst (.ref q2 :: vs))) := Keep.at_ (by simp)
                  have g0 := g5 m0 List.mem_cons_self
                  refine ⟨p5, _, ⟨m0.tests, m0.steps.reverse, none⟩ :: ms, rfl, n5, Keep.own (k5.trans (Keep.of_nil kd')) n5, (s5.keep kd' (by simp)).keep kp (by simpa using pa5.symm), upd_same, ?_, l25, l35, ?_⟩
                  · have dn : Dt K Hd (.ref q2) (lnD ⟨m0.tests, m0.steps.reverse, none⟩) := by
                      refine .tup (SqT.of h2) (.cons (dt.k0 kd') (.cons (.tup (SqT.of h1) ?_) .nil))
                      rw [List.map_reverse]
                      exact (dss.k0 kd').rev
                    exact (DtAll.cons dn (dr.k0 kd')).keep kp (Soft.lst (kd'.to lp5))
                  · intro z hz
                    rcases List.mem_cons.mp hz with e | hz
                    · rw [e]
                      exact ⟨g0.tests, ⟨by rw [List.length_reverse]; exact g0.steps.1, fun s hs => g0.steps.2 s (List.mem_reverse.mp hs)⟩, fun k z => by cases z⟩
                    · exact g5 z (List.mem_cons_of_mem _ hz)
                exact fin _ ((Keep.new n1).trans (Keep.new n2)) upd_same ((Keep.new (m := []) n2).to upd_same)
      · exact ⟨p5, y5, m5, rfl, n5, k5, s5, lp5, d5, l25, l35, g5⟩
    rintro σ' H6 ⟨p6, y6, m6, rfl, n6, k6, s6, lp6, d6, l26, l36, g6⟩
    exact ⟨_, rfl, k p6 y6 m6 H6 k6 n6 s6 lp6 d6 l26 l36 g6⟩
end
end La
set_option Elab.async false
set_option linter.all false
set_option maxRecDepth 100000
set_option maxHeartbeats 4000000
namespace La
open PySem PySem.Spec PyProof.Rows L2 SM
/-- a plan with another word for "was" -/
def spNoted (K : PySem.W.Frag) : Sp := fun vs H Q _ => ∃ (wd : Str) (n l : Addr) (us xs : List V) (ns : List Str) (ls : List Ln), vs = [.str wd, .ref n, .ref l] ∧ SqT K H n us ∧ DtAll K H us (ns.map PyData.str) ∧ ns.length ≤ 3 ∧ SqL K H l xs ∧ DtAll K H xs (ls.map lnD) ∧ ls.length ≤ 8 ∧ (∀ z ∈ ls, GoodL ns z) ∧
  ∀ v H', Keep [] H H' → Dt K H' v (planD (ns.map (ren wd)) (ls.map (renL wd))) → Q v H'
section
variable {P : Program} {w : World} {K : PySem.W.Frag} {mg : Str → Option Value} {base : Heap}
abbrev s__law_noted_as : Stmt := (top 50)
abbrev N__law_noted_as : List Str := ["word", "names", "lines", "found", "line", "lists", "one", "entry", "part", "name"]
abbrev P__law_noted_as : List Str := ["word", "names", "lines"]
theorem sc__law_noted_as : FnScope N__law_noted_as P__law_noted_as (defScope s__law_noted_as) := ⟨rfl, rfl, rfl, by decide +kernel, rfl, by decide +kernel, by decide +kernel⟩
theorem parts_shape {ns : List Str} {z : Ln} (g : GoodL ns z) : ∀ d ∈ partsD z, ∃ es, d = .tuple es ∧ es.length ≤ 100 ∧ ∀ e ∈ es, ∃ fs, e = .tuple fs ∧ fs.length ≤ 100 ∧ ∀ f ∈ fs, ∀ ds, f ≠ .tuple ds := by
  have hs : ∀ l : List (Str × Str), l.length ≤ 4 → ∃ es, stepsD l = .tuple es ∧ es.length ≤ 100 ∧ ∀ e ∈ es, ∃ fs, e = .tuple fs ∧ fs.length ≤ 100 ∧ ∀ f ∈ fs, ∀ ds, f ≠ .tuple ds := by
    intro l h
    refine ⟨_, rfl, by rw [List.length_map]; omega, fun e he => ?_⟩
    obtain ⟨s, _, rfl⟩ := List.mem_map.mp he
    refine ⟨_, rfl, Nat.le_of_ble_eq_true rfl, fun f hf ds => ?_⟩
    simp only [List.mem_cons, List.not_mem_nil, or_false] at hf
    rcases hf with rfl | rfl <;> (intro z; cases z)
  intro d hd
  rcases List.mem_cons.mp hd with rfl | hd
  · refine ⟨_, rfl, by rw [List.length_map]; have := g.tests.1; omega, fun e he => ?_⟩
    obtain ⟨s, _, rfl⟩ := List.mem_map.mp he
    refine ⟨_, rfl, Nat.le_of_ble_eq_true rfl, fun f hf ds => ?_⟩
    simp only [List.mem_cons, List.not_mem_nil, or_false] at hf
    rcases hf with rfl | rfl | rfl <;> (intro z; cases z)
  · rcases List.mem_cons.mp hd with rfl | hd
    · exact hs _ g.steps.1
    · cases hk : z.keep with
      | none =>
        rw [hk] at hd
        cases hd
      | some k =>
        rw [hk] at hd
        rw [List.mem_singleton.mp hd]
        exact hs _ (g.keep k hk).1
theorem parts_len (z : Ln) : (partsD z).length ≤ 100 := by
  obtain ⟨t, s, k⟩ := z
  cases k <;> exact Nat.le_of_ble_eq_true rfl
theorem ren_item {wd : Str} {j : Nat} {σ : L2.St} {H2 : Hp} {v : V} {d : PyData} (h0 : σ[0]? = some (some (.str wd))) (hj : σ[j]? = some (some v)) (hf : ∀ ds, d ≠ .tuple ds) (dv : Dt K H2 v d) :
    LtH K (tIf (tTest (tOp rEq (tVar j) (tC (.str "was")))) (tVar 0) (tVar j)) σ H2 (renD wd d) := by
  intro H1 k1 Q k
  cases dv with
  | non => exact ⟨_, hj, rfl, _, rfl, ite2 (fun e => absurd (of_decide_eq_true e) (by intro z; cases z)) (fun _ => ⟨_, hj, k _ _ Keep.refl .non⟩)⟩
  | bl b => exact ⟨_, hj, rfl, _, rfl, ite2 (fun e => absurd (of_decide_eq_true e) (by intro z; cases z)) (fun _ => ⟨_, hj, k _ _ Keep.refl (.bl b)⟩)⟩
  | int i => exact ⟨_, hj, rfl, _, rfl, ite2 (fun e => absurd (of_decide_eq_true e) (by intro z; cases z)) (fun _ => ⟨_, hj, k _ _ Keep.refl (.int i)⟩)⟩
  | str x =>
    refine ⟨_, hj, rfl, _, rfl, ?_⟩
    refine ite2 (fun e => ?_) (fun e => ?_)
    · have e' : x = "was" := V.str.inj (of_decide_eq_true e)
      refine ⟨_, h0, k _ _ Keep.refl ?_⟩
      show Dt K H1 _ (.str (ren wd x))
      rw [ren, if_pos e']
      exact .str wd
    · have e' : x ≠ "was" := fun z => e (decide_eq_true (congrArg V.str z))
      refine ⟨_, hj, k _ _ Keep.refl ?_⟩
      show Dt K H1 _ (.str (ren wd x))
      rw [ren, if_neg e']
      exact .str x
  | tup s t => exact absurd rfl (hf _)
theorem D_law_noted_as (W : Cw fas fns K mg) : DefOk P w K mg base CX0 1 "_law_noted_as" P__law_noted_as (spNoted K) := by
  refine DefOk.of W 47 42 (st := s__law_noted_as) rfl rfl sc__law_noted_as (fun _ _ _ _ _ _ us hl => match us, hl with | [_, _, _], _ => rfl) (fun vs H Q E h => ?_) (fun cdv A outer s H vs Q E hr h => ?_)
  · obtain ⟨wd, n, l, us, xs, ns, ls, rfl, _⟩ := h
    rfl
  · obtain ⟨wd, n, l, us, xs, ns, ls, rfl, hn, dn, n3, hl, dl, l8, hg, k⟩ := h
    refine ⟨_, PSs.nox (Evl.pss_cut (ps_set (i := 3) sc__law_noted_as.nd rfl (by first | exact Or.inl rfl | exact Or.inr rfl) (pe_lst pa_nil)) (Evl.pss_cut (ps_for PassesOwn.never rfl (pi_list (pv 2)) (pg_name (i := 4) sc__law_noted_as.nd rfl (by first | exact Or.inl rfl | exact Or.inr rfl)) (Evl.pss_cut (ps_setLc (i := 5) (own := [("part", 8)]) (g := gName 8) (tt := tYes) (te := SM.teTup K (tLc (iTup K _) _ tYes (SM.teTup K (tLc (iTup K _) _ tYes _ _)) _)) (by rfl) sc__law_noted_as.nd rfl rfl (sw_true rfl rfl rfl (by decide +kernel)) (pi_tup (pv 4)) (blkOk_by (own := [("part", 8)]) (N := N__law_noted_as) (sc := defScope s__law_noted_as) (by decide +kernel)) (fun _ _ _ _ _ => pg_name (i := 8) sc__law_noted_as.nd rfl (Or.inl rfl)) (fun _ _ _ _ _ => pts_nil) (fun _ _ _ _ _ => (pe_callTy call_tuple_of (by rfl) (W.fre 79) (by decide +kernel) (pa_cons (pe_lc (own := [("entry", 7)]) (g := gName 7) (tt := tYes) (te := SM.teTup K (tLc (iTup K _) _ tYes _ _)) (by rfl) sc__law_noted_as.nd (pi_tup (pv 8)) (SM.blkOk_nest (own := [("entry", 7)]) (N := N__law_noted_as) (by decide +kernel)) (fun _ _ _ _ _ => pg_name (i := 7) sc__law_noted_as.nd rfl (Or.inl rfl)) (fun _ _ _ _ _ => pts_nil) (fun _ _ _ _ _ => (pe_callTy call_tuple_of (by rfl) (W.fre 79) (by decide +kernel) (pa_cons (pe_lc (own := [("one", 6)]) (g := gName 6) (tt := tYes) (by rfl) sc__law_noted_as.nd (pi_tup (pv 7)) (SM.blkOk_nest (own := [("one", 6)]) (N := N__law_noted_as) (by decide +kernel)) (fun _ _ _ _ _ => pg_name (i := 6) sc__law_noted_as.nd rfl (Or.inl rfl)) (fun _ _ _ _ _ => pts_nil) (fun _ _ _ _ _ => (pe_ifExp (pt_cmpR op_eq (pv 6) pe_str (nomark _)) (pv 0) (pv 6)))) pa_nil)))) pa_nil)))) (pss_one (ps_expr (pe_bm PySem.F.plainAttrs_list PySem.F.slot_list_append PySem.F.type_list_append mt_append (pv 3) (pa_cons (pe_callTy call_tuple_of (by rfl) (W.fre 79) (by decide +kernel) (pa_cons (pv 5) pa_nil)) pa_nil)))))) (pss_one (ps_ret (pe_tup (pa_cons (pe_callTy call_tuple_of (by rfl) (W.fre 79) (by decide +kernel) (pa_cons (pe_lc (own := [("name", 9)]) (g := gName 9) (tt := tYes) (by rfl) sc__law_noted_as.nd (pi_tup (pv 1)) (blkOk_by (own := [("name", 9)]) (N := N__law_noted_as) (sc := defScope s__law_noted_as) (by decide +kernel)) (fun _ _ _ _ _ => pg_name (i := 9) sc__law_noted_as.nd rfl (Or.inl rfl)) (fun _ _ _ _ _ => pts_nil) (fun _ _ _ _ _ => (pe_ifExp (pt_cmpR op_eq (pv 9) pe_str (nomark _)) (pv 0) (pv 9)))) pa_nil)) (pa_cons (pe_callTy call_tuple_of (by rfl) (W.fre 79) (by decide +kernel) (pa_cons (pv 3) pa_nil)) pa_nil))))))), ?_⟩
    refine ⟨fun σ' H' => ∃ p, σ' = [some (.str wd), some (.ref n), some (.ref l), some (.ref p), none, none, none, none, none, none] ∧ H p = none ∧ Keep [] H H' ∧ H' p = some (.lst []), ?_, ?_⟩
    · exact ⟨Nat.zero_le _, fun p hp => ⟨p, rfl, hp, Keep.new hp, upd_same⟩⟩
    rintro σ' H1 ⟨p, rfl, np, k1, lp1⟩
    have lenx : xs.length = ls.length := by rw [dl.length, List.length_map]
    refine ⟨fun σ' H' => ∃ ys g4 g5, σ' = [some (.str wd), some (.ref n), some (.ref l), some (.ref p), g4, g5, none, none, none, none] ∧ Keep [] H H' ∧ H' p = some (.lst ys) ∧ DtAll K H' ys (linesD (ls.map (renL wd))), ?_, ?_⟩
    · refine ⟨_, rfl, l, rfl, ⟨xs, k1.same.seq hl⟩, ?_⟩
      refine for_list (xs := xs) (fun i σ' H' => ∃ ys g4 g5, σ' = [some (.str wd), some (.ref n), some (.ref l), some (.ref p), g4, g5, none, none, none, none] ∧ Keep [] H H' ∧ H' p = some (.lst ys) ∧ ys.length = i ∧ DtAll K H' ys (linesD ((ls.take i).map (renL wd)))) ⟨[], none, none, rfl, k1, lp1, rfl, by simpa [linesD] using DtAll.nil⟩ ?_ ?_ ?_
      · rintro i σ' H' _ ⟨ys, g4, g5, rfl, k2, _⟩
        exact k2.same.seq hl
      · rintro i x σ' H2 hx ⟨ys, g4, g5, rfl, k2, lp2, leny, dy⟩
        obtain ⟨d, hd, dx⟩ := dl.get hx
        have hi : i < ls.length := by
          rw [← lenx]
          rcases Nat.lt_or_ge i xs.length with h | h
          · exact h
          · rw [List.getElem?_eq_none h] at hx
            cases hx
        have hz : ls[i]? = some ls[i] := by simp [hi]
        have ed : d = lnD ls[i] := by
          rw [List.getElem?_map, hz] at hd
          exact (Option.some.inj hd).symm
        subst ed
        have zin : ls[i] ∈ ls := List.getElem_mem hi
        generalize ls[i] = z at hz dx zin
        obtain ⟨la, lxs, rfl, hla, dla⟩ := (dx.k0 k2).items
        have gz := hg z zin
        refine ⟨fun σ' H' => ∃ q qs, σ' = [some (.str wd), some (.ref n), some (.ref l), some (.ref p), some (.ref la), some (.ref q), none, none, none, none] ∧ Keep [] H2 H' ∧ H' q = some (.lst qs) ∧ DtAll K H' qs (partsD (renL wd z)), ?_, ?_⟩
        · refine lcT (ds := partsD z) (f := renP wd) (xs := lxs) rfl hla dla (parts_len z) ?_ ?_
          · intro H3 k3 v d hd dv
            obtain ⟨es, rfl, es4, hes⟩ := parts_shape gz d hd
            obtain ⟨pa, pxs, rfl, hpa, dpa⟩ := dv.items
            refine LtH.tup (ds := es) (f := renE wd) (xs := pxs) rfl hpa dpa es4 ?_
            intro H4 k4 v e he dv
            obtain ⟨fs, rfl, fs4, hfs⟩ := hes e he
            obtain ⟨pe, exs, rfl, hpe, dpe⟩ := dv.items
            refine LtH.tup (ds := fs) (f := renD wd) (xs := exs) rfl hpe dpe fs4 ?_
            intro H5 k5 v f hf dv
            exact ren_item (j := 6) rfl rfl (hfs f hf) dv
          · intro D qs H3 nD k3 e3 d3
            rw [renP_line] at d3
            exact ⟨D, qs, rfl, k3, e3, d3⟩
        rintro σ' H3 ⟨q, qs, rfl, k3, lq3, dq3⟩
        have lp3 := k3.to lp2
        refine ⟨_, rfl, .inl ⟨rfl, _, SqL.of lp3⟩, _, rfl, q, qs, rfl, .inl ⟨SqL.of lq3, fun r hr => ?_⟩⟩
        have lp4 := (Keep.new (m := []) (o := .tup qs) hr).to lp3
        refine ⟨p, ys, _, rfl, rfl, lp4, ?_, ?_⟩
        · rw [leny]
          exact Nat.lt_of_lt_of_le (show i < 100 by omega) (by decide)
        · refine ⟨ys ++ [.ref r], _, _, rfl, Keep.own (k2.trans (k3.trans (Keep.new hr))) np, upd_same, by rw [List.length_append, leny]; rfl, ?_⟩
          have kp : Keep [p] (upd H3 r (.tup qs)) (upd (upd H3 r (.tup qs)) p (.lst (ys ++ [.ref r]))) := Keep.at_ (by simp)
          rw [List.take_succ, hz, Option.toList_some, List.map_append, linesD, List.map_append]
          refine DtAll.keep kp (Soft.lst lp4) (DtAll.append ((dy.k0 k3).k0 (Keep.new hr)) (.cons (.tup (SqT.of upd_same) (dq3.k0 (Keep.new hr))) .nil))
      · rintro σ' H2 ⟨ys, g4, g5, rfl, k2, lp2, leny, dy⟩
        rw [lenx, List.take_length] at dy
        exact ⟨ys, g4, g5, rfl, k2, lp2, dy⟩
    rintro σ' H2 ⟨ys, g4, g5, rfl, k2, lp2, dy⟩
    dsimp only [tRet, tTup, tCons, tCB]
    refine lcT (K := K) (i := 1) (j := 9) (ds := ns.map PyData.str) (f := renD wd) (xs := us) (te := tIf (tTest (tOp rEq (tVar 9) (tC (.str "was")))) (tVar 0) (tVar 9)) rfl (seqT_keep k2 Soft.nil hn) (dn.k0 k2) (by rw [List.length_map]; omega) ?_ ?_
    · intro H3 k3 v d hd dv
      refine ren_item (j := 9) rfl rfl (fun ds z => ?_) dv
      obtain ⟨s, _, rfl⟩ := List.mem_map.mp hd
      cases z
    · intro D qs H3 nD k3 e3 d3
      rw [List.map_map] at d3
      refine ⟨D, qs, rfl, .inl ⟨SqL.of e3, fun r hr => ?_⟩⟩
      have lp3 := k3.to lp2
      refine ⟨_, rfl, p, ys, rfl, .inl ⟨SqL.of ((Keep.new (m := []) (o := .tup qs) hr).to lp3), fun r2 hr2 => ⟨(by show 2 ≤ sizeLine; decide), fun r3 hr3 => ?_⟩⟩⟩
      have fin : ∀ Hd, Keep [] H3 Hd → Hd r = some (.tup qs) → Hd r2 = some (.tup ys) → Hd r3 = some (.tup [.ref r, .ref r2]) → Q (.ref r3) Hd := by
        intro Hd kd h1 h2 h3
        refine k _ _ (k2.trans (k3.trans kd)) (.tup (SqT.of h3) (.cons (.tup (SqT.of h1) ?_) (.cons (.tup (SqT.of h2) ?_) .nil)))
        · rw [List.map_map]
          exact d3.k0 kd
        · exact (dy.k0 k3).k0 kd
      exact fin _ ((Keep.new hr).trans ((Keep.new hr2).trans (Keep.new hr3))) (((Keep.new (m := []) hr2).trans (Keep.new hr3)).to upd_same) ((Keep.new (m := []) hr3).to upd_same) upd_same
end
end La
set_option Elab.async false
set_option linter.all false
set_option maxRecDepth 100000
set_option maxHeartbeats 4000000
namespace La
open PySem PySem.Spec PyProof.Rows L2 SM
def planNames1 : List (List Str) := [[], ["was"], ["was"], ["beside"], ["was", "due"], ["beside", "was"], ["elder", "was"], ["was", "elder"]]
def planNames2 : List (List Str) := [["beside", "elder"], ["due", "beside", "was"], ["elder", "beside", "was"]]
def planNames : List (List Str) := planNames1 ++ planNames2
def planWords : List Str := ["was", "was", "was", "last", "mark", "mine", "own", "take"]
def namesD (ns : List Str) : PyData := .tuple (ns.map .str)
theorem planNames_ok : ∀ ns ∈ planNames, ns.length ≤ 3 ∧ OkN ns := by
  have h : planNames.all (fun ns => decide (ns.length ≤ 3) && ns.all fun s => PyData.strOk s) = true := by decide +kernel
  intro ns hns
  have := List.all_eq_true.mp h ns hns
  rw [Bool.and_eq_true, decide_eq_true_eq, List.all_eq_true] at this
  exact this
/-- a plan: names, with another word for "was", and lines over them -/
structure PlanOk (ns : List Str) (ls : List Ln) : Prop where
  names : ∃ ns0 ∈ planNames, ∃ wd ∈ planWords, ns = ns0.map (ren wd)
  few : 1 ≤ ls.length ∧ ls.length ≤ 6
  good : ∀ z ∈ ls, GoodL ns z
  last : ∃ is e, ls = is ++ [e] ∧ e.tests = []
theorem strs_of {K : PySem.W.Frag} {H : Hp} : ∀ {ns : List Str} {us : List V}, DtAll K H us (ns.map PyData.str) → us = ns.map V.str
  | [], _, .nil => rfl
  | n :: ns, _, .cons h t => by
    rw [strs_of t]
    cases h
    rfl
theorem shaped_strs {ns : List Str} (h : OkN ns) : SeqAt.shaped (.tuple (ns.map PyData.str)) = true := by
  refine (Lay.tuple (n := 0) fun d z => ?_).shaped (by decide)
  obtain ⟨s, hs, rfl⟩ := List.mem_map.mp z
  exact .str (h s hs)
theorem shaped_str {x : Str} (h : PyData.strOk x = true) : SeqAt.shaped (.str x) = true := (Lay.str (n := 0) h).shaped (by decide)
def end1 : Ln := ⟨[], [("here", "new")], none⟩
def end2 : Ln := ⟨[], [("here", "new"), ("was", "new")], some [("was", "new")]⟩
def end3 : Ln := ⟨[], [("beside", "here"), ("here", "new")], none⟩
def end4 : Ln := ⟨[], [("beside", "new")], none⟩
theorem end1_good (ns : List Str) : GoodL ns end1 := by
  refine ⟨⟨by decide, fun t z => by cases z⟩, ⟨by decide, fun t z => ?_⟩, fun k z => by cases z⟩
  rw [List.mem_singleton.mp z]
  exact ⟨.inl rfl, .inl rfl⟩
theorem end2_good {ns : List Str} (h : ("was" : Str) ∈ ns) : GoodL ns end2 := by
  refine ⟨⟨by decide, fun t z => by cases z⟩, ⟨by decide, fun t z => ?_⟩, fun k z => ?_⟩
  · rcases List.mem_cons.mp z with e | z
    · rw [e]
      exact ⟨.inl rfl, .inl rfl⟩
    · rw [List.mem_singleton.mp z]
      exact ⟨.inr h, .inl rfl⟩
  · cases z
    refine ⟨by decide, fun t z => ?_⟩
    rw [List.mem_singleton.mp z]
    exact ⟨.inr h, .inl rfl⟩
theorem end3_good {ns : List Str} (h : ("beside" : Str) ∈ ns) : GoodL ns end3 := by
  refine ⟨⟨by decide, fun t z => by cases z⟩, ⟨by decide, fun t z => ?_⟩, fun k z => by cases z⟩
  rcases List.mem_cons.mp z with e | z
  · rw [e]
    exact ⟨.inr h, .inr (.inl rfl)⟩
  · rw [List.mem_singleton.mp z]
    exact ⟨.inl rfl, .inl rfl⟩
theorem end4_good {ns : List Str} (h : ("beside" : Str) ∈ ns) : GoodL ns end4 := by
  refine ⟨⟨by decide, fun t z => by cases z⟩, ⟨by decide, fun t z => ?_⟩, fun k z => by cases z⟩
  rw [List.mem_singleton.mp z]
  exact ⟨.inr h, .inl rfl⟩
/-- a drawn plan -/
def spPlan (K : PySem.W.Frag) : Sp := fun vs H Q _ => ∃ a : Addr, vs = [.ref a] ∧ Src H a ∧ ∀ v H' ns ls, Keep [a] H H' → Src H' a → Dt K H' v (planD ns ls) → PlanOk ns ls → Q v H'
section
variable {P : Program} {w : World} {K : PySem.W.Frag} {mg : Str → Option Value} {base : Heap}
abbrev s__law_plan : Stmt := (top 51)
abbrev N__law_plan : List Str := ["source", "some", "names", "lines", "turn", "line", "ends", "word"]
abbrev P__law_plan : List Str := ["source"]
theorem sc__law_plan : FnScope N__law_plan P__law_plan (defScope s__law_plan) := ⟨rfl, rfl, rfl, by decide +kernel, rfl, by decide +kernel, by decide +kernel⟩
theorem D_law_plan (W : Cw fas fns K mg) (D_law_draw : DefOk P w K mg base CX0 1 "_law_draw" P__law_draw spDraw) (D_law_pick : DefOk P w K mg base CX0 2 "_law_pick" P__law_pick (spPick K))
    (D_law_steps : DefOk P w K mg base CX0 3 "_law_steps" P__law_steps (spSteps K)) (D_law_tests : DefOk P w K mg base CX0 3 "_law_tests" P__law_tests (spTests K)) (D_law_good : DefOk P w K mg base CX0 3 "_law_good" P__law_good (spGood K))
    (D_law_noted_as : DefOk P w K mg base CX0 1 "_law_noted_as" P__law_noted_as (spNoted K)) : DefOk P w K mg base CX0 4 "_law_plan" P__law_plan (spPlan K) := by
  refine DefOk.of W 48 43 (st := s__law_plan) rfl rfl sc__law_plan (fun _ _ _ _ _ _ us hl => match us, hl with | [_], _ => rfl) (fun vs H Q E h => ?_) (fun cdv A outer s H vs Q E hr h => ?_)
  · obtain ⟨a, rfl, _⟩ := h
    rfl
  · obtain ⟨a, rfl, hs, k⟩ := h
    refine ⟨_, PSs.nox (Evl.pss_cut (ps_set (i := 1) sc__law_plan.nd rfl (by first | exact Or.inl rfl | exact Or.inr rfl) (pe_lst (pa_cons (pe_tup pa_nil) (pa_cons (pe_tup (pa_cons pe_str pa_nil)) (pa_cons (pe_tup (pa_cons pe_str pa_nil)) (pa_cons (pe_tup (pa_cons pe_str pa_nil)) (pa_cons (pe_tup (pa_cons pe_str (pa_cons pe_str pa_nil))) (pa_cons (pe_tup (pa_cons pe_str (pa_cons pe_str pa_nil))) (pa_cons (pe_tup (pa_cons pe_str (pa_cons pe_str pa_nil))) (pa_cons (pe_tup (pa_cons pe_str (pa_cons pe_str pa_nil))) pa_nil)))))))))) (Evl.pss_cut (ps_set (i := 2) sc__law_plan.nd rfl (by first | exact Or.inl rfl | exact Or.inr rfl) (SM.pe_callD D_law_pick (hr.mono (by decide)) pass0 (pa_cons (pv 0) (pa_cons (pe_op op_cat (pv 1) (pe_lst (pa_cons (pe_tup (pa_cons pe_str (pa_cons pe_str pa_nil))) (pa_cons (pe_tup (pa_cons pe_str (pa_cons pe_str (pa_cons pe_str pa_nil)))) (pa_cons (pe_tup (pa_cons pe_str (pa_cons pe_str (pa_cons pe_str pa_nil)))) pa_nil))))) pa_nil)))) (Evl.pss_cut (ps_set (i := 3) sc__law_plan.nd rfl (by first | exact Or.inl rfl | exact Or.inr rfl) (pe_lst pa_nil)) (Evl.pss_cut (ps_if (PW.pt (pw_and (pt_cmpR (SM.op_inT (SM.units65 hr)) pe_str (pv 2) (by rfl)) (pw_and1 (pt_cmpR op_gt (SM.pe_callD D_law_draw (hr.mono (by decide)) pass0 (pa_cons (pv 0) (pa_cons pe_int pa_nil))) pe_int (nomark _))))) (pss_one (ps_set (i := 3) sc__law_plan.nd rfl (by first | exact Or.inl rfl | exact Or.inr rfl) (SM.pe_callD D_law_good (hr.mono (by decide)) pass0 (pa_cons (pv 0) (pa_cons pe_str pa_nil))))) pss_nil) (Evl.pss_cut (ps_for PassesOwn.never rfl (pi_range1 (by rfl) (W.fre 75) (pa_cons (SM.pe_callD D_law_draw (hr.mono (by decide)) pass0 (pa_cons (pv 0) (pa_cons pe_int pa_nil))) pa_nil)) (pg_name (i := 4) sc__law_plan.nd rfl (by first | exact Or.inl rfl | exact Or.inr rfl)) (Evl.pss_cut (ps_set (i := 5) sc__law_plan.nd rfl (by first | exact Or.inl rfl | exact Or.inr rfl) (pe_tup (pa_cons (SM.pe_callD D_law_tests (hr.mono (by decide)) pass0 (pa_cons (pv 0) (pa_cons (pv 2) (pa_cons pe_int pa_nil)))) (pa_cons (SM.pe_callD D_law_steps (hr.mono (by decide)) pass0 (pa_cons (pv 0) (pa_cons (pv 2) (pa_cons pe_int pa_nil)))) pa_nil)))) (Evl.pss_cut (ps_if (pt_cmpR op_eq (SM.pe_callD D_law_draw (hr.mono (by decide)) pass0 (pa_cons (pv 0) (pa_cons pe_int pa_nil))) pe_int (nomark _)) (pss_one (ps_set (i := 5) sc__law_plan.nd rfl (by first | exact Or.inl rfl | exact Or.inr rfl) (pe_op op_catA (pv 5) (pe_tup (pa_cons (SM.pe_callD D_law_steps (hr.mono (by decide)) pass0 (pa_cons (pv 0) (pa_cons (pv 2) (pa_cons pe_int pa_nil)))) pa_nil))))) pss_nil) (pss_one (ps_expr (pe_bm PySem.F.plainAttrs_list PySem.F.slot_list_insert PySem.F.type_list_insert mt_insert (pv 3) (pa_cons (SM.pe_callD D_law_draw (hr.mono (by decide)) pass0 (pa_cons (pv 0) (pa_cons (pe_op op_add (pe_callB call_len_seq (by rfl) (W.fre 70) (by decide +kernel) (pa_cons (pv 3) pa_nil)) pe_int) pa_nil))) (pa_cons (pv 5) pa_nil)))))))) (Evl.pss_cut (ps_set (i := 6) sc__law_plan.nd rfl (by first | exact Or.inl rfl | exact Or.inr rfl) (pe_lst (pa_cons (pe_tup (pa_cons (pe_tup pa_nil) (pa_cons (SM.pe_callD D_law_steps (hr.mono (by decide)) pass0 (pa_cons (pv 0) (pa_cons (pv 2) (pa_cons pe_int pa_nil)))) pa_nil))) (pa_cons (pe_tup (pa_cons (pe_tup pa_nil) (pa_cons (pe_tup (pa_cons (pe_tup (pa_cons pe_str (pa_cons pe_str pa_nil))) pa_nil)) pa_nil))) pa_nil)))) (Evl.pss_cut (ps_if (pt_cmpR (SM.op_inT (SM.units65 hr)) pe_str (pv 2) (by rfl)) (pss_one (ps_set (i := 6) sc__law_plan.nd rfl (by first | exact Or.inl rfl | exact Or.inr rfl) (pe_op op_cat (pv 6) (pe_op op_rep (pe_lst (pa_cons (pe_tup (pa_cons (pe_tup pa_nil) (pa_cons (pe_tup (pa_cons (pe_tup (pa_cons pe_str (pa_cons pe_str pa_nil))) (pa_cons (pe_tup (pa_cons pe_str (pa_cons pe_str pa_nil))) pa_nil))) (pa_cons (pe_tup (pa_cons (pe_tup (pa_cons pe_str (pa_cons pe_str pa_nil))) pa_nil)) pa_nil)))) pa_nil)) pe_int)))) pss_nil) (Evl.pss_cut (ps_if (pt_cmpR (SM.op_inT (SM.units65 hr)) pe_str (pv 2) (by rfl)) (pss_one (ps_set (i := 6) sc__law_plan.nd rfl (by first | exact Or.inl rfl | exact Or.inr rfl) (pe_op op_cat (pv 6) (pe_lst (pa_cons (pe_tup (pa_cons (pe_tup pa_nil) (pa_cons (pe_tup (pa_cons (pe_tup (pa_cons pe_str (pa_cons pe_str pa_nil))) (pa_cons (pe_tup (pa_cons pe_str (pa_cons pe_str pa_nil))) pa_nil))) pa_nil))) (pa_cons (pe_tup (pa_cons (pe_tup pa_nil) (pa_cons (pe_tup (pa_cons (pe_tup (pa_cons pe_str (pa_cons pe_str pa_nil))) pa_nil)) pa_nil))) pa_nil)))))) pss_nil) (Evl.pss_cut (ps_set (i := 7) sc__law_plan.nd rfl (by first | exact Or.inl rfl | exact Or.inr rfl) (SM.pe_callD D_law_pick (hr.mono (by decide)) pass0 (pa_cons (pv 0) (pa_cons (pe_lst (pa_cons pe_str (pa_cons pe_str (pa_cons pe_str (pa_cons pe_str (pa_cons pe_str (pa_cons pe_str (pa_cons pe_str (pa_cons pe_str pa_nil))))))))) pa_nil)))) (pss_one (ps_ret (SM.pe_callD D_law_noted_as (hr.mono (by decide)) pass0 (pa_cons (pv 7) (pa_cons (pv 2) (pa_cons (pe_op op_cat (pv 3) (pe_lst (pa_cons (SM.pe_callD D_law_pick (hr.mono (by decide)) pass0 (pa_cons (pv 0) (pa_cons (pv 6) pa_nil))) pa_nil))) pa_nil))))))))))))))), ?_⟩
    refine ⟨fun σ' H' => ∃ l xs, σ' = [some (.ref a), some (.ref l), none, none, none, none, none, none] ∧ Keep [] H H' ∧ H' l = some (.lst xs) ∧ DtAll K H' xs (planNames1.map namesD), ?_, ?_⟩
    · refine LtA.lst (K := K) (ds := planNames1.map namesD) (by repeat' first | exact LtA.nil | refine LtA.cons ?_ ?_ | exact LtE.str | exact LtE.bl | refine LtE.tup ?_) rfl ?_
      exact fun l xs H' _ k1 e d => ⟨l, xs, rfl, k1, e, d⟩
    rintro σ' H1 ⟨l, xs, rfl, k1, ll1, d1⟩
    have s1 := hs.keep k1 (by simp)
    refine ⟨fun σ' H' => ∃ g1 n ns, σ' = [some (.ref a), g1, some (.ref n), none, none, none, none, none] ∧ Keep [a] H H' ∧ Src H' a ∧ SqT K H' n (ns.map V.str) ∧ ns ∈ planNames, ?_, ?_⟩
    · refine ⟨_, rfl, _, rfl, ?_⟩
      refine LtA.lst (K := K) (ds := planNames2.map namesD) (by repeat' first | exact LtA.nil | refine LtA.cons ?_ ?_ | exact LtE.str | exact LtE.bl | refine LtE.tup ?_) rfl ?_
      intro q2 ys H2 _ k2 e2 d2
      have lx : xs.length = 8 := by rw [d1.length]; rfl
      have ly : ys.length = 3 := by rw [d2.length]; rfl
      obtain ⟨x1, y1, ea, _⟩ := id (s1.keep k2 (by simp))
      refine ⟨l, q2, xs, ys, rfl, rfl, k2.to ll1, e2, ?_, fun q3 n3 => ⟨a, q3, xs ++ ys, rfl, (s1.keep k2 (by simp)).keep (Keep.new (m := []) n3) (by simp), .inl (SqL.of upd_same), (ne_of_none ea n3).symm, ?_, ?_, fun j v H4 hv kp sp => ?_⟩⟩
      · rw [lx, ly]
        exact Nat.le_trans (show 8 + 3 ≤ 100 by decide) (by decide)
      · rw [List.length_append]
        omega
      · rw [List.length_append]
        omega
      have dd := ((d1.k0 k2).append d2).k0 (Keep.new (o := .lst (xs ++ ys)) n3)
      obtain ⟨d, hd, dv⟩ := dd.get hv
      rw [← List.map_append, List.getElem?_map] at hd
      cases e : (planNames1 ++ planNames2)[j]? with
      | none =>
        rw [e] at hd
        cases hd
      | some ns =>
        rw [e] at hd
        cases hd
        obtain ⟨n, us, rfl, hn, du⟩ := dv.items
        rw [strs_of du] at hn
        exact ⟨_, n, ns, rfl, Keep.trans (Keep.of_nil (k1.trans (k2.trans (Keep.new n3)))) kp, sp, seqT_keep kp ((s1.keep k2 (by simp)).keep (Keep.new (m := []) n3) (by simp)).soft hn, List.mem_of_getElem? e⟩
    rintro σ' H2 ⟨g1, n, ns, rfl, k2, s2, hn2, hns⟩
    obtain ⟨n3, hok⟩ := planNames_ok ns hns
    refine ⟨fun σ' H' => ∃ p, σ' = [some (.ref a), g1, some (.ref n), some (.ref p), none, none, none, none] ∧ H p = none ∧ Keep [] H2 H' ∧ H' p = some (.lst []), ?_, ?_⟩
    · exact ⟨Nat.zero_le _, fun p hp => ⟨p, rfl, k2.free (by simpa using (ne_of_none s2.choose_spec.choose_spec.1 hp).symm) hp, Keep.new hp, upd_same⟩⟩
    rintro σ' H3 ⟨p, rfl, np, k3, lp3⟩
    have s3 := s2.keep k3 (by simp)
    have pa : p ≠ a := (ne_of_none hs.choose_spec.choose_spec.1 np).symm
    have hn3 := seqT_keep k3 Soft.nil hn2
    have dns : ∀ Hx, DtAll K Hx (ns.map V.str) (ns.map PyData.str) := fun Hx => DtAll.strs ns
    let M4 : L2.St → Hp → Prop := fun σ' H' => ∃ (p : Addr) (ys : List V) (ls : List Ln), σ' = [some (.ref a), g1, some (.ref n), some (.ref p), none, none, none, none] ∧ H p = none ∧ Keep [a] H H' ∧ Src H' a ∧ SqT K H' n (ns.map V.str) ∧ H' p = some (.lst ys) ∧ DtAll K H' ys (List.map lnD ls) ∧ ls.length ≤ 3 ∧ ∀ z ∈ ls, GoodL ns z
    refine ⟨M4, ?_, ?_⟩
    · have no : ∀ H4, Keep [a] H3 H4 → Src H4 a → M4 [some (V.ref a), g1, some (.ref n), some (.ref p), none, none, none, none] H4 := fun H4 k4 s4 =>
        ⟨p, [], [], rfl, np, k2.trans ((Keep.of_nil k3).trans k4), s4, seqT_keep k4 s3.soft hn3, k4 _ _ (by simpa using pa) lp3, .nil, Nat.zero_le _, fun z h => by cases h⟩
      refine ⟨_, rfl, .str "was", ns.map PyData.str, .str _, .tup hn3 (dns H3).dp, shaped_str (by decide +kernel), shaped_strs hok, _, rfl, ?_⟩
      rw [any_str]
      refine ite2 (fun hw => ?_) (fun _ => iteF (no H3 Keep.refl s3))
      have hw' : ("was" : Str) ∈ ns := of_decide_eq_true hw
      refine ⟨_, rfl, a, 3, rfl, s3, by decide, by decide, fun r H4 r0 r1 k4 s4 => ⟨r, 0, rfl, rfl, _, rfl, ite2 (fun _ => ?_) (fun _ => no H4 k4 s4)⟩⟩
      refine ⟨_, rfl, a, ns, "was", rfl, s4, hok, hw', fun p5 ys ms H5 k5 n5 s5 lp5 d5 l2 l3 g => ?_⟩
      have kk := k2.trans ((Keep.of_nil k3).trans (k4.trans k5))
      refine ⟨p5, ys, ms, rfl, ?_, kk, s5, seqT_keep (k4.trans k5) s3.soft hn3, lp5, d5, l3, g⟩
      exact (k2.trans ((Keep.of_nil k3).trans k4)).free (by simpa using (ne_of_none s4.choose_spec.choose_spec.1 n5).symm) n5
    rintro σ' H4 ⟨p4, y4, l4, rfl, np4, k4, s4, hn4, lp4, d4, ll4, g4⟩
    have pa4 : p4 ≠ a := (ne_of_none hs.choose_spec.choose_spec.1 np4).symm
    let Pv : Nat → L2.St → Hp → Prop := fun i σ' H' => ∃ ys ls x4 x5, σ' = [some (V.ref a), g1, some (.ref n), some (.ref p4), x4, x5, none, none] ∧ Keep [a] H H' ∧ Src H' a ∧ SqT K H' n (ns.map V.str) ∧ H' p4 = some (.lst ys) ∧ DtAll K H' ys (List.map lnD ls) ∧ ls.length ≤ 3 + i ∧ ∀ z ∈ ls, GoodL ns z
    refine ⟨Pv 2, ?_, ?_⟩
    · refine ⟨_, rfl, a, 3, rfl, s4, by decide, by decide, fun r H5 r0 r1 k5 s5 => ⟨r, rfl, by omega, by omega, for_range (lo := 0) Pv ⟨y4, l4, none, none, rfl, k4.trans k5, s5, seqT_keep k5 s4.soft hn4, k5 _ _ (by simpa using pa4) lp4, d4.keep k5 s4.soft, ll4, g4⟩ ?_ ?_⟩⟩
      · rintro i σ' H6 hi ⟨ys, ls, x4, x5, rfl, k6, s6, hn6, lp6, d6, ll6, g6⟩
        have hi2 : i < 2 := by omega
        refine ⟨fun σ' H' => ∃ la lxs z, σ' = [some (V.ref a), g1, some (.ref n), some (.ref p4), some (.int (0 + (i : Int))), some (.ref la), none, none] ∧ Keep [a] H6 H' ∧ Src H' a ∧ SqT K H' la lxs ∧ DtAll K H' lxs (partsD z) ∧ GoodL ns z ∧ z.keep = none, ?_, ?_⟩
        · refine ⟨_, rfl, _, rfl, a, n, ns, 2, rfl, s6, hn6, n3, by decide, by decide, fun vt H7 ts k7 s7 dt lt gt => ⟨_, rfl, _, rfl, a, n, ns, 3, rfl, s7, seqT_keep k7 s6.soft hn6, n3, by decide, by decide, fun vs H8 ss k8 s8 dss ls' gs => ⟨(by show 2 ≤ sizeLine; decide), fun q hq => ?_⟩⟩⟩
          have kq : Keep [] H8 (upd H8 q (.tup [vt, vs])) := Keep.new hq
          exact ⟨q, _, ⟨ts, ss, none⟩, rfl, k7.trans (k8.trans (Keep.of_nil kq)), s8.keep kq (by simp), SqT.of upd_same, .cons ((dt.keep k8 s7.soft).k0 kq) (.cons (dss.k0 kq) .nil), ⟨⟨lt, gt⟩, ⟨by show ss.length ≤ 4; omega, gs⟩, fun k z => by cases z⟩, rfl⟩
        rintro σ' H7 ⟨la, lxs, z, rfl, k7, s7, hla, dla, gz, kz⟩
        have len2 : lxs.length = 2 := by
          rw [dla.length, partsD, kz]
          rfl
        have hn7 := seqT_keep k7 s6.soft hn6
        refine ⟨fun σ' H' => ∃ la lxs z, σ' = [some (V.ref a), g1, some (.ref n), some (.ref p4), some (.int (0 + (i : Int))), some (.ref la), none, none] ∧ Keep [a] H6 H' ∧ Src H' a ∧ SqT K H' la lxs ∧ DtAll K H' lxs (partsD z) ∧ GoodL ns z, ?_, ?_⟩
        · refine ⟨_, rfl, a, 4, rfl, s7, by decide, by decide, fun r H8 r0 r1 k8 s8 => ⟨rfl, _, rfl, ite2 (fun _ => ?_) (fun _ => ?_)⟩⟩
          · refine ⟨_, rfl, _, rfl, _, rfl, a, n, ns, 2, rfl, s8, seqT_keep k8 s7.soft hn7, n3, by decide, by decide, fun v H9 ss k9 s9 dss lss gs => ⟨(by show 1 ≤ sizeLine; decide), fun q hq => ?_⟩⟩
            have kq : Keep [] H9 (upd H9 q (.tup [v])) := Keep.new hq
            have hla9 := seqT_keep kq Soft.nil (seqT_keep k9 s8.soft (seqT_keep k8 s7.soft hla))
            have dla9 := ((dla.keep k8 s7.soft).keep k9 s8.soft).k0 kq
            refine ⟨la, q, lxs, [v], rfl, rfl, hla9, SqT.of upd_same, ?_, fun e => ?_, (fun _ e => by cases e), fun _ _ r2 hr2 => ?_⟩
            · rw [len2]
              exact Nat.le_trans (show 2 + 1 ≤ 100 by decide) (by decide)
            · rw [e] at len2
              cases len2
            · have kr : Keep [] (upd H9 q (.tup [v])) (upd (upd H9 q (.tup [v])) r2 (.tup (lxs ++ [v]))) := Keep.new hr2
              refine ⟨r2, _, ⟨z.tests, z.steps, some ss⟩, rfl, k7.trans (k8.trans (k9.trans (Keep.of_nil (kq.trans kr)))), s9.keep (kq.trans kr) (by simp), SqT.of upd_same, ?_, ⟨gz.tests, gz.steps, fun k hk => ?_⟩⟩
              · have := (dla9.append (DtAll.cons (dss.k0 kq) .nil)).k0 kr
                rw [partsD, kz] at this
                exact this
              · cases hk
                exact ⟨by omega, gs⟩
          · exact ⟨la, lxs, z, rfl, k7.trans k8, s8, seqT_keep k8 s7.soft hla, dla.keep k8 s7.soft, gz⟩
        rintro σ' H8 ⟨la, lxs, z, rfl, k8, s8, hla, dla, gz⟩
        have lp8 := k8 _ _ (by simpa using pa4) lp6
        have ly : ys.length = ls.length := by rw [d6.length, List.length_map]
        refine ⟨_, rfl, .inl ⟨rfl, _, SqL.of lp8⟩, _, rfl, _, rfl, p4, ys, rfl, .inl (SqL.of lp8), _, 1, rfl, rfl, a, _, rfl, s8, by omega, by omega, fun r H9 r0 r1 k9 s9 => ⟨_, rfl, ?_⟩⟩
        have lp9 := k9 _ _ (by simpa using pa4) lp8
        have d9 := (d6.keep k8 s6.soft).keep k9 s8.soft
        have dz9 : Dt K H9 (.ref la) (lnD z) := .tup (seqT_keep k9 s8.soft hla) (dla.keep k9 s8.soft)
        refine ⟨p4, ys, r, _, rfl, rfl, lp9, ?_, r0, by omega, ?_⟩
        · rw [ly]
          exact Nat.lt_of_lt_of_le (show ls.length < 100 by omega) (by decide)
        · have kp : Keep [p4] H9 (upd H9 p4 (.lst (ys.take r.toNat ++ [.ref la] ++ ys.drop r.toNat))) := Keep.at_ (by simp)
          refine ⟨_, ls.take r.toNat ++ [z] ++ ls.drop r.toNat, _, _, rfl, Keep.own (k6.trans (k8.trans k9)) np4, s9.keep kp (by simpa using pa4.symm), seqT_keep kp (Soft.lst lp9) (seqT_keep k9 s8.soft (seqT_keep k8 s6.soft hn6)), upd_same, ?_, ?_, ?_⟩
          · rw [List.map_append, List.map_append, List.map_take, List.map_drop]
            exact (((d9.take _).append (.cons dz9 .nil)).append (d9.drop _)).keep kp (Soft.lst lp9)
          · simp only [List.length_append, List.length_take, List.length_drop, List.length_cons, List.length_nil]
            omega
          · intro y hy
            rcases List.mem_append.mp hy with hy | hy
            · rcases List.mem_append.mp hy with hy | hy
              · exact g6 y (List.mem_of_mem_take hy)
              · rw [List.mem_singleton.mp hy]
                exact gz
            · exact g6 y (List.mem_of_mem_drop hy)
      · rintro σ' H6 ⟨ys, ls, x4, x5, rfl, k6, s6, hn6, lp6, d6, ll6, g6⟩
        exact ⟨ys, ls, x4, x5, rfl, k6, s6, hn6, lp6, d6, by omega, g6⟩
    rintro σ' H5 ⟨ys, ls, x4, x5, rfl, k5, s5, hn5, lp5, d5, ll5, g5⟩
    have hs5 := s5.soft
    have was_at : ∀ {x : Str} {Hx : Hp}, SqT K Hx n (ns.map V.str) → Dp K Hx (.ref n) (.tuple (ns.map PyData.str)) := fun h => .tup h (dns _).dp
    let Me : Nat → L2.St → Hp → Prop := fun m σ' H' => ∃ (e : Addr) (zs : List V) (es : List Ln), σ' = [some (V.ref a), g1, some (.ref n), some (.ref p4), x4, x5, some (.ref e), none] ∧ H5 e = none ∧ Keep [a] H5 H' ∧ Src H' a ∧ H' e = some (.lst zs) ∧ DtAll K H' zs (List.map lnD es) ∧ 1 ≤ es.length ∧ es.length ≤ m ∧ ∀ z ∈ es, GoodL ns z ∧ z.tests = []
    have eta : ∀ {e : Addr}, H5 e = none → e ≠ a := fun h => (ne_of_none s5.choose_spec.choose_spec.1 h).symm
    refine ⟨Me 2, ?_, ?_⟩
    · refine ⟨Nat.zero_le _, fun q1 n1 => ⟨_, rfl, _, rfl, a, n, ns, 3, rfl, s5.keep (Keep.new (m := []) n1) (by simp), seqT_keep (Keep.new (m := []) n1) Soft.nil hn5, n3, by decide, by decide, fun v H6 ss k6 s6 dss lss gs => ⟨(by show 2 ≤ sizeLine; decide), fun q2 n2 => ?_⟩⟩⟩
      refine LtA.cons (K := K) (d := lnD end1) (by repeat' first | exact LtA.nil | refine LtA.cons ?_ ?_ | exact LtE.str | exact LtE.bl | refine LtE.tup ?_) .nil _ _ ?_
      intro ys2 H7 k7 d7
      cases d7 with
      | cons dv dn =>
        cases dn
        refine ⟨(by show 2 ≤ sizeLine; decide), fun q3 n3 => ?_⟩
        have fin : ∀ Ha Hd vv, Keep [] H5 Ha → Ha q1 = some (.tup []) → Keep [a] Ha H6 → Keep [] H6 Hd → Hd q2 = some (.tup [.ref q1, v]) → Dt K Hd vv (lnD end1) → Hd q3 = some (.lst [.ref q2, vv]) → H5 q3 = none → Me 2 [some (V.ref a), g1, some (.ref n), some (.ref p4), x4, x5, some (.ref q3), none] Hd := by
          intro Ha Hd vv ka h1 kb kd h2 h3 h4 h5
          have q1a : q1 ≠ a := eta n1
          refine ⟨q3, _, [⟨[], ss, none⟩, end1], rfl, h5, (Keep.of_nil ka).trans (kb.trans (Keep.of_nil kd)), s6.keep kd (by simp), h4, ?_, Nat.le_of_ble_eq_true rfl, Nat.le_of_ble_eq_true rfl, ?_⟩
          · refine .cons (.tup (SqT.of h2) (.cons (.tup (xs := []) (SqT.of (kd.to (kb _ _ (by simpa using q1a) h1))) .nil) (.cons (dss.k0 kd) .nil))) (.cons h3 .nil)
          · intro z hz
            rcases List.mem_cons.mp hz with rfl | hz
            · exact ⟨⟨⟨Nat.le_of_ble_eq_true rfl, fun t z => by cases z⟩, ⟨by show ss.length ≤ 4; omega, gs⟩, fun k z => by cases z⟩, rfl⟩
            · rw [List.mem_singleton.mp hz]
              exact ⟨end1_good ns, rfl⟩
        have kA : Keep [] H5 (upd H5 q1 (.tup [])) := Keep.new n1
        exact fin _ _ _ kA upd_same k6 ((Keep.new n2).trans (k7.trans (Keep.new n3))) ((k7.trans (Keep.new n3)).to upd_same) (dv.k0 (Keep.new n3)) upd_same
          (((Keep.of_nil kA).trans (k6.trans (Keep.of_nil ((Keep.new n2).trans k7)))).free (m := [a]) (by
            simpa using (ne_of_none ((((Keep.new (m := []) n2).trans k7).to s6.choose_spec.choose_spec.1)) n3).symm) n3)
    rintro σ' H6 ⟨e6, z6, es6, rfl, ne6, k6, s6, le6, de6, l16, l26, g6⟩
    have hn6 := seqT_keep k6 hs5 hn5
    refine ⟨Me 6, ?_, ?_⟩
    · refine ⟨_, rfl, .str "was", ns.map PyData.str, .str _, .tup hn6 (dns H6).dp, shaped_str (by decide +kernel), shaped_strs hok, _, rfl, ?_⟩
      rw [any_str]
      refine ite2 (fun hw => ?_) (fun _ => ⟨e6, z6, es6, rfl, ne6, k6, s6, le6, de6, l16, by omega, g6⟩)
      have hw' : ("was" : Str) ∈ ns := of_decide_eq_true hw
      refine ⟨_, rfl, ?_⟩
      refine LtA.lst (K := K) (ds := [end2].map lnD) (by repeat' first | exact LtA.nil | refine LtA.cons ?_ ?_ | exact LtE.str | exact LtE.bl | refine LtE.tup ?_) rfl ?_
      intro q2 ys2 H7 n2 k7 lq2 d7
      have lz : z6.length = es6.length := by rw [de6.length, List.length_map]
      cases d7 with
      | cons dv dn =>
        cases dn
        rename_i vv
        have e4 : (4 : Int).toNat = 4 := rfl
        refine ⟨q2, 4, [vv], rfl, rfl, lq2, by decide, by decide, (by show 1 * 4 ≤ sizeLine; exact Nat.le_trans (show 1 * 4 ≤ 100 by decide) (by decide)), fun q3 n3' => ⟨e6, q3, z6, _, rfl, rfl, (k7.trans (Keep.new n3')).to le6, upd_same, ?_, fun q4 n4 => ?_⟩⟩
        · rw [rep_len, lz]
          exact Nat.le_trans (show es6.length + (4 : Int).toNat ≤ 100 by omega) (by decide)
        · have kk := (Keep.new (m := []) (o := .lst (List.replicate (4 : Int).toNat [vv]).flatten) n3').trans (Keep.new (o := .lst (z6 ++ (List.replicate (4 : Int).toNat [vv]).flatten)) n4)
          refine ⟨q4, _, es6 ++ List.replicate 4 end2, rfl, ?_, k6.trans (Keep.of_nil (k7.trans kk)), (s6.keep k7 (by simp)).keep kk (by simp), upd_same, ?_, ?_, ?_, ?_⟩
          · exact (k6.trans (Keep.of_nil (k7.trans (Keep.new n3')))).free (by simpa using (ne_of_none ((k7.trans (Keep.new n3')).to s6.choose_spec.choose_spec.1) n4).symm) n4
          · rw [List.map_append, List.map_replicate]
            exact ((de6.k0 k7).append (rep_dt dv 4)).k0 kk
          · rw [List.length_append]
            omega
          · rw [List.length_append, List.length_replicate]
            omega
          · intro z hz
            rcases List.mem_append.mp hz with hz | hz
            · exact g6 z hz
            · rw [(List.mem_replicate.mp hz).2]
              exact ⟨end2_good hw', rfl⟩
    rintro σ' H7 ⟨e7, z7, es7, rfl, ne7, k7, s7, le7, de7, l17, l27, g7⟩
    have hn7 := seqT_keep k7 hs5 hn5
    refine ⟨Me 8, ?_, ?_⟩
    · refine ⟨_, rfl, .str "beside", ns.map PyData.str, .str _, .tup hn7 (dns H7).dp, shaped_str (by decide +kernel), shaped_strs hok, _, rfl, ?_⟩
      rw [any_str]
      refine ite2 (fun hw => ?_) (fun _ => ⟨e7, z7, es7, rfl, ne7, k7, s7, le7, de7, l17, by omega, g7⟩)
      have hw' : ("beside" : Str) ∈ ns := of_decide_eq_true hw
      refine ⟨_, rfl, ?_⟩
      refine LtA.lst (K := K) (ds := [end3, end4].map lnD) (by repeat' first | exact LtA.nil | refine LtA.cons ?_ ?_ | exact LtE.str | exact LtE.bl | refine LtE.tup ?_) rfl ?_
      intro q2 ys2 H8 n2 k8 lq2 d8
      have lz : z7.length = es7.length := by rw [de7.length, List.length_map]
      have ly : ys2.length = 2 := by rw [d8.length]; rfl
      refine ⟨e7, q2, z7, ys2, rfl, rfl, k8.to le7, lq2, ?_, fun q4 n4 => ?_⟩
      · rw [ly, lz]
        exact Nat.le_trans (show es7.length + 2 ≤ 100 by omega) (by decide)
      · have kk : Keep [] H8 (upd H8 q4 (.lst (z7 ++ ys2))) := Keep.new n4
        refine ⟨q4, _, es7 ++ [end3, end4], rfl, ?_, k7.trans (Keep.of_nil (k8.trans kk)), (s7.keep k8 (by simp)).keep kk (by simp), upd_same, ?_, ?_, ?_, ?_⟩
        · exact (k7.trans (Keep.of_nil k8)).free (by simpa using (ne_of_none (k8.to s7.choose_spec.choose_spec.1) n4).symm) n4
        · rw [List.map_append]
          exact ((de7.k0 k8).append d8).k0 kk
        · rw [List.length_append]
          omega
        · rw [List.length_append]
          show es7.length + 2 ≤ 8
          omega
        · intro z hz
          rcases List.mem_append.mp hz with hz | hz
          · exact g7 z hz
          · simp only [List.mem_cons, List.not_mem_nil, or_false] at hz
            rcases hz with rfl | rfl
            · exact ⟨end3_good hw', rfl⟩
            · exact ⟨end4_good hw', rfl⟩
    rintro σ' H8 ⟨e8, z8, es8, rfl, ne8, k8, s8, le8, de8, l18, l28, g8⟩
    have hn8 := seqT_keep k8 hs5 hn5
    have lz : z8.length = es8.length := by rw [de8.length, List.length_map]
    refine ⟨fun σ' H' => ∃ wd, σ' = [some (V.ref a), g1, some (.ref n), some (.ref p4), x4, x5, some (.ref e8), some (.str wd)] ∧ Keep [a] H8 H' ∧ Src H' a ∧ wd ∈ planWords, ?_, ?_⟩
    · refine ⟨_, rfl, ?_⟩
      refine LtA.lst (K := K) (ds := planWords.map PyData.str) (by repeat' first | exact LtA.nil | refine LtA.cons ?_ ?_ | exact LtE.str | exact LtE.bl | refine LtE.tup ?_) rfl ?_
      intro q ys2 H9 nq k9 lq d9
      have e9 := strs_of d9
      have l9 : ys2.length = 8 := by rw [e9]; rfl
      obtain ⟨x1, y1, ea, _⟩ := id s8
      refine ⟨a, q, ys2, rfl, s8.keep k9 (by simp), .inl (SqL.of lq), ?_, by omega, by omega, fun j v H10 hv kp sp => ?_⟩
      · intro z
        rw [z] at nq
        rw [ea] at nq
        cases nq
      · rw [e9, List.getElem?_map] at hv
        cases e : planWords[j]? with
        | none =>
          rw [e] at hv
          cases hv
        | some wd =>
          rw [e] at hv
          cases hv
          exact ⟨wd, rfl, (Keep.of_nil k9).trans kp, sp, List.mem_of_getElem? e⟩
    rintro σ' H9 ⟨wd, rfl, k9, s9, hwd⟩
    have e8a : e8 ≠ a := eta ne8
    have le9 := k9 _ _ (by simpa using e8a) le8
    have de9 := de8.keep k9 s8.soft
    have lp9 := (k8.trans k9) _ _ (by simpa using pa4) lp5
    have d9 := d5.keep (k8.trans k9) hs5
    refine ⟨_, rfl, _, rfl, _, rfl, _, rfl, _, rfl, a, e8, z8, rfl, s9, .inl (SqL.of le9), e8a, by omega, by omega, fun j v H10 hv kp sp => ⟨(by show 1 ≤ sizeLine; decide), fun q1 n1 => ?_⟩⟩
    have lp10 := kp _ _ (by simpa using pa4) lp9
    have d10 := d9.keep kp s9.soft
    obtain ⟨dd, hd, dv⟩ := (de9.keep kp s9.soft).get hv
    rw [List.getElem?_map] at hd
    have ly : ys.length = ls.length := by rw [d5.length, List.length_map]
    cases e : es8[j]? with
    | none =>
      rw [e] at hd
      cases hd
    | some el =>
      rw [e] at hd
      cases hd
      have gel := g8 el (List.mem_of_getElem? e)
      have kq1 : Keep [] H10 (upd H10 q1 (.lst [v])) := Keep.new n1
      have hnA := seqT_keep kq1 Soft.nil (seqT_keep kp s9.soft (seqT_keep (k8.trans k9) hs5 hn5))
      refine ⟨p4, q1, ys, [v], rfl, rfl, kq1.to lp10, upd_same, ?_, fun q2 n2 => ?_⟩
      · rw [ly]
        exact Nat.le_trans (show ls.length + 1 ≤ 100 by omega) (by decide)
      · have kq2 : Keep [] (upd H10 q1 (.lst [v])) (upd (upd H10 q1 (.lst [v])) q2 (.lst (ys ++ [v]))) := Keep.new n2
        refine ⟨wd, n, q2, ns.map V.str, ys ++ [v], ns, ls ++ [el], rfl, seqT_keep kq2 Soft.nil hnA, dns _, n3, SqL.of upd_same, ?_, ?_, ?_, fun v' H' kf df => ?_⟩
        · rw [List.map_append]
          exact ((d10.append (.cons dv .nil)).k0 kq1).k0 kq2
        · rw [List.length_append]
          show ls.length + 1 ≤ 8
          omega
        · intro z hz
          rcases List.mem_append.mp hz with hz | hz
          · exact g5 z hz
          · rw [List.mem_singleton.mp hz]
            exact gel.1
        · refine k v' H' _ _ (k5.trans (k8.trans (k9.trans (kp.trans (Keep.of_nil ((kq1.trans kq2).trans kf)))))) (sp.keep ((kq1.trans kq2).trans kf) (by simp)) df ⟨⟨ns, hns, wd, hwd, rfl⟩, ⟨?_, ?_⟩, ?_, ⟨ls.map (renL wd), renL wd el, by rw [List.map_append]; rfl, by rw [renL, gel.2]; rfl⟩⟩
          · rw [List.length_map, List.length_append]
            show 1 ≤ ls.length + 1
            omega
          · rw [List.length_map, List.length_append]
            show ls.length + 1 ≤ 6
            omega
          · intro z hz
            obtain ⟨y, hy, rfl⟩ := List.mem_map.mp hz
            rcases List.mem_append.mp hy with hy | hy
            · exact (g5 y hy).ren
            · rw [List.mem_singleton.mp hy]
              exact gel.1.ren
end
end La
set_option Elab.async false
set_option linter.all false
set_option maxRecDepth 100000
set_option maxHeartbeats 4000000
namespace La
open PySem PySem.Spec PyProof.Rows L2 SM
/-- any value over which nothing is hidden: no dict, not deep -/
structure AnyV (K : PySem.W.Frag) (H : Hp) (v : V) (d : PyData) : Prop where
  dq : Dq K H v d
  lay : Lay 60 d
theorem AnyV.keep {K : PySem.W.Frag} {H H' : Hp} {v : V} {d : PyData} (h : AnyV K H v d) (k : Keep [] H H') : AnyV K H' v d := ⟨h.dq.mono k.same, h.lay⟩
/-- of a part of a line: over its entries nothing is hidden -/
def LayP (d : PyData) : Prop := ∀ es, d = .tuple es → ∀ e ∈ es, Lay 57 e
/-- of a line -/
def LayL (d : PyData) : Prop := ∀ ps, d = .tuple ps → ∀ p ∈ ps, LayP p
theorem LayP.of {d : PyData} (h : Lay 58 d) : LayP d := fun es e => by
  subst e
  exact h.items
theorem LayL.of {d : PyData} (h : Lay 59 d) : LayL d := fun ps e p hp => by
  subst e
  exact .of (h.items p hp)
/-- some registers' names, as they stand -/
structure NamesT (K : PySem.W.Frag) (H : Hp) (r : Addr) (ns : List Str) : Prop where
  sq : SqT K H r (ns.map V.str)
  few : ns.length ≤ 3
  ok : OkN ns
theorem NamesT.keep {K : PySem.W.Frag} {m : List Addr} {H H' : Hp} {r : Addr} {ns : List Str} (h : NamesT K H r ns) (k : Keep m H H') (s : Soft m H) : NamesT K H' r ns := ⟨seqT_keep k s h.sq, h.few, h.ok⟩
theorem dpStrs {K : PySem.W.Frag} {H : Hp} (ns : List Str) : DpAll K H (ns.map V.str) (ns.map PyData.str) := (DtAll.strs ns).dp
theorem anyIn {K : PySem.W.Frag} {H : Hp} {v : V} {d : PyData} {r : Addr} {ns : List Str} (h : AnyV K H v d) (hr : SqT K H r (ns.map V.str)) (ok : OkN ns) :
    Dp K H v d ∧ Dp K H (.ref r) (.tuple (ns.map PyData.str)) ∧ SeqAt.shaped d = true ∧ SeqAt.shaped (.tuple (ns.map PyData.str)) = true := by
  refine ⟨h.dq.toDp h.lay.1, .tup hr (dpStrs ns), h.lay.shaped (by decide), (Lay.tuple (n := 0) fun d z => ?_).shaped (by decide)⟩
  obtain ⟨s, hs, rfl⟩ := List.mem_map.mp z
  exact .str (ok s hs)
theorem any_in {K : PySem.W.Frag} {H : Hp} {v : V} {d : PyData} {r : Addr} {ns : List Str} {Q : VK} (h : AnyV K H v d) (hr : SqT K H r (ns.map V.str)) (ok : OkN ns) (q : Q (.bl (memS ns d)) H) : rInA K v (.ref r) H Q := by
  refine .inr ⟨d, ns.map PyData.str, h.dq.toDp h.lay.1, .tup hr (dpStrs ns), h.lay.shaped (by decide), ?_, q⟩
  refine (Lay.tuple (n := 0) fun d z => ?_).shaped (by decide)
  obtain ⟨s, hs, rfl⟩ := List.mem_map.mp z
  exact .str (ok s hs)
def isStep (ns : List Str) : PyData → Bool
  | .tuple [t, s] => memS ("here" :: ns) t && (memS ("here" :: ns) s || memS ["new", "nothing"] s)
  | _ => false
theorem isStep_len {ns : List Str} {ds : List PyData} (h : ds.length ≠ 2) : isStep ns (.tuple ds) = false := by
  match ds, h with
  | [], _ => rfl
  | [_], _ => rfl
  | [_, _], h => exact absurd rfl h
  | _ :: _ :: _ :: _, _ => rfl
theorem lenNe {n : Nat} {m : Int} (h : ¬ ((!decide (V.int (n : Int) = V.int m)) = true)) : (n : Int) = m := by
  by_cases e : V.int (n : Int) = V.int m
  · exact V.int.inj e
  · simp [e] at h
def upTo4 : PyData → Bool
  | .tuple ds => decide (ds.length ≤ 4)
  | _ => false
def spCheckL (K : PySem.W.Frag) (ok : PyData → Prop) (f : List Str → PyData → Bool) : Sp := fun vs H Q _ => ∃ (v : V) (r : Addr) (d : PyData) (ns : List Str), vs = [v, .ref r] ∧ Dq K H v d ∧ ok d ∧ NamesT K H r ns ∧ ∀ H', Keep [] H H' → Q (.bl (f ns d)) H'
def spCheck (K : PySem.W.Frag) (f : List Str → PyData → Bool) : Sp := fun vs H Q _ => ∃ (v : V) (r : Addr) (d : PyData) (ns : List Str), vs = [v, .ref r] ∧ AnyV K H v d ∧ NamesT K H r ns ∧ ∀ H', Keep [] H H' → Q (.bl (f ns d)) H'
section
variable {P : Program} {w : World} {K : PySem.W.Frag} {mg : Str → Option Value} {base : Heap}
abbrev s_are_at_most_four : Stmt := (top 38)
abbrev N_are_at_most_four : List Str := ["value"]
abbrev P_are_at_most_four : List Str := ["value"]
theorem sc_are_at_most_four : FnScope N_are_at_most_four P_are_at_most_four (defScope s_are_at_most_four) := ⟨rfl, rfl, rfl, by decide +kernel, rfl, by decide +kernel, by decide +kernel⟩
theorem Dare_at_most_four (W : Cw fas fns K mg) : DefOk P w K mg base CX0 1 "are_at_most_four" P_are_at_most_four (fun vs H Q _ => ∃ v d, vs = [v] ∧ Dq K H v d ∧ Q (.bl (upTo4 d)) H) := by
  refine DefOk.of W 36 31 (st := s_are_at_most_four) rfl rfl sc_are_at_most_four (fun _ _ _ _ _ _ us hl => match us, hl with | [_], _ => rfl) (fun vs H Q E h => ?_) (fun cdv A outer s H vs Q E hr h => ?_)
  · obtain ⟨v, d, rfl, _⟩ := h
    rfl
  · obtain ⟨v, d, rfl, hv, k⟩ := h
    refine ⟨_, PSs.nox (pss_one (ps_ret (pe_and (pe_callB call_isi (by rfl) (W.fre 69) (by decide +kernel) (pa_cons (pv 0) (pa_cons (pe_bltn (v := .ty "tuple") (by rfl) (W.fre 79) (show bootBuiltins "tuple" = some (.type "tuple") by decide +kernel) rfl) pa_nil))) (pe_one (pe_cmpR op_le (pe_callB call_len_seq (by rfl) (W.fre 70) (by decide +kernel) (pa_cons (pv 0) pa_nil)) pe_int (nomark _)))))), ?_⟩
    refine ⟨_, rfl, _, _, _, _, _, rfl, .ty _, hv.ty, kit_tup d, _, rfl, ?_⟩
    cases hv with
    | @tup a xs ds s t =>
      refine iteT ⟨_, rfl, _, _, rfl, .inr s, _, _, rfl, rfl, ?_⟩
      have e : upTo4 (.tuple ds) = decide ((xs.length : Int) ≤ 4) := by
        rw [upTo4, ← t.length]
        exact decide_eq_decide.mpr (by omega)
      rw [e] at k
      exact k
    | non => exact iteF k
    | bl b => exact iteF k
    | int b => exact iteF k
    | str b => exact iteF k
    | lst s t => exact iteF k
    | dic s t => exact iteF k
abbrev s_is_step : Stmt := (top 41)
abbrev N_is_step : List Str := ["value", "registers", "target", "source", "targets"]
abbrev P_is_step : List Str := ["value", "registers"]
theorem sc_is_step : FnScope N_is_step P_is_step (defScope s_is_step) := ⟨rfl, rfl, rfl, by decide +kernel, rfl, by decide +kernel, by decide +kernel⟩
theorem Dis_step (W : Cw fas fns K mg) : DefOk P w K mg base CX0 1 "is_step" P_is_step (spCheck K isStep) := by
  refine DefOk.of W 39 34 (st := s_is_step) rfl rfl sc_is_step (fun _ _ _ _ _ _ us hl => match us, hl with | [_, _], _ => rfl) (fun vs H Q E h => ?_) (fun cdv A outer s H vs Q E hr h => ?_)
  · obtain ⟨v, r, d, ns, rfl, _⟩ := h
    rfl
  · obtain ⟨v, r, d, ns, rfl, hv, hn, k⟩ := h
    refine ⟨_, PSs.nox (Evl.pss_cut (ps_if (PW.pt (pw_or (pt_not (pt_val (pe_callB call_isi (by rfl) (W.fre 69) (by decide +kernel) (pa_cons (pv 0) (pa_cons (pe_bltn (v := .ty "tuple") (by rfl) (W.fre 79) (show bootBuiltins "tuple" = some (.type "tuple") by decide +kernel) rfl) pa_nil))))) (pw_or1 (pt_cmpR op_ne (pe_callB call_len_seq (by rfl) (W.fre 70) (by decide +kernel) (pa_cons (pv 0) pa_nil)) pe_int (nomark _))))) (pss_one (ps_ret pe_bl)) pss_nil) (Evl.pss_cut (ps_asg (pv 0) (pg_tup (by rfl) (pgs_cons (pg_name (i := 2) sc_is_step.nd rfl (by first | exact Or.inl rfl | exact Or.inr rfl)) (pgs_cons (pg_name (i := 3) sc_is_step.nd rfl (by first | exact Or.inl rfl | exact Or.inr rfl)) pgs_nil)))) (Evl.pss_cut (ps_set (i := 4) sc_is_step.nd rfl (by first | exact Or.inl rfl | exact Or.inr rfl) (pe_op op_catA (pe_tup (pa_cons pe_str pa_nil)) (pv 1))) (pss_one (ps_ret (pe_and (pe_cmpR (SM.op_inA (SM.units65 hr)) (pv 2) (pv 4) (by rfl)) (pe_one (pe_or (pe_cmpR (SM.op_inA (SM.units65 hr)) (pv 3) (pv 4) (by rfl)) (pe_one (pe_cmpR (SM.op_inA (SM.units65 hr)) (pv 3) (pe_tup (pa_cons pe_str (pa_cons pe_str pa_nil))) (by rfl))))))))))), ?_⟩
    refine ⟨fun σ' H' => σ' = [some v, some (.ref r), none, none, none] ∧ H' = H ∧ ∃ a x0 x1 d0 d1, v = .ref a ∧ SqT K H a [x0, x1] ∧ d = .tuple [d0, d1] ∧ AnyV K H x0 d0 ∧ AnyV K H x1 d1, ?_, ?_⟩
    · refine ⟨_, rfl, _, _, _, _, _, rfl, .ty _, hv.dq.ty, kit_tup d, _, rfl, ?_⟩
      have k0 := k H Keep.refl
      obtain ⟨hq, hl⟩ := hv
      cases hq with
      | @tup a xs ds s t =>
        refine iteF ⟨_, rfl, _, _, rfl, .inr s, rfl, _, rfl, ite2 (fun h => ?_) (fun h => ?_)⟩
        · rw [isStep_len fun z => by rw [t.length, z] at h; exact absurd h (by decide)] at k0
          exact k0
        · have l2 := lenNe h
          rw [t.length] at l2
          obtain ⟨d0, d1, rfl⟩ : ∃ d0 d1, ds = [d0, d1] := by
            match ds, l2 with
            | [d0, d1], _ => exact ⟨d0, d1, rfl⟩
          cases t with
          | cons t0 t =>
            cases t with
            | cons t1 t =>
              cases t
              exact ⟨rfl, rfl, a, _, _, d0, d1, rfl, s, rfl, ⟨t0, (hl.items d0 (by simp)).mono (by decide)⟩, ⟨t1, (hl.items d1 (by simp)).mono (by decide)⟩⟩
      | non => exact iteT k0
      | bl b => exact iteT k0
      | int b => exact iteT k0
      | str b => exact iteT k0
      | lst s t => exact iteT k0
      | dic s t => exact iteT k0
    rintro σ' H1 ⟨rfl, rfl, a, x0, x1, d0, d1, rfl, sq, rfl, h0, h1⟩
    refine ⟨fun σ' H' => σ' = [some (.ref a), some (.ref r), some x0, some x1, none] ∧ H' = H1, ⟨_, rfl, a, _, rfl, sq, rfl, x0, _, rfl, x1, _, rfl, rfl, rfl, rfl⟩, ?_⟩
    rintro σ' H2 ⟨rfl, rfl⟩
    refine ⟨fun σ' H' => ∃ tt, σ' = [some (.ref a), some (.ref r), some x0, some x1, some (.ref tt)] ∧ Keep [] H2 H' ∧ SqT K H' tt ((("here" : Str) :: ns).map V.str), ?_, ?_⟩
    · refine ⟨(by show 1 ≤ sizeLine; decide), fun q hq => ⟨_, rfl, q, r, _, _, rfl, rfl, SqT.of upd_same, seqT_keep (Keep.new (m := []) hq) Soft.nil hn.sq, ?_, (fun e => by cases e), fun _ e => ?_, fun _ _ p hp => ?_⟩⟩
      · rw [List.length_map]
        exact Nat.le_trans (Nat.add_le_add_left hn.few 1) (by decide)
      · have e' : ns = [] := List.map_eq_nil_iff.mp e
        subst e'
        exact ⟨q, rfl, Keep.new hq, SqT.of upd_same⟩
      · exact ⟨p, rfl, (Keep.new hq).trans (Keep.new hp), SqT.of upd_same⟩
    rintro σ' H3 ⟨tt, rfl, k3, ht⟩
    have okh : OkN ("here" :: ns) := fun s hs => by
      rcases List.mem_cons.mp hs with rfl | hs
      · exact ok_here
      · exact hn.ok s hs
    have okn : OkN ["new", "nothing"] := fun s hs => by
      simp only [List.mem_cons, List.not_mem_nil, or_false] at hs
      rcases hs with rfl | rfl
      · exact ok_new
      · exact ok_nothing
    have h03 := h0.keep k3
    have h13 := h1.keep k3
    have q0 := k H3 k3
    obtain ⟨p1, p2, p3, p4⟩ := anyIn h03 ht okh
    refine ⟨_, rfl, _, rfl, .inr ⟨d0, _, p1, p2, p3, p4, _, rfl, ite2 (fun e => ?_) (fun e => ?_)⟩⟩
    · obtain ⟨r1, r2, r3, r4⟩ := anyIn h13 ht okh
      refine ⟨_, rfl, _, rfl, .inr ⟨d1, _, r1, r2, r3, r4, _, rfl, ite2 (fun f => ?_) (fun f => ?_)⟩⟩
      · rw [isStep, show memS ("here" :: ns) d0 = true from e, show memS ("here" :: ns) d1 = true from f] at q0
        exact q0
      · refine ⟨_, rfl, (by show 2 ≤ sizeLine; decide), fun q hq => ?_⟩
        have kq : Keep [] H3 (upd H3 q (.tup [.str "new", .str "nothing"])) := Keep.new hq
        obtain ⟨s1, s2, s3, s4⟩ := anyIn (h13.keep kq) (SqT.of (upd_same (H := H3) (a := q) (o := .tup [.str "new", .str "nothing"]))) okn
        refine .inr ⟨d1, _, s1, s2, s3, s4, ?_⟩
        have q1 := k _ (k3.trans kq)
        rw [isStep, show memS ("here" :: ns) d0 = true from e, show memS ("here" :: ns) d1 = false from Bool.eq_false_iff.mpr f] at q1
        exact q1
    · rw [isStep, show memS ("here" :: ns) d0 = false from Bool.eq_false_iff.mpr e] at q0
      exact q0
end
end La
set_option Elab.async false
set_option linter.all false
set_option maxRecDepth 100000
set_option maxHeartbeats 4000000
namespace La
open PySem PySem.Spec PyProof.Rows L2 SM
def isTest (ns : List Str) : PyData → Bool
  | .tuple [a, b, c] => memS ("here" :: "new" :: ns) a && ((memS ("here" :: "new" :: ns) b || PyData.eqv b (.str "nothing")) && isBool c)
  | _ => false
theorem isTest_len {ns : List Str} {ds : List PyData} (h : ds.length ≠ 3) : isTest ns (.tuple ds) = false := by
  match ds, h with
  | [], _ => rfl
  | [_], _ => rfl
  | [_, _], _ => rfl
  | [_, _, _], h => exact absurd rfl h
  | _ :: _ :: _ :: _ :: _, _ => rfl
def isSteps (ns : List Str) : PyData → Bool
  | .tuple ds => decide (ds.length ≤ 4) && ds.all (isStep ns)
  | _ => false
section
variable {P : Program} {w : World} {K : PySem.W.Frag} {mg : Str → Option Value} {base : Heap}
abbrev s_is_test : Stmt := (top 39)
abbrev N_is_test : List Str := ["value", "registers", "one", "other", "same", "names"]
abbrev P_is_test : List Str := ["value", "registers"]
theorem sc_is_test : FnScope N_is_test P_is_test (defScope s_is_test) := ⟨rfl, rfl, rfl, by decide +kernel, rfl, by decide +kernel, by decide +kernel⟩
theorem Dis_test (W : Cw fas fns K mg) : DefOk P w K mg base CX0 1 "is_test" P_is_test (spCheck K isTest) := by
  refine DefOk.of W 37 32 (st := s_is_test) rfl rfl sc_is_test (fun _ _ _ _ _ _ us hl => match us, hl with | [_, _], _ => rfl) (fun vs H Q E h => ?_) (fun cdv A outer s H vs Q E hr h => ?_)
  · obtain ⟨v, r, d, ns, rfl, _⟩ := h
    rfl
  · obtain ⟨v, r, d, ns, rfl, hv, hn, k⟩ := h
    refine ⟨_, PSs.nox (Evl.pss_cut (ps_if (PW.pt (pw_or (pt_not (pt_val (pe_callB call_isi (by rfl) (W.fre 69) (by decide +kernel) (pa_cons (pv 0) (pa_cons (pe_bltn (v := .ty "tuple") (by rfl) (W.fre 79) (show bootBuiltins "tuple" = some (.type "tuple") by decide +kernel) rfl) pa_nil))))) (pw_or1 (pt_cmpR op_ne (pe_callB call_len_seq (by rfl) (W.fre 70) (by decide +kernel) (pa_cons (pv 0) pa_nil)) pe_int (nomark _))))) (pss_one (ps_ret pe_bl)) pss_nil) (Evl.pss_cut (ps_asg (pv 0) (pg_tup (by rfl) (pgs_cons (pg_name (i := 2) sc_is_test.nd rfl (by first | exact Or.inl rfl | exact Or.inr rfl)) (pgs_cons (pg_name (i := 3) sc_is_test.nd rfl (by first | exact Or.inl rfl | exact Or.inr rfl)) (pgs_cons (pg_name (i := 4) sc_is_test.nd rfl (by first | exact Or.inl rfl | exact Or.inr rfl)) pgs_nil))))) (Evl.pss_cut (ps_set (i := 5) sc_is_test.nd rfl (by first | exact Or.inl rfl | exact Or.inr rfl) (pe_op op_catA (pe_tup (pa_cons pe_str (pa_cons pe_str pa_nil))) (pv 1))) (pss_one (ps_ret (pe_and (pe_cmpR (SM.op_inA (SM.units65 hr)) (pv 2) (pv 5) (by rfl)) (pe_and (pe_or (pe_cmpR (SM.op_inA (SM.units65 hr)) (pv 3) (pv 5) (by rfl)) (pe_one (pe_cmpR (op_eqD hr.units) (pv 3) pe_str (nomark _)))) (pe_one (pe_callB call_isi (by rfl) (W.fre 69) (by decide +kernel) (pa_cons (pv 4) (pa_cons (pe_bltn (v := .ty "bool") (by rfl) (W.fre 65) (show bootBuiltins "bool" = some (.type "bool") by decide +kernel) rfl) pa_nil))))))))))), ?_⟩
    refine ⟨fun σ' H' => σ' = [some v, some (.ref r), none, none, none, none] ∧ H' = H ∧ ∃ a x0 x1 x2 d0 d1 d2, v = .ref a ∧ SqT K H a [x0, x1, x2] ∧ d = .tuple [d0, d1, d2] ∧ AnyV K H x0 d0 ∧ AnyV K H x1 d1 ∧ AnyV K H x2 d2, ?_, ?_⟩
    · refine ⟨_, rfl, _, _, _, _, _, rfl, .ty _, hv.dq.ty, kit_tup d, _, rfl, ?_⟩
      have k0 := k H Keep.refl
      obtain ⟨hq, hl⟩ := hv
      cases hq with
      | @tup a xs ds s t =>
        refine iteF ⟨_, rfl, _, _, rfl, .inr s, rfl, _, rfl, ite2 (fun h => ?_) (fun h => ?_)⟩
        · rw [isTest_len fun z => by rw [t.length, z] at h; exact absurd h (by decide)] at k0
          exact k0
        · have l2 := lenNe h
          rw [t.length] at l2
          obtain ⟨d0, d1, d2, rfl⟩ : ∃ d0 d1 d2, ds = [d0, d1, d2] := by
            match ds, l2 with
            | [d0, d1, d2], _ => exact ⟨d0, d1, d2, rfl⟩
          cases t with
          | cons t0 t =>
            cases t with
            | cons t1 t =>
              cases t with
              | cons t2 t =>
                cases t
                exact ⟨rfl, rfl, a, _, _, _, d0, d1, d2, rfl, s, rfl, ⟨t0, (hl.items d0 (by simp)).mono (by decide)⟩, ⟨t1, (hl.items d1 (by simp)).mono (by decide)⟩, ⟨t2, (hl.items d2 (by simp)).mono (by decide)⟩⟩
      | non => exact iteT k0
      | bl b => exact iteT k0
      | int b => exact iteT k0
      | str b => exact iteT k0
      | lst s t => exact iteT k0
      | dic s t => exact iteT k0
    rintro σ' H1 ⟨rfl, rfl, a, x0, x1, x2, d0, d1, d2, rfl, sq, rfl, h0, h1, h2⟩
    refine ⟨fun σ' H' => σ' = [some (.ref a), some (.ref r), some x0, some x1, some x2, none] ∧ H' = H1, ⟨_, rfl, a, _, rfl, sq, rfl, x0, _, rfl, x1, _, rfl, x2, _, rfl, rfl, rfl, rfl⟩, ?_⟩
    rintro σ' H2 ⟨rfl, rfl⟩
    refine ⟨fun σ' H' => ∃ tt, σ' = [some (.ref a), some (.ref r), some x0, some x1, some x2, some (.ref tt)] ∧ Keep [] H2 H' ∧ SqT K H' tt ((("here" : Str) :: "new" :: ns).map V.str), ?_, ?_⟩
    · refine ⟨(by show 2 ≤ sizeLine; decide), fun q hq => ⟨_, rfl, q, r, _, _, rfl, rfl, SqT.of upd_same, seqT_keep (Keep.new (m := []) hq) Soft.nil hn.sq, ?_, (fun e => by cases e), fun _ e => ?_, fun _ _ p hp => ?_⟩⟩
      · rw [List.length_map]
        exact Nat.le_trans (Nat.add_le_add_left hn.few 2) (by decide)
      · have e' : ns = [] := List.map_eq_nil_iff.mp e
        subst e'
        exact ⟨q, rfl, Keep.new hq, SqT.of upd_same⟩
      · exact ⟨p, rfl, (Keep.new hq).trans (Keep.new hp), SqT.of upd_same⟩
    rintro σ' H3 ⟨tt, rfl, k3, ht⟩
    have okh : OkN ("here" :: "new" :: ns) := fun s hs => by
      rcases List.mem_cons.mp hs with rfl | hs
      · exact ok_here
      · rcases List.mem_cons.mp hs with rfl | hs
        · exact ok_new
        · exact hn.ok s hs
    have h03 := h0.keep k3
    have h13 := h1.keep k3
    have h23 := h2.keep k3
    have q0 := k H3 k3
    obtain ⟨p1, p2, p3, p4⟩ := anyIn h03 ht okh
    obtain ⟨r1, r2, r3, r4⟩ := anyIn h13 ht okh
    have last : ∀ b, (memS ("here" :: "new" :: ns) d1 || PyData.eqv d1 (.str "nothing")) = b → memS ("here" :: "new" :: ns) d0 = true → (if b = true then Q (.bl (isBool d2)) H3 else Q (.bl false) H3) := by
      intro b hb ha
      rw [isTest, ha, hb] at q0
      cases b with
      | true => exact iteT q0
      | false => exact iteF q0
    refine ⟨_, rfl, _, rfl, .inr ⟨d0, _, p1, p2, p3, p4, _, rfl, ite2 (fun e => ?_) (fun e => ?_)⟩⟩
    · refine ⟨_, rfl, _, rfl, .inr ⟨d1, _, r1, r2, r3, r4, _, rfl, ite2 (fun f => ?_) (fun f => ?_)⟩⟩
      · refine ⟨_, rfl, iteT ⟨_, rfl, _, _, _, _, _, rfl, .ty _, h23.dq.ty, kit_bool d2, ?_⟩⟩
        have := last true (by rw [show memS ("here" :: "new" :: ns) d1 = true from f]; rfl) e
        rw [if_pos rfl] at this
        exact this
      · refine ⟨_, rfl, d1, .str "nothing", r1, .str _, r3, shaped_str (by decide +kernel), _, rfl, ite2 (fun g => ?_) (fun g => ?_)⟩
        · refine ⟨_, rfl, _, _, _, _, _, rfl, .ty _, h23.dq.ty, kit_bool d2, ?_⟩
          have := last true (by rw [show PyData.eqv d1 (.str "nothing") = true from g, Bool.or_true]) e
          rw [if_pos rfl] at this
          exact this
        · have := last false (by rw [show memS ("here" :: "new" :: ns) d1 = false from Bool.eq_false_iff.mpr f, show PyData.eqv d1 (.str "nothing") = false from Bool.eq_false_iff.mpr g]; rfl) e
          rw [if_neg Bool.false_ne_true] at this
          exact this
    · rw [isTest, show memS ("here" :: "new" :: ns) d0 = false from Bool.eq_false_iff.mpr e] at q0
      exact q0
abbrev s_are_steps : Stmt := (top 40)
abbrev N_are_steps : List Str := ["value", "registers", "step"]
abbrev P_are_steps : List Str := ["value", "registers"]
theorem sc_are_steps : FnScope N_are_steps P_are_steps (defScope s_are_steps) := ⟨rfl, rfl, rfl, by decide +kernel, rfl, by decide +kernel, by decide +kernel⟩
theorem Dare_steps (W : Cw fas fns K mg) (Dis_step : DefOk P w K mg base CX0 1 "is_step" P_is_step (spCheck K isStep)) (Dare_at_most_four : DefOk P w K mg base CX0 1 "are_at_most_four" P_are_at_most_four (fun vs H Q _ => ∃ v d, vs = [v] ∧ Dq K H v d ∧ Q (.bl (upTo4 d)) H)) : DefOk P w K mg base CX0 2 "are_steps" P_are_steps (spCheckL K LayP isSteps) := by
  refine DefOk.of W 38 33 (st := s_are_steps) rfl rfl sc_are_steps (fun _ _ _ _ _ _ us hl => match us, hl with | [_, _], _ => rfl) (fun vs H Q E h => ?_) (fun cdv A outer s H vs Q E hr h => ?_)
  · obtain ⟨v, r, d, ns, rfl, _⟩ := h
    rfl
  · obtain ⟨v, r, d, ns, rfl, hq, hl, hn, k⟩ := h
    refine ⟨_, PSs.nox (pss_one (ps_ret (pe_and (SM.pe_callD Dare_at_most_four (hr.mono (by decide)) pass0 (pa_cons (pv 0) pa_nil)) (pe_one (pe_callB (cr_all rfl) (by rfl) (W.fre 64) (by decide +kernel) (pa_cons (pe_lc (own := [("step", 2)]) (g := gName 2) (tt := tYes) (by rfl) sc_are_steps.nd (pi_tup (pv 0)) (blkOk_by (own := [("step", 2)]) (N := N_are_steps) (sc := defScope s_are_steps) (by decide +kernel)) (fun _ _ _ _ _ => pg_name (i := 2) sc_are_steps.nd rfl (Or.inl rfl)) (fun _ _ _ _ _ => pts_nil) (fun _ _ _ _ _ => (SM.pe_callD Dis_step (hr.mono (by decide)) pass0 (pa_cons (pv 2) (pa_cons (pv 1) pa_nil))))) pa_nil)))))), ?_⟩
    refine ⟨_, rfl, v, d, rfl, hq, _, rfl, ?_⟩
    have k0 := k H Keep.refl
    cases hq with
    | @tup a xs ds s t =>
      refine ite2 (fun h => ?_) (fun h => ?_)
      · have l4 : ds.length ≤ 4 := of_decide_eq_true h
        refine ⟨_, rfl, a, rfl, ⟨xs, s⟩, fun D hD => ?_⟩
        refine lcB (f := isStep ns) s t (by omega) (fun H2 k2 v d hd hv => ?_) hD fun H2 k2 e2 => ⟨D, ds.map (isStep ns), rfl, SqL.of e2, ?_⟩
        · intro H3 k3 Q' q'
          exact ⟨_, rfl, _, rfl, v, r, d, ns, rfl, ⟨hv.mono k3.same, (hl ds rfl d hd).mono (by decide)⟩, hn.keep (k2.trans k3) Soft.nil, q'⟩
        · have := k H2 k2
          rw [isSteps, decide_eq_true l4, Bool.true_and, ← all_id] at this
          exact this
      · rw [isSteps, show decide (ds.length ≤ 4) = false from Bool.eq_false_iff.mpr h] at k0
        exact k0
    | non => exact iteF k0
    | bl b => exact iteF k0
    | int b => exact iteF k0
    | str b => exact iteF k0
    | lst s t => exact iteF k0
    | dic s t => exact iteF k0
end
end La

set_option Elab.async false
set_option linter.all false
set_option maxRecDepth 100000
set_option maxHeartbeats 4000000
namespace La
open PySem PySem.Spec PyProof.Rows L2 SM
def isTests (ns : List Str) : PyData → Bool
  | .tuple ds => decide (ds.length ≤ 4) && ds.all (isTest ns)
  | _ => false
def isLine (ns : List Str) : PyData → Bool
  | .tuple (t :: rest) => (decide (rest.length = 1) || decide (rest.length = 2)) && (isTests ns t && rest.all (isSteps ns))
  | _ => false
theorem inLen (n : Int) : ([PyData.int 2, .int 3].any fun z => PyData.eqv z (.int n)) = (decide (n = 2) || decide (n = 3)) := by
  simp only [List.any_cons, List.any_nil, PyData.eqv, Bool.or_false]
  by_cases a : n = 2
  · subst a; rfl
  · by_cases b : n = 3
    · subst b; rfl
    · have a' : ¬ (2 : Int) = n := fun z => a z.symm
      have b' : ¬ (3 : Int) = n := fun z => b z.symm
      simp [a, b, a', b']
theorem cut1 (x : V) (xs : List V) : cutV (x :: xs) (some 1) none = xs := by
  have h : HT.sIx (x :: xs).length 0 (some 1) = 1 := by
    show min 1 (xs.length + 1) = 1
    omega
  rw [cutV, h, HT.sIx_none, List.drop_one, List.tail_cons, List.length_cons, Nat.add_sub_cancel, List.take_length]
theorem isLine_len {ns : List Str} {ds : List PyData} (h : ds.length ≠ 2 ∧ ds.length ≠ 3) : isLine ns (.tuple ds) = false := by
  match ds, h with
  | [], _ => rfl
  | t :: rest, h =>
    have h1 : ¬ rest.length = 1 := fun z => h.1 (by rw [List.length_cons, z])
    have h2 : ¬ rest.length = 2 := fun z => h.2 (by rw [List.length_cons, z])
    rw [isLine, decide_eq_false h1, decide_eq_false h2]
    rfl
section
variable {P : Program} {w : World} {K : PySem.W.Frag} {mg : Str → Option Value} {base : Heap}
abbrev s_is_line : Stmt := (top 37)
abbrev N_is_line : List Str := ["value", "registers", "test", "steps"]
abbrev P_is_line : List Str := ["value", "registers"]
theorem sc_is_line : FnScope N_is_line P_is_line (defScope s_is_line) := ⟨rfl, rfl, rfl, by decide +kernel, rfl, by decide +kernel, by decide +kernel⟩
theorem Dis_line (W : Cw fas fns K mg) (Dis_test : DefOk P w K mg base CX0 1 "is_test" P_is_test (spCheck K isTest)) (Dare_steps : DefOk P w K mg base CX0 2 "are_steps" P_are_steps (spCheckL K LayP isSteps)) (Dare_at_most_four : DefOk P w K mg base CX0 1 "are_at_most_four" P_are_at_most_four (fun vs H Q _ => ∃ v d, vs = [v] ∧ Dq K H v d ∧ Q (.bl (upTo4 d)) H)) : DefOk P w K mg base CX0 3 "is_line" P_is_line (spCheckL K LayL isLine) := by
  refine DefOk.of W 35 30 (st := s_is_line) rfl rfl sc_is_line (fun _ _ _ _ _ _ us hl => match us, hl with | [_, _], _ => rfl) (fun vs H Q E h => ?_) (fun cdv A outer s H vs Q E hr h => ?_)
  · obtain ⟨v, r, d, ns, rfl, _⟩ := h
    rfl
  · obtain ⟨v, r, d, ns, rfl, hq, hl, hn, k⟩ := h
    refine ⟨_, PSs.nox (Evl.pss_cut (ps_if (PW.pt (pw_or (pt_not (pt_val (pe_callB call_isi (by rfl) (W.fre 69) (by decide +kernel) (pa_cons (pv 0) (pa_cons (pe_bltn (v := .ty "tuple") (by rfl) (W.fre 79) (show bootBuiltins "tuple" = some (.type "tuple") by decide +kernel) rfl) pa_nil))))) (pw_or1 (pt_cmpR (SM.op_notInA (SM.units65 hr)) (pe_callB call_len_seq (by rfl) (W.fre 70) (by decide +kernel) (pa_cons (pv 0) pa_nil)) (pe_tup (pa_cons pe_int (pa_cons pe_int pa_nil))) (by rfl))))) (pss_one (ps_ret pe_bl)) pss_nil) (Evl.pss_cut (ps_if (PW.pt (pw_or (pt_not (pt_val (SM.pe_callD Dare_at_most_four (hr.mono (by decide)) pass0 (pa_cons (pe_ix ix_seq (pv 0) pe_int (fun _ _ => rfl)) pa_nil)))) (pw_or1 (pt_not (pt_val (pe_callB (cr_all rfl) (by rfl) (W.fre 64) (by decide +kernel) (pa_cons (pe_lc (own := [("test", 2)]) (g := gName 2) (tt := tYes) (by rfl) sc_is_line.nd (pi_tup (pe_ix ix_seq (pv 0) pe_int (fun _ _ => rfl))) (blkOk_by (own := [("test", 2)]) (N := N_is_line) (sc := defScope s_is_line) (by decide +kernel)) (fun _ _ _ _ _ => pg_name (i := 2) sc_is_line.nd rfl (Or.inl rfl)) (fun _ _ _ _ _ => pts_nil) (fun _ _ _ _ _ => (SM.pe_callD Dis_test (hr.mono (by decide)) pass0 (pa_cons (pv 2) (pa_cons (pv 1) pa_nil))))) pa_nil))))))) (pss_one (ps_ret pe_bl)) pss_nil) (pss_one (ps_ret (pe_callB (cr_all rfl) (by rfl) (W.fre 64) (by decide +kernel) (pa_cons (pe_lc (own := [("steps", 3)]) (g := gName 3) (tt := tYes) (by rfl) sc_is_line.nd (pi_tup (pe_slice sl_tup (pv 0) (po_some pe_int) po_none)) (blkOk_by (own := [("steps", 3)]) (N := N_is_line) (sc := defScope s_is_line) (by decide +kernel)) (fun _ _ _ _ _ => pg_name (i := 3) sc_is_line.nd rfl (Or.inl rfl)) (fun _ _ _ _ _ => pts_nil) (fun _ _ _ _ _ => (SM.pe_callD Dare_steps (hr.mono (by decide)) pass0 (pa_cons (pv 3) (pa_cons (pv 1) pa_nil))))) pa_nil)))))), ?_⟩
    refine ⟨fun σ' H' => σ' = [some v, some (.ref r), none, none] ∧ Keep [] H H' ∧ ∃ a x0 xr d0 dr, v = .ref a ∧ d = .tuple (d0 :: dr) ∧ SqT K H' a (x0 :: xr) ∧ Dq K H' x0 d0 ∧ DqAll K H' xr dr ∧ (decide (dr.length = 1) || decide (dr.length = 2)) = true, ?_, ?_⟩
    · refine ⟨_, rfl, _, _, _, _, _, rfl, .ty _, hq.ty, kit_tup d, _, rfl, ?_⟩
      have k0 := k H Keep.refl
      cases hq with
      | @tup a xs ds s t =>
        refine iteF ⟨_, rfl, _, _, rfl, .inr s, (by show 2 ≤ sizeLine; decide), fun q hq => .inr ⟨.int xs.length, [.int 2, .int 3], .int _, .tup (SqT.of upd_same) (.cons (.int 2) (.cons (.int 3) .nil)), (Lay.int (n := 0) _).shaped (by decide), ?_, _, rfl, ?_⟩⟩
        · refine (Lay.tuple (n := 0) fun d z => ?_).shaped (by decide)
          simp only [List.mem_cons, List.not_mem_nil, or_false] at z
          rcases z with rfl | rfl
          · exact .int 2
          · exact .int 3
        rw [inLen]
        refine ite2 (fun h => ?_) (fun h => ?_)
        · rw [isLine_len ?_] at k
          · exact k _ (Keep.new hq)
          · rw [t.length] at h
            refine ⟨fun z => ?_, fun z => ?_⟩ <;> (rw [z] at h; exact absurd h (by decide))
        · have h' : (decide ((xs.length : Int) = 2) || decide ((xs.length : Int) = 3)) = true := by
            cases e : (decide ((xs.length : Int) = 2) || decide ((xs.length : Int) = 3))
            · rw [e] at h
              exact absurd rfl h
            · rfl
          rw [t.length, Bool.or_eq_true, decide_eq_true_eq, decide_eq_true_eq] at h'
          cases t with
          | nil => rcases h' with z | z <;> (simp at z)
          | @cons x0 xr d0 dr t0 tr =>
            have kq : Keep [] H (upd H q (.tup [.int 2, .int 3])) := Keep.new hq
            refine ⟨rfl, kq, a, x0, xr, d0, dr, rfl, rfl, seqT_keep kq Soft.nil s, t0.mono kq.same, tr.mono kq.same, ?_⟩
            rw [List.length_cons] at h'
            rw [Bool.or_eq_true, decide_eq_true_eq, decide_eq_true_eq]
            omega
      | non => exact iteT k0
      | bl b => exact iteT k0
      | int b => exact iteT k0
      | str b => exact iteT k0
      | lst s t => exact iteT k0
      | dic s t => exact iteT k0
    rintro σ' H1 ⟨rfl, k1, a, x0, xr, d0, dr, rfl, rfl, sq, h0, hr', hlen⟩
    have hl0 : LayP d0 := hl _ rfl d0 (by simp)
    refine ⟨fun σ' H' => σ' = [some (.ref a), some (.ref r), none, none] ∧ Keep [] H1 H' ∧ isTests ns d0 = true, ?_, ?_⟩
    · refine ⟨_, rfl, .inr (.inl ⟨a, _, 0, x0, rfl, rfl, sq, at0 .., x0, d0, rfl, h0, _, rfl, ?_⟩)⟩
      have k0 := k H1 k1
      rw [isLine, hlen, Bool.true_and] at k0 k
      cases h0 with
      | @tup b xs ds s t =>
        have eU : upTo4 (.tuple ds) = decide (ds.length ≤ 4) := rfl
        rw [eU]
        by_cases l4 : ds.length ≤ 4
        · rw [decide_eq_true l4]
          refine iteF ⟨_, rfl, .inr (.inl ⟨a, _, 0, _, rfl, rfl, sq, at0 .., b, rfl, ⟨xs, s⟩, fun D hD => ?_⟩)⟩
          refine lcB (f := isTest ns) s t (by omega) (fun H2 k2 v d hd hv => ?_) hD fun H2 k2 e2 => ⟨D, ds.map (isTest ns), rfl, SqL.of e2, _, rfl, ?_⟩
          · intro H3 k3 Q' q'
            exact ⟨_, rfl, _, rfl, v, r, d, ns, rfl, ⟨hv.mono k3.same, (hl0 ds rfl d hd).mono (by decide)⟩, hn.keep (k1.trans (k2.trans k3)) Soft.nil, q'⟩
          · have e : isTests ns (.tuple ds) = ds.all (isTest ns) := by rw [isTests, decide_eq_true l4, Bool.true_and]
            have e' : (ds.map (isTest ns)).all id = ds.all (isTest ns) := all_id ds (isTest ns)
            rw [e']
            have kk := k H2 (k1.trans k2)
            rw [e] at kk
            cases c : ds.all (isTest ns) with
            | true => exact iteF ⟨rfl, k2, by rw [e]; exact c⟩
            | false =>
              rw [c] at kk
              exact iteT kk
        · rw [decide_eq_false l4]
          rw [isTests, decide_eq_false l4] at k0
          exact iteT (iteT k0)
      | non => exact iteT (iteT k0)
      | bl b => exact iteT (iteT k0)
      | int b => exact iteT (iteT k0)
      | str b => exact iteT (iteT k0)
      | lst s t => exact iteT (iteT k0)
      | dic s t => exact iteT (iteT k0)
    rintro σ' H2 ⟨rfl, k2, ht⟩
    have sq2 := seqT_keep k2 Soft.nil sq
    rw [isLine, hlen, ht, Bool.true_and, Bool.true_and] at k
    refine ⟨_, rfl, 1, rfl, a, x0 :: xr, rfl, sq2, ?_, fun p hp => ?_⟩
    · intro z
      have : HT.sIx (x0 :: xr).length 0 (some 1) = 0 := z.1
      rw [show HT.sIx (x0 :: xr).length 0 (some 1) = min 1 (xr.length + 1) from rfl] at this
      omega
    rw [cut1]
    have kp : Keep [] H2 (upd H2 p (.tup xr)) := Keep.new hp
    refine ⟨p, rfl, ⟨xr, SqT.of upd_same⟩, fun D hD => ?_⟩
    have l2 : dr.length ≤ 2 := by
      rw [Bool.or_eq_true, decide_eq_true_eq, decide_eq_true_eq] at hlen
      omega
    refine lcB (f := isSteps ns) (SqT.of upd_same) ((hr'.mono k2.same).mono kp.same) (by omega) (fun H3 k3 v d hd hv => ?_) hD fun H3 k3 e3 => ⟨D, dr.map (isSteps ns), rfl, SqL.of e3, ?_⟩
    · intro H4 k4 Q' q'
      exact ⟨_, rfl, _, rfl, v, r, d, ns, rfl, hv.mono k4.same, hl _ rfl d (List.mem_cons_of_mem _ hd), hn.keep (k1.trans (k2.trans (kp.trans (k3.trans k4)))) Soft.nil, q'⟩
    · have e' : (dr.map (isSteps ns)).all id = dr.all (isSteps ns) := all_id dr (isSteps ns)
      rw [e']
      exact k H3 (k1.trans (k2.trans (kp.trans k3)))
end
end La

set_option Elab.async false
set_option linter.all false
set_option maxRecDepth 100000
set_option maxHeartbeats 4000000
namespace La
open PySem PySem.Spec PyProof.Rows L2 SM
def notNil : PyData → Bool
  | .tuple (t :: _) => !PyData.eqv t (.tuple [])
  | _ => false
/-- whether what stands at i among ds cannot stand there -/
def badAt (ns : List Str) (ds : List PyData) (i : Nat) : Bool := match ds[i]? with
  | some d => !isLine ns d || (decide (i + 1 = ds.length) && notNil d)
  | none => false
def firstBad (ns : List Str) (ds : List PyData) : Option Nat := (List.range ds.length).find? (badAt ns ds)
def spRefuse (K : PySem.W.Frag) : Sp := fun vs H Q E => ∃ (l r : Addr) (xs : List V) (ds : List PyData) (ns : List Str), vs = [.ref l, .ref r] ∧ (SqL K H l xs ∨ SqT K H l xs) ∧ DqAll K H xs ds ∧ (∀ d ∈ ds, LayL d) ∧ ds.length ≤ 100 ∧ NamesT K H r ns ∧
  (firstBad ns ds = none → ∀ H', Keep [] H H' → Q .non H') ∧ ∀ i, firstBad ns ds = some i → ∀ d H', Keep [] H H' → H d = none → H' d = some (.xd [("position", .int i)]) → E (.ref (He.ga K "BadLine")) (some d) H'
theorem find_none_to {p : Nat → Bool} : ∀ n, (∀ j, j < n → p j = false) → (List.range n).find? p = none := by
  intro n h
  rw [List.find?_eq_none]
  intro x hx
  rw [h x (List.mem_range.mp hx)]
  exact Bool.false_ne_true
theorem find_at {p : Nat → Bool} {n i : Nat} (hi : i < n) (h : ∀ j, j < i → p j = false) (hp : p i = true) : (List.range n).find? p = some i := by
  rw [show List.range n = List.range' 0 n from List.range_eq_range'] at *
  have : ∀ (m s : Nat), s ≤ i → i < s + m → (List.range' s m).find? p = some i := by
    intro m
    induction m with
    | zero => intro s h1 h2; omega
    | succ m ih =>
      intro s h1 h2
      rw [List.range'_succ, List.find?_cons]
      by_cases e : s = i
      · rw [e, hp]
      · rw [h s (by omega)]
        exact ih (s + 1) (by omega) (by omega)
  exact this n 0 (Nat.zero_le _) (by omega)
theorem firstBad_none {ns : List Str} {ds : List PyData} (h : ∀ j, j < ds.length → badAt ns ds j = false) : firstBad ns ds = none := find_none_to _ h
theorem firstBad_at {ns : List Str} {ds : List PyData} {i : Nat} (hi : i < ds.length) (h : ∀ j, j < i → badAt ns ds j = false) (hp : badAt ns ds i = true) : firstBad ns ds = some i := find_at hi h hp
theorem isLine_head {ns : List Str} {d : PyData} (h : isLine ns d = true) : ∃ es rest, d = .tuple (.tuple es :: rest) := by
  match d, h with
  | .tuple (t :: rest), h =>
    rw [isLine, Bool.and_eq_true, Bool.and_eq_true] at h
    have ht := h.2.1
    match t, ht with
    | .tuple es, _ => exact ⟨es, rest, rfl⟩
section
variable {P : Program} {w : World} {K : PySem.W.Frag} {mg : Str → Option Value} {base : Heap}
abbrev s_refuse_bad_lines : Stmt := (top 36)
abbrev N_refuse_bad_lines : List Str := ["lines", "registers", "last", "position", "line"]
abbrev P_refuse_bad_lines : List Str := ["lines", "registers"]
theorem sc_refuse_bad_lines : FnScope N_refuse_bad_lines P_refuse_bad_lines (defScope s_refuse_bad_lines) := ⟨rfl, rfl, rfl, by decide +kernel, rfl, by decide +kernel, by decide +kernel⟩
theorem Drefuse_bad_lines (W : Cw fas fns K mg) (R_BadLine : RaiseOk P w K mg base "BadLine" "position") (Dis_line : DefOk P w K mg base CX0 3 "is_line" P_is_line (spCheckL K LayL isLine)) : DefOk P w K mg base (CX P w) 4 "refuse_bad_lines" P_refuse_bad_lines (spRefuse K) := by
  refine DefOk.of W 34 29 (st := s_refuse_bad_lines) rfl rfl sc_refuse_bad_lines (fun _ _ _ _ _ _ us hl => match us, hl with | [_, _], _ => rfl) (fun vs H Q E h => ?_) (fun cdv A outer s H vs Q E hr h => ?_)
  · obtain ⟨l, r, xs, ds, ns, rfl, _⟩ := h
    rfl
  · obtain ⟨l, r, xs, ds, ns, rfl, hl, hd, lay, l100, hn, k, kE⟩ := h
    refine ⟨_, (Evl.pss_cut (ps_set (i := 2) sc_refuse_bad_lines.nd rfl (by first | exact Or.inl rfl | exact Or.inr rfl) (pe_op op_sub (pe_callB call_len_seq (by rfl) (W.fre 70) (by decide +kernel) (pa_cons (pv 0) pa_nil)) pe_int)) (pss_one (ps_for (passes_of rfl) rfl (SM.pi_enumA (by rfl) (W.fre 67) (pa_cons (pv 0) pa_nil)) (pg_tup (by rfl) (pgs_cons (pg_name (i := 3) sc_refuse_bad_lines.nd rfl (by first | exact Or.inl rfl | exact Or.inr rfl)) (pgs_cons (pg_name (i := 4) sc_refuse_bad_lines.nd rfl (by first | exact Or.inl rfl | exact Or.inr rfl)) pgs_nil))) (pss_one (ps_if (PW.pt (pw_or (pt_not (pt_val (SM.pe_callD Dis_line (hr.mono (by decide)) pass0 (pa_cons (pv 4) (pa_cons (pv 1) pa_nil))))) (pw_or1 (PW.pt (pw_and (pt_cmpR op_eq (pv 3) (pv 2) (nomark _)) (pw_and1 (pt_cmpR (op_neD hr.units) (pe_ix ix_seq (pv 4) pe_int (fun _ _ => rfl)) (pe_tup pa_nil) (nomark _)))))))) (pss_one (SM.ps_raiseErr R_BadLine rfl (hr.mono (by decide)) (takes_of rfl rfl rfl rfl) (pv 3))) pss_nil))))), ?_⟩
    have lenx := hd.length
    refine ⟨fun σ' H' => σ' = [some (.ref l), some (.ref r), some (.int ((xs.length : Int) - 1)), none, none] ∧ H' = H, ⟨_, rfl, l, xs, rfl, hl, _, 1, rfl, rfl, rfl, rfl⟩, ?_⟩
    rintro σ' H0 ⟨rfl, rfl⟩
    refine ⟨_, rfl, l, xs, rfl, for_enumA (fun i σ' H' => ∃ x3 x4, σ' = [some (.ref l), some (.ref r), some (.int ((xs.length : Int) - 1)), x3, x4] ∧ Keep [] H0 H' ∧ ∀ j, j < i → badAt ns ds j = false) hl ⟨none, none, rfl, Keep.refl, fun j z => absurd z (Nat.not_lt_zero _)⟩ (fun i σ' H' ⟨_, _, _, k, _⟩ => k) ?_ ?_⟩
    · rintro i x T σ' H1 hx ⟨x3, x4, rfl, k1, good⟩ hT
      obtain ⟨d, hdi, hv⟩ := hd.get hx
      have hi : i < ds.length := by
        rcases Nat.lt_or_ge i ds.length with h | h
        · exact h
        · rw [List.getElem?_eq_none h] at hdi
          cases hdi
      have kT : Keep [] H1 (upd H1 T (.tup [.int (i : Int), x])) := Keep.new hT
      have hv2 := (hv.mono k1.same).mono kT.same
      have ld := lay d (List.mem_of_getElem? hdi)
      have out : badAt ns ds i = true → ∀ H', Keep [] H0 H' → ∀ dd, H' dd = none → E (.ref (He.ga K "BadLine")) (some dd) (upd H' dd (.xd [("position", .int (i : Int))])) := by
        intro hb H' kk dd hdd
        exact kE i (firstBad_at hi good hb) dd _ (kk.trans (Keep.new hdd)) (kk.free (by simp) hdd) upd_same
      refine ⟨T, _, rfl, SqT.of upd_same, rfl, _, _, rfl, x, _, rfl, rfl, ?_⟩
      refine ⟨_, rfl, _, rfl, x, r, d, ns, rfl, hv2, ld, hn.keep (k1.trans kT) Soft.nil, fun H2 k2 => ⟨_, rfl, ?_⟩⟩
      have kk := k1.trans (kT.trans k2)
      cases il : isLine ns d with
      | false =>
        refine iteT ⟨_, rfl, ?_⟩
        refine raise_out (W := E) R_BadLine.err R_BadLine.no fun dd hdd => out ?_ H2 kk dd hdd
        rw [badAt, hdi]
        show (!isLine ns d || _) = true
        rw [il]
        rfl
      | true =>
        obtain ⟨es, rest, rfl⟩ := isLine_head il
        have bad : badAt ns ds i = (decide (i + 1 = ds.length) && !PyData.eqv (.tuple es) (.tuple [])) := by
          rw [badAt, hdi]
          show (!isLine ns _ || _) = _
          rw [il]
          rfl
        refine iteF ⟨_, rfl, _, rfl, rfl, _, rfl, ite2 (fun e => ?_) (fun e => ?_)⟩
        · have ei : i + 1 = ds.length := by
            have := V.int.inj (of_decide_eq_true e)
            omega
          have hv3 := hv2.mono k2.same
          cases hv3 with
          | @tup ta txs tds ts tt =>
            cases tt with
            | @cons t0 tr td0 tdr th tl =>
              have lt : Lay 58 (.tuple es) := Lay.tuple (ld _ rfl _ (by simp) es rfl)
              refine ⟨_, rfl, .inr (.inl ⟨ta, _, 0, t0, rfl, rfl, ts, at0 .., Nat.zero_le _, fun q hq => ?_⟩)⟩
              have kq : Keep [] H2 (upd H2 q (.tup [])) := Keep.new hq
              refine ⟨.tuple es, .tuple [], (th.mono kq.same).toDp lt.1, .tup (SqT.of upd_same) .nil, lt.shaped (by decide), (Lay.tuple (n := 0) (ds := []) (fun z h => by cases h)).shaped (by decide), _, rfl, ite2 (fun f => ?_) (fun f => ?_)⟩
              · refine ⟨_, rfl, ?_⟩
                refine raise_out (W := E) R_BadLine.err R_BadLine.no fun dd hdd => out ?_ _ (kk.trans kq) dd hdd
                rw [bad, decide_eq_true ei, f]
                rfl
              · refine ⟨_, _, rfl, kk.trans kq, fun j hj => ?_⟩
                rcases Nat.lt_or_ge j i with h | h
                · exact good j h
                · rw [show j = i by omega, bad, Bool.eq_false_iff.mpr f, Bool.and_false]
        · refine ⟨_, _, rfl, kk, fun j hj => ?_⟩
          rcases Nat.lt_or_ge j i with h | h
          · exact good j h
          · have ne : ¬ (i + 1 = ds.length) := fun z => e (decide_eq_true (congrArg V.int (by omega)))
            rw [show j = i by omega, bad, decide_eq_false ne, Bool.false_and]
    · rintro σ' H1 ⟨x3, x4, rfl, k1, good⟩
      exact k (firstBad_none (fun j hj => good j (by omega))) H1 k1
end
end La

set_option Elab.async false
set_option linter.all false
set_option maxRecDepth 100000
set_option maxHeartbeats 4000000
namespace La
open PySem PySem.Spec PyProof.Rows L2 SM
def isWord : PyData → Bool
  | .str x => (decide (1 ≤ x.length) && decide (x.length ≤ 8)) && x.cps.toList.all fun c => decide (97 ≤ c) && decide (c ≤ 122)
  | _ => false
theorem sg_a : (Str.ofString "a").cps.toList = [97] := by decide +kernel
theorem sg_z : (Str.ofString "z").cps.toList = [122] := by decide +kernel
theorem lt_one (a b : Nat) : decide ([a] < [b]) = decide (a < b) := by
  apply decide_eq_decide.mpr
  rw [List.cons_lt_cons_iff]
  simp
theorem all_idN (bs : List Nat) (f : Nat → Bool) : (bs.map f).all id = bs.all f := by
  induction bs with
  | nil => rfl
  | cons b bs ih => rw [List.map_cons, List.all_cons, List.all_cons, ih]; rfl
section
variable {P : Program} {w : World} {K : PySem.W.Frag} {mg : Str → Option Value} {base : Heap}
abbrev s_is_word : Stmt := (top 34)
abbrev N_is_word : List Str := ["value", "letter"]
abbrev P_is_word : List Str := ["value"]
theorem sc_is_word : FnScope N_is_word P_is_word (defScope s_is_word) := ⟨rfl, rfl, rfl, by decide +kernel, rfl, by decide +kernel, by decide +kernel⟩
theorem Dis_word (W : Cw fas fns K mg) : DefOk P w K mg base CX0 1 "is_word" P_is_word (fun vs H Q _ => ∃ v d, vs = [v] ∧ Dq K H v d ∧ (∀ x, d = .str x → x.length ≤ 1000) ∧ ∀ H', Keep [] H H' → Q (.bl (isWord d)) H') := by
  refine DefOk.of W 32 27 (st := s_is_word) rfl rfl sc_is_word (fun _ _ _ _ _ _ us hl => match us, hl with | [_], _ => rfl) (fun vs H Q E h => ?_) (fun cdv A outer s H vs Q E hr h => ?_)
  · obtain ⟨v, d, rfl, _⟩ := h
    rfl
  · obtain ⟨v, d, rfl, hv, short, k⟩ := h
    refine ⟨_, PSs.nox (Evl.pss_cut (ps_if (PW.pt (pw_or (pt_not (pt_val (pe_callB call_isi (by rfl) (W.fre 69) (by decide +kernel) (pa_cons (pv 0) (pa_cons (pe_bltn (v := .ty "str") (by rfl) (W.fre 78) (show bootBuiltins "str" = some (.type "str") by decide +kernel) rfl) pa_nil))))) (pw_or1 (pt_not (pt_chain op_le op_le pe_int (pe_callB call_len_str (by rfl) (W.fre 70) (by decide +kernel) (pa_cons (pv 0) pa_nil)) pe_int))))) (pss_one (ps_ret pe_bl)) pss_nil) (pss_one (ps_ret (pe_callB (cr_all rfl) (by rfl) (W.fre 64) (by decide +kernel) (pa_cons (pe_lc (own := [("letter", 1)]) (g := gName 1) (tt := tYes) (by rfl) sc_is_word.nd (pi_str (pv 0)) (blkOk_by (own := [("letter", 1)]) (N := N_is_word) (sc := defScope s_is_word) (by decide +kernel)) (fun _ _ _ _ _ => pg_name (i := 1) sc_is_word.nd rfl (Or.inl rfl)) (fun _ _ _ _ _ => pts_nil) (fun _ _ _ _ _ => (pe_chain op_le_str op_le_str pe_str (pv 1) pe_str))) pa_nil))))), ?_⟩
    refine ⟨fun σ' H' => σ' = [some v, none] ∧ H' = H ∧ ∃ x, v = .str x ∧ d = .str x ∧ (decide (1 ≤ x.length) && decide (x.length ≤ 8)) = true, ?_, ?_⟩
    · refine ⟨_, rfl, _, _, _, _, _, rfl, .ty _, hv.ty, kit_str d, _, rfl, ?_⟩
      have k0 := k H Keep.refl
      cases hv with
      | str x =>
        refine iteF ⟨_, rfl, x, rfl, Nat.le_trans (short x rfl) (by decide), _, _, rfl, rfl, _, rfl, ite2 (fun e => ?_) (fun e => ?_)⟩
        · refine ⟨_, _, rfl, rfl, _, rfl, ite2 (fun f => ?_) (fun f => ?_)⟩
          · rw [isWord, decide_eq_false (show ¬ x.length ≤ 8 by intro z; simp at f; omega), Bool.and_false, Bool.false_and] at k0
            exact k0
          · refine ⟨rfl, rfl, x, rfl, rfl, ?_⟩
            simp at e f ⊢
            exact ⟨by omega, by omega⟩
        · refine ⟨_, rfl, iteT ?_⟩
          rw [isWord, decide_eq_false (show ¬ 1 ≤ x.length by intro z; simp at e; omega), Bool.false_and, Bool.false_and] at k0
          exact k0
      | non => exact iteT k0
      | bl b => exact iteT k0
      | int b => exact iteT k0
      | tup s t => exact iteT k0
      | lst s t => exact iteT k0
      | dic s t => exact iteT k0
    rintro σ' H1 ⟨rfl, rfl, x, rfl, rfl, hx⟩
    have xs : x.cps.size ≤ 1000 := short x rfl
    refine ⟨_, rfl, x, rfl, fun D hD => ?_⟩
    refine lcBstr (f := fun c => decide (97 ≤ c) && decide (c ≤ 122)) xs (fun H2 k2 c => ?_) hD fun H2 k2 e2 => ⟨D, _, rfl, SqL.of e2, ?_⟩
    · intro H3 k3 Q' q'
      refine ⟨_, rfl, _, _, rfl, rfl, _, rfl, ?_⟩
      have q0 := q' H3 Keep.refl
      rw [sg_a]
      show (if (!decide ([c] < [97])) = true then _ else _)
      rw [lt_one]
      refine ite2 (fun e => ?_) (fun e => ?_)
      · refine ⟨_, _, rfl, rfl, ?_⟩
        rw [sg_z]
        show Q' (.bl (!decide ([122] < [c]))) H3
        rw [lt_one]
        have e1 : 97 ≤ c := by simp at e; exact e
        rw [decide_eq_true e1, Bool.true_and] at q0
        have e2 : (!decide (122 < c)) = decide (c ≤ 122) := by
          by_cases h : 122 < c
          · rw [decide_eq_true h, decide_eq_false (by omega)]; rfl
          · rw [decide_eq_false h, decide_eq_true (by omega)]; rfl
        rw [e2]
        exact q0
      · have e1 : ¬ 97 ≤ c := by
          intro z
          have : decide (c < 97) = false := decide_eq_false (by omega)
          rw [this] at e
          exact e rfl
        rw [decide_eq_false e1, Bool.false_and] at q0
        exact q0
    · rw [all_idN]
      have := k H2 k2
      rw [isWord, hx, Bool.true_and] at this
      exact this
end
end La

set_option Elab.async false
set_option linter.all false
set_option maxRecDepth 100000
set_option maxHeartbeats 4000000
namespace La
open PySem PySem.Spec PyProof.Rows L2 SM
def isName (d : PyData) : Bool := isWord d && !memS words01 d
def strsOf : List PyData → List Str
  | .str x :: ds => x :: strsOf ds
  | _ :: ds => strsOf ds
  | [] => []
def isRegs : PyData → Bool
  | .list ds => decide (ds.length ≤ 3) && (ds.all isName && decide ((dedS (strsOf ds)).length = ds.length))
  | .tuple ds => decide (ds.length ≤ 3) && (ds.all isName && decide ((dedS (strsOf ds)).length = ds.length))
  | _ => false
def regsD (ds : List PyData) : Bool := decide (ds.length ≤ 3) && (ds.all isName && decide ((dedS (strsOf ds)).length = ds.length))
theorem isName_str {d : PyData} (h : isName d = true) : ∃ x, d = .str x := by
  rw [isName, Bool.and_eq_true] at h
  match d, h.1 with
  | .str x, _ => exact ⟨x, rfl⟩
theorem names_strs : ∀ {ds : List PyData}, ds.all isName = true → ds = (strsOf ds).map PyData.str
  | [], _ => rfl
  | d :: ds, h => by
    rw [List.all_cons, Bool.and_eq_true] at h
    obtain ⟨x, rfl⟩ := isName_str h.1
    rw [strsOf, List.map_cons, ← names_strs h.2]
theorem words01_ok : OkN words01 := by
  have h : words01.all (fun s => PyData.strOk s) = true := by decide +kernel
  exact fun s hs => List.all_eq_true.mp h s hs
theorem word_ok {x : Str} (h : isWord (.str x) = true) : PyData.strOk x = true := by
  rw [isWord, Bool.and_eq_true] at h
  rw [PyData.strOk, Array.all_eq_true']
  intro c hc
  have := List.all_eq_true.mp h.2 c (by simpa using hc)
  simp only [Bool.and_eq_true, decide_eq_true_eq] at this ⊢
  omega
theorem dqStrs {K : PySem.W.Frag} {H : Hp} : ∀ {ns : List Str} {us : List V}, DqAll K H us (ns.map PyData.str) → us = ns.map V.str
  | [], _, .nil => rfl
  | n :: ns, _, .cons h t => by
    rw [dqStrs t]
    cases h
    rfl
def spWord (K : PySem.W.Frag) : Sp := fun vs H Q _ => ∃ v d, vs = [v] ∧ Dq K H v d ∧ (∀ x, d = .str x → x.length ≤ 1000) ∧ ∀ H', Keep [] H H' → Q (.bl (isWord d)) H'
def itemsOf : PyData → List PyData
  | .list ds => ds
  | .tuple ds => ds
  | _ => []
section
variable {P : Program} {w : World} {K : PySem.W.Frag} {mg : Str → Option Value} {base : Heap}
abbrev s_are_registers : Stmt := (top 35)
abbrev N_are_registers : List Str := ["value", "name"]
abbrev P_are_registers : List Str := ["value"]
theorem sc_are_registers : FnScope N_are_registers P_are_registers (defScope s_are_registers) := ⟨rfl, rfl, rfl, by decide +kernel, rfl, by decide +kernel, by decide +kernel⟩
theorem Dare_registers (W : Cw fas fns K mg) (hx : exB K = true) (Dis_word : DefOk P w K mg base CX0 1 "is_word" P_is_word (spWord K)) : DefOk P w K mg base CX0 2 "are_registers" P_are_registers (fun vs H Q _ => ∃ v d, vs = [v] ∧ Dq K H v d ∧ (∀ e ∈ itemsOf d, ∀ x, e = .str x → x.length ≤ 1000) ∧ ∀ H', Keep [] H H' → Q (.bl (isRegs d)) H') := by
  refine DefOk.of W 33 28 (st := s_are_registers) rfl rfl sc_are_registers (fun _ _ _ _ _ _ us hl => match us, hl with | [_], _ => rfl) (fun vs H Q E h => ?_) (fun cdv A outer s H vs Q E hr h => ?_)
  · obtain ⟨v, d, rfl, _⟩ := h
    rfl
  · obtain ⟨v, d, rfl, hv, short, k⟩ := h
    refine ⟨_, PSs.nox (Evl.pss_cut (ps_if (PW.pt (pw_or (pt_not (pt_val (pe_callB call_isiT (by rfl) (W.fre 69) (by decide +kernel) (pa_cons (pv 0) (pa_cons (pe_tup (pa_cons (pe_bltn (v := .ty "list") (by rfl) (W.fre 71) (show bootBuiltins "list" = some (.type "list") by decide +kernel) rfl) (pa_cons (pe_bltn (v := .ty "tuple") (by rfl) (W.fre 79) (show bootBuiltins "tuple" = some (.type "tuple") by decide +kernel) rfl) pa_nil))) pa_nil))))) (pw_or1 (pt_cmpR op_gt (pe_callB call_len_seq (by rfl) (W.fre 70) (by decide +kernel) (pa_cons (pv 0) pa_nil)) pe_int (nomark _))))) (pss_one (ps_ret pe_bl)) pss_nil) (Evl.pss_cut (ps_if (pt_not (pt_val (pe_callB (cr_all rfl) (by rfl) (W.fre 64) (by decide +kernel) (pa_cons (pe_lc (own := [("name", 1)]) (g := gName 1) (tt := tYes) (te := tAndV (tCall _ [] E0 _) (tOp (SM.rNotInA K) _ _)) (by rfl) sc_are_registers.nd (SM.pi_seq (pv 0)) (blkOk_by (own := [("name", 1)]) (N := N_are_registers) (sc := defScope s_are_registers) (by decide +kernel)) (fun _ _ _ _ _ => pg_name (i := 1) sc_are_registers.nd rfl (Or.inl rfl)) (fun _ _ _ _ _ => pts_nil) (fun _ _ _ _ _ => (pe_and (SM.pe_callD Dis_word (hr.mono (by decide)) pass0 (pa_cons (pv 1) pa_nil)) (pe_one (pe_cmpR (SM.op_notInA (SM.units65 hr)) (pv 1) (pe_glob (v := .ref _) (by rfl) (W.glo 82) rfl) (by rfl)))))) pa_nil)))) (pss_one (ps_ret pe_bl)) pss_nil) (pss_one (ps_ret (pe_cmpR op_eq (SM.pe_lenSetW (by rfl) (by rfl) (W.fre 70) (by rfl) (W.fre 77) (pv 0)) (pe_callB call_len_seq (by rfl) (W.fre 70) (by decide +kernel) (pa_cons (pv 0) pa_nil)) (nomark _)))))), ?_⟩
    refine ⟨fun σ' H' => σ' = [some v, none] ∧ Keep [] H H' ∧ ∃ a xs ds, v = .ref a ∧ (SqL K H' a xs ∨ SqT K H' a xs) ∧ isRegs d = regsD ds ∧ itemsOf d = ds ∧ DqAll K H' xs ds ∧ ds.length ≤ 3, ?_, ?_⟩
    · refine ⟨_, rfl, (by show 2 ≤ sizeLine; decide), fun q hq => ?_⟩
      have kq : Keep [] H (upd H q (.tup [.ty "list", .ty "tuple"])) := Keep.new hq
      have kk := k _ kq
      have hv' := hv.mono kq.same
      refine ⟨v, q, [.ty "list", .ty "tuple"], _, [.type "list", .type "tuple"], isSeq d, rfl, upd_same, .cons (.ty _) (.cons (.ty _) .nil), hv'.ty, kit_seq d, _, rfl, ?_⟩
      have seq : ∀ a xs ds, v = .ref a → (SqL K (upd H q (.tup [.ty "list", .ty "tuple"])) a xs ∨ SqT K (upd H q (.tup [.ty "list", .ty "tuple"])) a xs) → isRegs d = regsD ds → itemsOf d = ds → DqAll K (upd H q (.tup [.ty "list", .ty "tuple"])) xs ds →
          (if decide ((3 : Int) < xs.length) = true then Q (.bl false) (upd H q (.tup [.ty "list", .ty "tuple"])) else ds.length ≤ 3) := by
        intro a xs ds _ hs e1 e2 hd
        have len := hd.length
        refine ite2 (fun h => ?_) (fun h => ?_)
        · have : ¬ ds.length ≤ 3 := by
            have := of_decide_eq_true h
            omega
          rw [e1, regsD, decide_eq_false this, Bool.false_and] at kk
          exact kk
        · have : ¬ (3 : Int) < xs.length := fun z => h (decide_eq_true z)
          omega
      cases hv' with
      | @lst a xs ds s t =>
        have z := seq a xs ds rfl (.inl s) rfl rfl t
        refine iteF ⟨_, rfl, a, xs, rfl, .inl s, _, 3, rfl, rfl, _, rfl, ?_⟩
        by_cases h : decide ((3 : Int) < xs.length) = true
        · rw [if_pos h] at z ⊢
          exact z
        · rw [if_neg h] at z ⊢
          exact ⟨rfl, kq, a, xs, ds, rfl, .inl s, rfl, rfl, t, z⟩
      | @tup a xs ds s t =>
        have z := seq a xs ds rfl (.inr s) rfl rfl t
        refine iteF ⟨_, rfl, a, xs, rfl, .inr s, _, 3, rfl, rfl, _, rfl, ?_⟩
        by_cases h : decide ((3 : Int) < xs.length) = true
        · rw [if_pos h] at z ⊢
          exact z
        · rw [if_neg h] at z ⊢
          exact ⟨rfl, kq, a, xs, ds, rfl, .inr s, rfl, rfl, t, z⟩
      | non => exact iteT kk
      | bl b => exact iteT kk
      | int b => exact iteT kk
      | str b => exact iteT kk
      | dic s t => exact iteT kk
    rintro σ' H1 ⟨rfl, k1, a, xs, ds, rfl, hs, e1, e2, hd, l3⟩
    rw [e1, regsD, decide_eq_true l3, Bool.true_and] at k
    rw [e2] at short
    have item : ∀ (H2 : Hp), Keep [] H1 H2 → ∀ (v : V) (e : PyData), e ∈ ds → Dq K H2 v e → LtB (tAndV (tCall (spWord K) [] E0 (tCons (tVar 1) tNil)) (tOp (rNotInA K) (tVar 1) (tC (.ref (He.ga K "WORDS_OF_TEXTS"))))) (([some (.ref a), none] : L2.St).set 1 none |>.set 1 (some v)) H2 (isName e) := by
      intro H2 k2 u e he hu H3 k3 Q' q'
      refine ⟨_, rfl, u, e, rfl, hu.mono k3.same, short e he, fun H4 k4 => ⟨_, rfl, ite2 (fun h => ?_) (fun h => ?_)⟩⟩
      · have h' : isWord e = true := h
        have q0 := q' H4 k4
        rw [isName, h', Bool.true_and] at q0
        obtain ⟨x, rfl⟩ : ∃ x, e = .str x := by
          match e, h' with
          | .str x, _ => exact ⟨x, rfl⟩
        cases hu
        refine ⟨_, rfl, .inr ⟨.str x, words01.map PyData.str, .str x, .tup (words_at hx H4) (dpStrs words01), shaped_str (word_ok h'), shaped_strs words01_ok, ?_⟩⟩
        exact q0
      · have q0 := q' H4 k4
        rw [isName, show isWord e = false from Bool.eq_false_iff.mpr h, Bool.false_and] at q0
        exact q0
    refine ⟨fun σ' H' => σ' = [some (.ref a), none] ∧ Keep [] H1 H' ∧ ds.all isName = true, ?_, ?_⟩
    · have rest : ∀ D H2, Keep [] H1 H2 → H2 D = some (.lst ((ds.map isName).map V.bl)) → rAll K [.ref D] H2 fun x H' => ∃ c, x = .bl c ∧ (fun b (H1' : Hp) => if b = true then Q (.bl false) H1' else ([some (.ref a), none] : L2.St) = [some (.ref a), none] ∧ Keep [] H1 H1' ∧ ds.all isName = true) (!c) H' := by
        intro D H2 k2 e2
        refine ⟨D, _, rfl, SqL.of e2, _, rfl, ?_⟩
        have e' : (ds.map isName).all id = ds.all isName := all_id ds isName
        rw [e']
        cases c : ds.all isName with
        | true => exact iteF ⟨rfl, k2, rfl⟩
        | false =>
          have kk := k H2 (k1.trans k2)
          rw [c, Bool.false_and] at kk
          exact iteT kk
      rcases hs with hs | hs
      · exact ⟨_, rfl, a, rfl, .inl ⟨⟨xs, hs⟩, fun D hD => lcBL (f := isName) hs hd (by omega) item hD fun H2 k2 e2 => rest D H2 k2 e2⟩⟩
      · exact ⟨_, rfl, a, rfl, .inr ⟨⟨xs, hs⟩, fun D hD => lcB (f := isName) hs hd (by omega) item hD fun H2 k2 e2 => rest D H2 k2 e2⟩⟩
    rintro σ' H2 ⟨rfl, k2, hall⟩
    have es := names_strs hall
    have kk := k H2 (k1.trans k2)
    rw [hall, Bool.true_and] at kk
    have hs2 : SqL K H2 a xs ∨ SqT K H2 a xs := hs.elim (fun h => .inl (k2.same.seq h)) (fun h => .inr (seqT_keep k2 Soft.nil h))
    have hd2 := hd.mono k2.same
    rw [es] at hd2
    have exs := dqStrs hd2
    have len : xs.length = ds.length := hd.length
    have lst : (strsOf ds).length ≤ 100 := by
      have := congrArg List.length exs
      rw [List.length_map] at this
      omega
    refine ⟨_, rfl, a, strsOf ds, rfl, by rw [← exs]; exact hs2, lst, _, rfl, a, xs, rfl, hs2, rfl, ?_⟩
    rw [len]
    have e3 : decide (V.int ((dedS (strsOf ds)).length : Int) = V.int (ds.length : Int)) = decide ((dedS (strsOf ds)).length = ds.length) := by
      apply decide_eq_decide.mpr
      constructor
      · intro z
        have := V.int.inj z
        omega
      · intro z
        rw [z]
    rw [e3]
    exact kk
end
end La

set_option Elab.async false
set_option linter.all false
set_option maxRecDepth 100000
set_option maxHeartbeats 4000000
namespace La
open PySem PySem.Spec PyProof.Rows L2 SM
def linesIn : PyData → Bool
  | .list ds => decide (1 ≤ ds.length) && decide (ds.length ≤ 8)
  | .tuple ds => decide (1 ≤ ds.length) && decide (ds.length ≤ 8)
  | _ => false
def spRegs (K : PySem.W.Frag) : Sp := fun vs H Q _ => ∃ v d, vs = [v] ∧ Dq K H v d ∧ (∀ e ∈ itemsOf d, ∀ x, e = .str x → x.length ≤ 1000) ∧ ∀ H', Keep [] H H' → Q (.bl (isRegs d)) H'
/-- what stands as a rule in H -/
structure RuleAt (K : PySem.W.Frag) (H : Hp) (x : Addr) (ns : List Str) (ds : List PyData) : Prop where
  obj : ∃ dx t l, H x = some (.ins (He.ga K "Rule") dx (putF "_lines" (.ref l) (putF "_registers" (.ref t) []))) ∧ SqT K H t (ns.map V.str) ∧ ∃ xs, SqT K H l xs ∧ DqAll K H xs ds
def spRuleI (K : PySem.W.Frag) : Sp := fun vs H Q E => ∃ (x dx : Addr) (vr vl : V) (dr dl : PyData), vs = [.ref x, vr, vl] ∧ H x = some (.ins (He.ga K "Rule") dx []) ∧ Dq K H vr dr ∧ Dq K H vl dl ∧ (∀ e ∈ itemsOf dr, ∀ x, e = .str x → x.length ≤ 1000) ∧ (∀ d ∈ itemsOf dl, Lay 60 d) ∧
  (isRegs dr = false → ∀ d H', Keep [] H H' → H d = none → H' d = some (.xd [("value", vr)]) → E (.ref (He.ga K "BadRegisters")) (some d) H') ∧
  (isRegs dr = true → linesIn dl = false → ∀ d H', Keep [] H H' → H d = none → H' d = some (.xd [("value", vl)]) → E (.ref (He.ga K "BadLines")) (some d) H') ∧
  (isRegs dr = true → linesIn dl = true → ∀ i, firstBad (strsOf (itemsOf dr)) (itemsOf dl) = some i → ∀ d H', Keep [] H H' → H d = none → H' d = some (.xd [("position", .int i)]) → E (.ref (He.ga K "BadLine")) (some d) H') ∧
  (isRegs dr = true → linesIn dl = true → firstBad (strsOf (itemsOf dr)) (itemsOf dl) = none → ∀ H', Keep [x] H H' → RuleAt K H' x (strsOf (itemsOf dr)) (itemsOf dl) → Q .non H')
section
variable {K : PySem.W.Frag}
mutual
/-- data stands while an object changes -/
theorem Dq.kIns {x C dx : Addr} {fs : List (Str × V)} {H H' : Hp} (k : Keep [x] H H') (n : H x = some (.ins C dx fs)) : ∀ {v : V} {d : PyData}, Dq K H v d → Dq K H' v d
  | _, _, .non => .non
  | _, _, .bl b => .bl b
  | _, _, .int i => .int i
  | _, _, .str x => .str x
  | _, _, .lst s t => .lst (by
      rcases s with (s | ⟨o, s⟩) | s
      · exact .inl (.inl (k _ _ (fun z => by rw [List.mem_singleton.mp z, n] at s; cases s) s))
      · exact .inl (.inr ⟨o, k _ _ (fun z => by rw [List.mem_singleton.mp z, n] at s; cases s) s⟩)
      · exact .inr s) (DqAll.kIns k n t)
  | _, _, .tup s t => .tup (by
      rcases s with (s | ⟨o, s⟩) | s
      · exact .inl (.inl (k _ _ (fun z => by rw [List.mem_singleton.mp z, n] at s; cases s) s))
      · exact .inl (.inr ⟨o, k _ _ (fun z => by rw [List.mem_singleton.mp z, n] at s; cases s) s⟩)
      · exact .inr s) (DqAll.kIns k n t)
  | _, _, .dic s t => .dic (k _ _ (fun z => by rw [List.mem_singleton.mp z, n] at s; cases s) s) (DqAll.kIns k n t)
theorem DqAll.kIns {x C dx : Addr} {fs : List (Str × V)} {H H' : Hp} (k : Keep [x] H H') (n : H x = some (.ins C dx fs)) : ∀ {vs : List V} {ds : List PyData}, DqAll K H vs ds → DqAll K H' vs ds
  | _, _, .nil => .nil
  | _, _, .cons s t => .cons (Dq.kIns k n s) (DqAll.kIns k n t)
end
theorem sqL_ins {x C dx a : Addr} {fs : List (Str × V)} {xs : List V} {H H' : Hp} (k : Keep [x] H H') (n : H x = some (.ins C dx fs)) (s : SqL K H a xs) : SqL K H' a xs := by
  rcases s with (s | ⟨o, s⟩) | s
  · exact .inl (.inl (k _ _ (fun z => by rw [List.mem_singleton.mp z, n] at s; cases s) s))
  · exact .inl (.inr ⟨o, k _ _ (fun z => by rw [List.mem_singleton.mp z, n] at s; cases s) s⟩)
  · exact .inr s
theorem Soft.ins {x C dx : Addr} {fs : List (Str × V)} {H : Hp} (n : H x = some (.ins C dx fs)) : Soft [x] H := fun b z ys => by
  rw [List.mem_singleton.mp z, n]
  exact ⟨(fun e => by cases e), (fun o e => by cases e)⟩
theorem regs_seq {H : Hp} {v : V} {d : PyData} (h : isRegs d = true) (dv : Dq K H v d) : ∃ a, v = .ref a ∧ (SqL K H a ((strsOf (itemsOf d)).map V.str) ∨ SqT K H a ((strsOf (itemsOf d)).map V.str)) ∧ (strsOf (itemsOf d)).length ≤ 3 ∧ OkN (strsOf (itemsOf d)) := by
  have main : ∀ ds xs, regsD ds = true → DqAll K H xs ds → xs = (strsOf ds).map V.str ∧ (strsOf ds).length ≤ 3 ∧ OkN (strsOf ds) := by
    intro ds xs hd dx
    rw [regsD, Bool.and_eq_true, Bool.and_eq_true, decide_eq_true_eq] at hd
    have es := names_strs hd.2.1
    have dx' := dx
    rw [es] at dx'
    have l := congrArg List.length es
    rw [List.length_map] at l
    refine ⟨dqStrs dx', by omega, fun s hs => ?_⟩
    have m : PyData.str s ∈ ds := by
      rw [es]
      exact List.mem_map_of_mem hs
    have := List.all_eq_true.mp hd.2.1 _ m
    rw [isName, Bool.and_eq_true] at this
    exact word_ok this.1
  cases dv with
  | @lst a xs ds s t =>
    obtain ⟨e, l, o⟩ := main ds xs h t
    subst e
    exact ⟨a, rfl, .inl s, l, o⟩
  | @tup a xs ds s t =>
    obtain ⟨e, l, o⟩ := main ds xs h t
    subst e
    exact ⟨a, rfl, .inr s, l, o⟩
  | non => cases h
  | bl b => cases h
  | int b => cases h
  | str b => cases h
  | dic s t => cases h
theorem lines_seq {H : Hp} {v : V} {d : PyData} (h : linesIn d = true) (dv : Dq K H v d) : ∃ a xs, v = .ref a ∧ (SqL K H a xs ∨ SqT K H a xs) ∧ DqAll K H xs (itemsOf d) ∧ (itemsOf d).length ≤ 8 := by
  cases dv with
  | @lst a xs ds s t =>
    rw [linesIn, Bool.and_eq_true, decide_eq_true_eq, decide_eq_true_eq] at h
    exact ⟨a, xs, rfl, .inl s, t, h.2⟩
  | @tup a xs ds s t =>
    rw [linesIn, Bool.and_eq_true, decide_eq_true_eq, decide_eq_true_eq] at h
    exact ⟨a, xs, rfl, .inr s, t, h.2⟩
  | non => cases h
  | bl b => cases h
  | int b => cases h
  | str b => cases h
  | dic s t => cases h
end
end La

set_option Elab.async false
set_option linter.all false
set_option maxRecDepth 100000
set_option maxHeartbeats 4000000
namespace La
open PySem PySem.Spec PyProof.Rows L2 SM
theorem eqv_str (x : Str) (d : PyData) : PyData.eqv d (.str x) = PyData.eqv (.str x) d := by
  cases d with
  | str y =>
    rw [PyData.eqv, PyData.eqv]
    exact Bool.eq_iff_iff.mpr ⟨fun h => by rw [eq_of_beq h]; exact beq_self_eq_true _, fun h => by rw [eq_of_beq h]; exact beq_self_eq_true _⟩
  | _ => rw [PyData.eqv, PyData.eqv]
theorem keepD_len (l : Ln) : (stepsD l.steps :: keepD l.keep).length ≤ 2 ∧ 1 ≤ (stepsD l.steps :: keepD l.keep).length := by
  cases l.keep with
  | none => exact ⟨by show 1 ≤ 2; decide, by show 1 ≤ 1; decide⟩
  | some k => exact ⟨by show 2 ≤ 2; decide, by show 1 ≤ 2; decide⟩
/-! ### what a good line is -/
theorem eqv_str_inv {x : Str} {d : PyData} (h : PyData.eqv (.str x) d = true) : d = .str x := by
  cases d with
  | str y =>
    rw [PyData.eqv] at h
    rw [eq_of_beq h]
  | _ =>
    rw [PyData.eqv] at h
    cases h
theorem memS_inv {ns : List Str} {d : PyData} (h : memS ns d = true) : ∃ s ∈ ns, d = .str s := by
  obtain ⟨z, hz, e⟩ := List.any_eq_true.mp (show ((ns.map PyData.str).any fun z => PyData.eqv z d) = true from h)
  obtain ⟨s, hs, rfl⟩ := List.mem_map.mp hz
  exact ⟨s, hs, eqv_str_inv e⟩
theorem isStep_good {ns : List Str} {d : PyData} (h : isStep ns d = true) : ∃ s, d = stepD s ∧ GoodS ns s := by
  match d, h with
  | .tuple [t, e], h =>
    rw [isStep, Bool.and_eq_true, Bool.or_eq_true] at h
    obtain ⟨x, hx, rfl⟩ := memS_inv h.1
    have hx' : x = "here" ∨ x ∈ ns := List.mem_cons.mp hx
    rcases h.2 with h2 | h2
    · obtain ⟨y, hy, rfl⟩ := memS_inv h2
      refine ⟨(x, y), rfl, hx', ?_⟩
      rcases List.mem_cons.mp hy with e | e
      · exact .inr (.inl e)
      · exact .inr (.inr (.inr e))
    · obtain ⟨y, hy, rfl⟩ := memS_inv h2
      refine ⟨(x, y), rfl, hx', ?_⟩
      simp only [List.mem_cons, List.not_mem_nil, or_false] at hy
      rcases hy with e | e
      · exact .inl e
      · exact .inr (.inr (.inl e))
theorem isTest_good {ns : List Str} {d : PyData} (h : isTest ns d = true) : ∃ s, d = testD s ∧ GoodT ns s := by
  match d, h with
  | .tuple [t, e, b], h =>
    rw [isTest, Bool.and_eq_true, Bool.and_eq_true, Bool.or_eq_true] at h
    obtain ⟨h1, h2, h3⟩ := h
    obtain ⟨x, hx, rfl⟩ := memS_inv h1
    have hx' : x = "here" ∨ x = "new" ∨ x ∈ ns := by
      rcases List.mem_cons.mp hx with e | e
      · exact .inl e
      · exact .inr (List.mem_cons.mp e)
    cases b with
    | bool b =>
      rcases h2 with h2 | h2
      · obtain ⟨y, hy, rfl⟩ := memS_inv h2
        refine ⟨(x, y, b), rfl, hx', ?_⟩
        rcases List.mem_cons.mp hy with e | e
        · exact .inr (.inl e)
        · rcases List.mem_cons.mp e with e | e
          · exact .inl e
          · exact .inr (.inr (.inr e))
      · rw [eqv_str] at h2
        rw [eqv_str_inv h2]
        exact ⟨(x, "nothing", b), rfl, hx', .inr (.inr (.inl rfl))⟩
    | _ => cases h3
theorem all_good {α : Type} {p : PyData → Bool} {f : α → PyData} {G : α → Prop} (h : ∀ d, p d = true → ∃ s, d = f s ∧ G s) : ∀ {ds : List PyData}, ds.all p = true → ∃ l : List α, ds = l.map f ∧ ∀ s ∈ l, G s
  | [], _ => ⟨[], rfl, fun s z => by cases z⟩
  | d :: ds, e => by
    rw [List.all_cons, Bool.and_eq_true] at e
    obtain ⟨s, rfl, g⟩ := h d e.1
    obtain ⟨l, rfl, gs⟩ := all_good h e.2
    exact ⟨s :: l, rfl, fun z hz => by
      rcases List.mem_cons.mp hz with rfl | hz
      · exact g
      · exact gs z hz⟩
theorem isSteps_good {ns : List Str} {d : PyData} (h : isSteps ns d = true) : ∃ l, d = stepsD l ∧ l.length ≤ 4 ∧ ∀ s ∈ l, GoodS ns s := by
  match d, h with
  | .tuple ds, h =>
    rw [isSteps, Bool.and_eq_true, decide_eq_true_eq] at h
    obtain ⟨l, rfl, g⟩ := all_good (fun d => isStep_good) h.2
    rw [List.length_map] at h
    exact ⟨l, rfl, h.1, g⟩
theorem isLine_good {ns : List Str} {d : PyData} (h : isLine ns d = true) : ∃ l, d = lnD l ∧ GoodL ns l := by
  match d, h with
  | .tuple (t :: rest), h =>
    rw [isLine, Bool.and_eq_true, Bool.and_eq_true, Bool.or_eq_true, decide_eq_true_eq, decide_eq_true_eq] at h
    obtain ⟨h0, h1, h2⟩ := h
    have ht : ∃ l, t = testsD l ∧ l.length ≤ 4 ∧ ∀ s ∈ l, GoodT ns s := by
      match t, h1 with
      | .tuple ds, h1 =>
        rw [isTests, Bool.and_eq_true, decide_eq_true_eq] at h1
        obtain ⟨l, rfl, g⟩ := all_good (fun d => isTest_good) h1.2
        rw [List.length_map] at h1
        exact ⟨l, rfl, h1.1, g⟩
    obtain ⟨ts, rfl, t4, tg⟩ := ht
    match rest, h0, h2 with
    | [a], _, h2 =>
      rw [List.all_cons, Bool.and_eq_true] at h2
      obtain ⟨ss, rfl, s4, sg⟩ := isSteps_good h2.1
      exact ⟨⟨ts, ss, none⟩, rfl, ⟨t4, tg⟩, ⟨s4, sg⟩, fun k z => by cases z⟩
    | [a, b], _, h2 =>
      rw [List.all_cons, List.all_cons, Bool.and_eq_true, Bool.and_eq_true] at h2
      obtain ⟨ss, rfl, s4, sg⟩ := isSteps_good h2.1
      obtain ⟨ks, rfl, k4, kg⟩ := isSteps_good h2.2.1
      exact ⟨⟨ts, ss, some ks⟩, rfl, ⟨t4, tg⟩, ⟨s4, sg⟩, fun k z => by cases z; exact ⟨k4, kg⟩⟩
    | [], h0, _ => simp at h0
    | _ :: _ :: _ :: _, h0, _ => simp at h0
/-! ### a line by positions -/
/-- the words of a plan have positions -/
def HasPos (kvs : List (Key × V)) (ns : List Str) (f : Str → Nat) : Prop := ∀ x : Str, x = "here" ∨ x = "new" ∨ x = "nothing" ∨ x ∈ ns → valV kvs (.inr x) = some (.int (f x))
def spChoice (K : PySem.W.Frag) : Sp := fun vs H Q _ => ∃ (v : V) (pd : Addr) (kvs : List (Key × V)) (ns : List Str) (l : Ln) (f : Str → Nat), vs = [v, .ref pd] ∧ Dt K H v (lnD l) ∧ GoodL ns l ∧ H pd = some (.dK kvs) ∧ HasPos kvs ns f ∧ ∀ y H', Keep [] H H' → Dt K H' y (choX f l) → Q y H'
section
variable {P : Program} {w : World} {K : PySem.W.Frag} {mg : Str → Option Value} {base : Heap}
abbrev s_choice_of : Stmt := (top 29)
abbrev N_choice_of : List Str := ["line", "positions", "tests", "one", "other", "same", "lists", "target", "source", "steps"]
abbrev P_choice_of : List Str := ["line", "positions"]
theorem sc_choice_of : FnScope N_choice_of P_choice_of (defScope s_choice_of) := ⟨rfl, rfl, rfl, by decide +kernel, rfl, by decide +kernel, by decide +kernel⟩
theorem Dchoice_of (W : Cw fas fns K mg) : DefOk P w K mg base CX0 1 "choice_of" P_choice_of (spChoice K) := by
  refine DefOk.of W 28 25 (st := s_choice_of) rfl rfl sc_choice_of (fun _ _ _ _ _ _ us hl => match us, hl with | [_, _], _ => rfl) (fun vs H Q E h => ?_) (fun cdv A outer s H vs Q E hr h => ?_)
  · obtain ⟨v, pd, kvs, ns, l, f, rfl, _⟩ := h
    rfl
  · obtain ⟨v, pd, kvs, ns, l, f, rfl, dv, gl, hp, has, k⟩ := h
    refine ⟨_, PSs.nox (Evl.pss_cut (ps_set (i := 2) sc_choice_of.nd rfl (by first | exact Or.inl rfl | exact Or.inr rfl) (pe_callTy call_tuple_of (by rfl) (W.fre 79) (by decide +kernel) (pa_cons (pe_lc (own := [("one", 3), ("other", 4), ("same", 5)]) (g := gTup K 3 ((gCons (gName 3) (gCons (gName 4) (gCons (gName 5) gNil))))) (tt := tYes) (by rfl) sc_choice_of.nd (pi_tup (pe_ix ix_seq (pv 0) pe_int (fun _ _ => rfl))) (blkOk_by (own := [("one", 3), ("other", 4), ("same", 5)]) (N := N_choice_of) (sc := defScope s_choice_of) (by decide +kernel)) (fun _ _ _ _ _ => pg_tup (by rfl) (pgs_cons (pg_name (i := 3) sc_choice_of.nd rfl (Or.inl rfl)) (pgs_cons (pg_name (i := 4) sc_choice_of.nd rfl (Or.inl rfl)) (pgs_cons (pg_name (i := 5) sc_choice_of.nd rfl (Or.inl rfl)) pgs_nil)))) (fun _ _ _ _ _ => pts_nil) (fun _ _ _ _ _ => (pe_tup (pa_cons (pe_dget (hu_of hr) (pv 1) (pv 3) (fun _ _ => rfl)) (pa_cons (pe_dget (hu_of hr) (pv 1) (pv 4) (fun _ _ => rfl)) (pa_cons (pv 5) pa_nil)))))) pa_nil))) (Evl.pss_cut (ps_set (i := 6) sc_choice_of.nd rfl (by first | exact Or.inl rfl | exact Or.inr rfl) (pe_callTy call_tuple_of (by rfl) (W.fre 79) (by decide +kernel) (pa_cons (pe_lc (own := [("steps", 9)]) (g := gName 9) (tt := tYes) (te := SM.teTup K (tLc (iTup K _) _ tYes _ _)) (by rfl) sc_choice_of.nd (pi_tup (pe_slice sl_tup (pv 0) (po_some pe_int) po_none)) (blkOk_by (own := [("steps", 9)]) (N := N_choice_of) (sc := defScope s_choice_of) (by decide +kernel)) (fun _ _ _ _ _ => pg_name (i := 9) sc_choice_of.nd rfl (Or.inl rfl)) (fun _ _ _ _ _ => pts_nil) (fun _ _ _ _ _ => (pe_callTy call_tuple_of (by rfl) (W.fre 79) (by decide +kernel) (pa_cons (pe_lc (own := [("target", 7), ("source", 8)]) (g := gTup K 2 ((gCons (gName 7) (gCons (gName 8) gNil)))) (tt := tYes) (by rfl) sc_choice_of.nd (pi_tup (pv 9)) (SM.blkOk_nest (own := [("target", 7), ("source", 8)]) (N := N_choice_of) (by decide +kernel)) (fun _ _ _ _ _ => pg_tup (by rfl) (pgs_cons (pg_name (i := 7) sc_choice_of.nd rfl (Or.inl rfl)) (pgs_cons (pg_name (i := 8) sc_choice_of.nd rfl (Or.inl rfl)) pgs_nil))) (fun _ _ _ _ _ => pts_nil) (fun _ _ _ _ _ => (pe_tup (pa_cons (pe_dget (hu_of hr) (pv 1) (pv 7) (fun _ _ => rfl)) (pa_cons (pe_dget (hu_of hr) (pv 1) (pv 8) (fun _ _ => rfl)) pa_nil))))) pa_nil)))) pa_nil))) (pss_one (ps_ret (pe_tup (pa_cons (pv 2) (pa_cons (pv 6) pa_nil))))))), ?_⟩
    obtain ⟨a, xs, rfl, sq, dx⟩ := dv.items
    cases dx with
    | @cons x0 xr d0 dr h0 tr =>
      obtain ⟨ta, txs, rfl, st, dt⟩ := h0.items
      have lt : txs.length ≤ 100 := by
        rw [dt.length, List.length_map]
        exact Nat.le_trans gl.tests.1 (by decide)
      have lr : xr.length ≤ 2 ∧ 1 ≤ xr.length := by
        rw [tr.length]
        exact keepD_len l
      refine ⟨fun σ' H' => ∃ vt, σ' = [some (.ref a), some (.ref pd), some vt, none, none, none, none, none, none, none] ∧ Keep [] H H' ∧ Dt K H' vt (testsX f l.tests), ?_, ?_⟩
      · refine LtH.tupLc (K := K) (H0 := H) (xs := txs) (rs := l.tests.map (testX f)) lt (by rw [dt.length, List.length_map, List.length_map]) (fun H1 k1 Q1 q1 => ?_) (fun i x r H2 hx hrr k2 Q1 q1 => ?_) H Keep.refl _ fun v H' k1 d1 => ⟨v, rfl, k1, d1⟩
        · exact ⟨_, rfl, .inr (.inl ⟨a, _, 0, _, rfl, rfl, seqT_keep k1 Soft.nil sq, at0 .., q1 ta H1 Keep.refl (seqT_keep k1 Soft.nil st)⟩)⟩
        · obtain ⟨d, hd, dd⟩ := dt.get hx
          rw [List.getElem?_map] at hd
          cases e : l.tests[i]? with
          | none =>
            rw [e] at hd
            cases hd
          | some t =>
            rw [e] at hd
            cases hd
            rw [List.getElem?_map, e] at hrr
            cases hrr
            obtain ⟨p, us, rfl, sp, du⟩ := dd.items
            cases du with
            | @cons u0 r0 e0 f0 g0 du =>
              cases du with
              | @cons u1 r1 e1 f1 g1 du =>
                cases du with
                | @cons u2 r2 e2 f2 g2 du =>
                  cases du
                  cases g0
                  cases g1
                  obtain ⟨one, other, same⟩ := t
                  have gt := gl.tests.2 _ (List.mem_of_getElem? e)
                  have hv1 := has one (gt.1.elim .inl fun z => z.elim (fun z => .inr (.inl z)) fun z => .inr (.inr (.inr z)))
                  have hv2 := has other (gt.2.elim (fun z => .inr (.inl z)) fun z => z.elim .inl fun z => z.elim (fun z => .inr (.inr (.inl z))) fun z => .inr (.inr (.inr z)))
                  refine ⟨p, _, rfl, seqT_keep k2 Soft.nil sp, rfl, _, _, rfl, _, _, rfl, _, _, rfl, rfl, rfl, ?_⟩
                  exact LtH.disp (LtL.cons (LtH.dget (H0 := H) rfl rfl hp hv1) (LtL.cons (LtH.dget rfl rfl hp hv2) (LtL.cons (LtH.var rfl (by cases g2; exact .bl _)) LtL.nil))) (Nat.le_of_ble_eq_true rfl) H2 k2 Q1 q1
      rintro σ' H1 ⟨vt, rfl, k1, dvt⟩
      refine ⟨fun σ' H' => ∃ vl, σ' = [some (.ref a), some (.ref pd), some vt, none, none, none, some vl, none, none, none] ∧ Keep [] H1 H' ∧ Dt K H' vl (.tuple ((listsOf l).map (stepsX f))), ?_, ?_⟩
      · rw [listsOf_D] at tr
        refine LtH.tupLc (K := K) (H0 := H1) (xs := xr) (rs := (listsOf l).map (stepsX f)) (by omega) (by rw [tr.length, List.length_map, List.length_map]) (fun H2 k2 Q1 q1 => ?_) (fun i x r H2 hx hrr k2 Q1 q1 => ?_) H1 Keep.refl _ fun v H' k1 d1 => ⟨v, rfl, k1, d1⟩
        · refine ⟨_, rfl, 1, rfl, a, _, rfl, seqT_keep (k1.trans k2) Soft.nil sq, ?_, fun q nq => ?_⟩
          · intro z
            have : HT.sIx (V.ref ta :: xr).length 0 (some 1) = 0 := z.1
            rw [show HT.sIx (V.ref ta :: xr).length 0 (some 1) = min 1 (xr.length + 1) from rfl] at this
            omega
          · rw [cut1]
            exact q1 q _ (Keep.new nq) (SqT.of upd_same)
        · obtain ⟨d, hd, dd⟩ := tr.get hx
          have hp1 := k1.to hp
          rw [List.getElem?_map] at hd hrr
          cases es : (listsOf l)[i]? with
          | none =>
            rw [es] at hd
            cases hd
          | some ss =>
          rw [es] at hd hrr
          cases hd
          cases hrr
          have hss : ss.length ≤ 4 ∧ ∀ s ∈ ss, GoodS ns s := by
            have hm := List.mem_of_getElem? es
            rcases List.mem_cons.mp hm with rfl | hm
            · exact gl.steps
            · cases hk : l.keep with
              | none =>
                rw [hk] at hm
                cases hm
              | some kk =>
                rw [hk] at hm
                rw [List.mem_singleton.mp hm]
                exact gl.keep kk hk
          obtain ⟨s4, sg⟩ := hss
          obtain ⟨p, us, rfl, sp, du⟩ := dd.items
          refine ⟨rfl, ?_⟩
          refine LtH.tupLc (K := K) (H0 := H2) (xs := us) (rs := ss.map (stepX f)) (by rw [du.length, List.length_map]; omega) (by rw [du.length, List.length_map, List.length_map]) (fun H3 k3 Q2 q2 => ⟨_, rfl, q2 p H3 Keep.refl (seqT_keep (k1.trans (k2.trans k3)) Soft.nil sp)⟩) (fun j y r2 H3 hy hr2 k3 Q2 q2 => ?_) H2 Keep.refl Q1 q1
          obtain ⟨d, hd, de⟩ := du.get hy
          rw [List.getElem?_map] at hd
          cases e : ss[j]? with
          | none =>
            rw [e] at hd
            cases hd
          | some t =>
            rw [e] at hd
            cases hd
            rw [List.getElem?_map, e] at hr2
            cases hr2
            obtain ⟨p2, us2, rfl, sp2, du2⟩ := de.items
            cases du2 with
            | @cons u0 r0 e0 f0 g0 du2 =>
              cases du2 with
              | @cons u1 r1 e1 f1 g1 du2 =>
                cases du2
                cases g0
                cases g1
                obtain ⟨tg, src⟩ := t
                have gt := sg _ (List.mem_of_getElem? e)
                have hv1 := has tg (gt.1.elim .inl fun z => .inr (.inr (.inr z)))
                have hv2 := has src (gt.2.elim (fun z => .inr (.inl z)) fun z => z.elim .inl fun z => z.elim (fun z => .inr (.inr (.inl z))) fun z => .inr (.inr (.inr z)))
                refine ⟨p2, _, rfl, seqT_keep (k1.trans (k2.trans k3)) Soft.nil sp2, rfl, _, _, rfl, _, _, rfl, rfl, rfl, ?_⟩
                exact LtH.disp (LtL.cons (LtH.dget (H0 := H1) rfl rfl hp1 hv1) (LtL.cons (LtH.dget rfl rfl hp1 hv2) LtL.nil)) (Nat.le_of_ble_eq_true rfl) H3 (k2.trans k3) Q2 q2
      rintro σ' H2 ⟨vl, rfl, k2, dvl⟩
      exact ⟨_, rfl, _, rfl, (by show 2 ≤ sizeLine; decide), fun t ht => k _ _ (k1.trans (k2.trans (Keep.new ht))) (.tup (SqT.of upd_same) (.cons (dvt.k0 (k2.trans (Keep.new ht))) (.cons (dvl.k0 (Keep.new ht)) .nil)))⟩
end
end La
set_option Elab.async false
set_option linter.all false
set_option maxRecDepth 100000
set_option maxHeartbeats 4000000
namespace La
open PySem PySem.Spec PyProof.Rows L2 SM
/-- the words that a plan has positions for -/
def planWordsOf (ns : List Str) : List Str := ((["here"] : List Str) ++ ns) ++ (["new", "nothing"] : List Str)
def posOf (ns : List Str) (x : Str) : Nat := (planWordsOf ns).idxOf x
def spotsX (ns ps : List Str) : PyData := .tuple (((["here"] : List Str) ++ ps).map fun p => .int (posOf ns p))
def elderV (ns : List Str) : V := if ("elder" : Str) ∈ planWordsOf ns then .int (posOf ns "elder") else .non
def planFs (v1 v2 v3 : V) : List (Str × V) := [("spots", v1), ("elder", v2), ("choices", v3)]
theorem idx_of {ws : List Str} (nd : ws.Nodup) {j : Nat} {z : Str} (h : ws[j]? = some z) : ws.idxOf z = j := by
  obtain ⟨hj, e⟩ := List.getElem?_eq_some_iff.mp h
  rw [← e]
  exact List.Nodup.idxOf_getElem nd j hj
def spPlanI (K : PySem.W.Frag) : Sp := fun vs H Q _ => ∃ (x dx r pl ln : Addr) (ns ps : List Str) (xs : List V) (ls : List Ln), vs = [.ref x, .ref r, .ref pl, .ref ln] ∧ H x = some (.ins (He.ga K "Plan") dx []) ∧ SqT K H r (ns.map V.str) ∧ ns.length ≤ 3 ∧
  SqT K H pl (ps.map V.str) ∧ ps.length ≤ 3 ∧ (∀ p ∈ ps, p ∈ ns) ∧ SqT K H ln xs ∧ DtAll K H xs (ls.map lnD) ∧ ls.length ≤ 8 ∧ (∀ l ∈ ls, GoodL ns l) ∧ (planWordsOf ns).Nodup ∧ ∀ H' v1 v3, Keep [x] H H' → H' x = some (.ins (He.ga K "Plan") dx (planFs v1 (elderV ns) v3)) → Dt K H' v1 (spotsX ns ps) → Dt K H' v3 (.tuple (ls.map (choX (posOf ns)))) → Q .non H'
section
variable {P : Program} {w : World} {K : PySem.W.Frag} {mg : Str → Option Value} {base : Heap}
abbrev s_Plan___init__ : Stmt := (inClass (top 28) 0)
abbrev N_Plan___init__ : List Str := ["self", "registers", "places", "lines", "names", "positions", "position", "name", "line"]
abbrev P_Plan___init__ : List Str := ["self", "registers", "places", "lines"]
theorem sc_Plan___init__ : FnScope N_Plan___init__ P_Plan___init__ (defScope s_Plan___init__) := ⟨rfl, rfl, rfl, by decide +kernel, rfl, by decide +kernel, by decide +kernel⟩
theorem I_Plan (W : Cw fas fns K mg) (Dchoice_of : DefOk P w K mg base CX0 1 "choice_of" P_choice_of (spChoice K)) :
    ∃ fd, FnOk P w K mg base CX0 2 (He.ma K (He.ga K "Plan") "__init__") fd ["self", "registers", "places", "lines"] (spPlanI K) ∧ Binds K fd ["self", "registers", "places", "lines"] [] := by
  obtain ⟨fd, F⟩ := W.says.def_ 27 (d := d_Plan___init__) rfl
  refine ⟨fd, FunD.ok F sc_Plan___init__ (fun vs H Q E h => ?_) (fun cdv A outer s H vs Q E hr h => ?_), FunD.bindsN F (fun _ _ _ _ _ _ us hl => match us, hl with | [_, _, _, _], _ => rfl)⟩
  · obtain ⟨x, dx, r, pl, ln, ns, ps, xs, ls, rfl, _⟩ := h
    rfl
  · obtain ⟨x, dx, r, pl, ln, ns, ps, xs, ls, rfl, hx, hr', r3, hp, p3, pin, hl, dl, l8, gl, nd, k⟩ := h
    refine ⟨_, PSs.nox (Evl.pss_cut (ps_set (i := 4) sc_Plan___init__.nd rfl (by first | exact Or.inl rfl | exact Or.inr rfl) (pe_op op_catA (pe_op op_catA (pe_tup (pa_cons pe_str pa_nil)) (pv 1)) (pe_tup (pa_cons pe_str (pa_cons pe_str pa_nil))))) (Evl.pss_cut (ps_set (i := 5) sc_Plan___init__.nd rfl (by first | exact Or.inl rfl | exact Or.inr rfl) (pe_dc (own := [("position", 6), ("name", 7)]) (g := gTup K 2 ((gCons (gName 6) (gCons (gName 7) gNil)))) (tt := tYes) (by rfl) sc_Plan___init__.nd (SM.pi_enumA (by rfl) (W.fre 67) (pa_cons (pv 4) pa_nil)) (blkOk_by (own := [("position", 6), ("name", 7)]) (N := N_Plan___init__) (sc := defScope s_Plan___init__) (by decide +kernel)) (fun _ _ _ _ _ => pg_tup (by rfl) (pgs_cons (pg_name (i := 6) sc_Plan___init__.nd rfl (Or.inl rfl)) (pgs_cons (pg_name (i := 7) sc_Plan___init__.nd rfl (Or.inl rfl)) pgs_nil))) (fun _ _ _ _ _ => pts_nil) (fun _ _ _ _ _ => (pv 7)) (fun _ _ _ _ _ => (pv 6)))) (Evl.pss_cut (ps_fld (pv 0) (pe_callTy call_tuple_of (by rfl) (W.fre 79) (by decide +kernel) (pa_cons (pe_lc (own := [("name", 7)]) (g := gName 7) (tt := tYes) (by rfl) sc_Plan___init__.nd (pi_tup (pe_op op_catA (pe_tup (pa_cons pe_str pa_nil)) (pv 2))) (blkOk_by (own := [("name", 7)]) (N := N_Plan___init__) (sc := defScope s_Plan___init__) (by decide +kernel)) (fun _ _ _ _ _ => pg_name (i := 7) sc_Plan___init__.nd rfl (Or.inl rfl)) (fun _ _ _ _ _ => pts_nil) (fun _ _ _ _ _ => (pe_dget (hu_of hr) (pv 5) (pv 7) (fun _ _ => rfl)))) pa_nil)) rfl) (Evl.pss_cut (ps_fld (pv 0) (pe_dget1 (hu_of hr) (pv 5) pe_str ⟨by rfl, by rfl, by rfl, by rfl⟩) rfl) (pss_one (ps_fld (pv 0) (pe_callTy call_tuple_of (by rfl) (W.fre 79) (by decide +kernel) (pa_cons (pe_lc (own := [("line", 8)]) (g := gName 8) (tt := tYes) (te := tCall _ [] E0 _) (by rfl) sc_Plan___init__.nd (pi_tup (pv 3)) (blkOk_by (own := [("line", 8)]) (N := N_Plan___init__) (sc := defScope s_Plan___init__) (by decide +kernel)) (fun _ _ _ _ _ => pg_name (i := 8) sc_Plan___init__.nd rfl (Or.inl rfl)) (fun _ _ _ _ _ => pts_nil) (fun _ _ _ _ _ => (SM.pe_callD Dchoice_of (hr.mono (by decide)) pass0 (pa_cons (pv 8) (pa_cons (pv 5) pa_nil))))) pa_nil)) rfl)))))), ?_⟩
    have CP : Cls K (He.ga K "Plan") := He.cls_ok (W.fact 92)
    have N1 : NoAttr K (He.ga K "Plan") "spots" := He.noat_ok (W.fact 93)
    have N2 : NoAttr K (He.ga K "Plan") "elder" := He.noat_ok (W.fact 94)
    have N3 : NoAttr K (He.ga K "Plan") "choices" := He.noat_ok (W.fact 95)
    -- names
    refine ⟨fun σ' H' => ∃ nm, σ' = [some (.ref x), some (.ref r), some (.ref pl), some (.ref ln), some (.ref nm), none, none, none, none] ∧ Keep [] H H' ∧ SqT K H' nm ((planWordsOf ns).map V.str), ?_, ?_⟩
    · refine ⟨(by show 1 ≤ sizeLine; decide), fun q1 n1 => ⟨_, rfl, q1, r, [.str "here"], ns.map V.str, rfl, rfl, SqT.of upd_same, seqT_keep (Keep.new (m := []) n1) Soft.nil hr', ?_, (fun e => by cases e), fun _ e => ?_, fun _ _ q2 n2 => ?_⟩⟩
      · rw [List.length_map]
        exact Nat.le_trans (show 1 + ns.length ≤ 100 by omega) (by decide)
      · have e0 : ns = [] := List.map_eq_nil_iff.mp e
        subst e0
        refine ⟨(by show 2 ≤ sizeLine; decide), fun q3 n3 => ⟨q1, q3, [.str "here"], _, rfl, rfl, SqT.of ((Keep.new (m := []) n3).to upd_same), SqT.of upd_same, (by show 1 + 2 ≤ sizeLine; decide), (fun e => by cases e), (fun _ e => by cases e), fun _ _ q4 n4 => ?_⟩⟩
        exact ⟨q4, rfl, (Keep.new n1).trans ((Keep.new n3).trans (Keep.new n4)), SqT.of upd_same⟩
      · refine ⟨(by show 2 ≤ sizeLine; decide), fun q3 n3 => ⟨q2, q3, _, _, rfl, rfl, SqT.of ((Keep.new (m := []) n3).to upd_same), SqT.of upd_same, ?_, (fun e => by cases e), (fun _ e => by cases e), fun _ _ q4 n4 => ?_⟩⟩
        · rw [List.length_append, List.length_map]
          exact Nat.le_trans (show 1 + ns.length + 2 ≤ 100 by omega) (by decide)
        · refine ⟨q4, rfl, (Keep.new n1).trans ((Keep.new n2).trans ((Keep.new n3).trans (Keep.new n4))), SqT.of ?_⟩
          rw [upd_same, planWordsOf, List.map_append, List.map_append]
          rfl
    rintro σ' H1 ⟨nm, rfl, k1, hn⟩
    have lenW : (planWordsOf ns).length ≤ 6 := by
      rw [planWordsOf, List.length_append, List.length_append]
      show 1 + ns.length + 2 ≤ 6
      omega
    -- positions
    refine ⟨fun σ' H' => ∃ d kvs, σ' = [some (.ref x), some (.ref r), some (.ref pl), some (.ref ln), some (.ref nm), some (.ref d), none, none, none] ∧ Keep [] H1 H' ∧ H' d = some (.dK kvs) ∧ (∀ (j : Nat) z, (planWordsOf ns)[j]? = some z → valV kvs (.inr z) = some (.int (j : Int))) ∧ (∀ z, z ∉ planWordsOf ns → valV kvs (.inr z) = none), ?_, ?_⟩
    · refine ⟨_, rfl, nm, _, rfl, .inr ⟨hn, fun D hD => ?_⟩⟩
      refine dc_enumT (xs := (planWordsOf ns).map V.str) (fun i H' => ∃ kvs, Keep [] H1 H' ∧ H' D = some (.dK kvs) ∧ kvs.length ≤ i ∧ (∀ j, j < i → ∀ z, (planWordsOf ns)[j]? = some z → valV kvs (.inr z) = some (.int (j : Int))) ∧ ∀ z, z ∉ planWordsOf ns → valV kvs (.inr z) = none) ⟨[], Keep.new hD, upd_same, Nat.le_refl _, (fun j z => absurd z (Nat.not_lt_zero _)), fun z _ => rfl⟩ ?_ ?_ ?_
      · rintro i H' _ ⟨kvs, kk, _⟩
        exact seqT_keep kk Soft.nil hn
      · rintro i y T H' hy ⟨kvs, kk, eD, lk, fine, off⟩ hT
        rw [List.getElem?_map] at hy
        cases e : (planWordsOf ns)[i]? with
        | none =>
          rw [e] at hy
          cases hy
        | some z =>
          rw [e] at hy
          cases hy
          have hi : i < (planWordsOf ns).length := (List.getElem?_eq_some_iff.mp e).1
          have kT : Keep [] H' (upd H' T (.tup [.int (i : Int), .str z])) := Keep.new hT
          refine ⟨T, _, rfl, SqT.of upd_same, rfl, _, _, rfl, _, _, rfl, rfl, rfl, ?_⟩
          refine ⟨_, rfl, _, rfl, kvs, .inr z, rfl, kT.to eD, ?_, putK kvs (.inr z) (.int (i : Int)), Keep.own (kk.trans kT) hD, upd_same, ?_, fun j hj z' hz' => ?_, fun z' hz' => ?_⟩
          · exact Nat.lt_of_le_of_lt lk (Nat.lt_of_lt_of_le (show i < 7 by omega) (by decide))
          · exact Nat.le_trans (length_putK _ _ _) (by omega)
          · rw [valV_put]
            by_cases ez : (Sum.inr z' : Key) = .inr z
            · rw [if_pos ez]
              cases ez
              rw [← idx_of nd hz', idx_of nd e]
            · rw [if_neg ez]
              rcases Nat.lt_or_ge j i with h | h
              · exact fine j h z' hz'
              · have ej : j = i := by omega
                rw [ej, e] at hz'
                cases hz'
                exact absurd rfl ez
          · rw [valV_put, if_neg (fun ez => by
              cases ez
              exact hz' (List.mem_of_getElem? e))]
            exact off z' hz'
      · rintro H' ⟨kvs, kk, eD, lk, fine, off⟩
        rw [List.length_map] at fine
        exact ⟨D, kvs, rfl, kk, eD, fun j z hz => fine j (List.getElem?_eq_some_iff.mp hz).1 z hz, off⟩
    rintro σ' H2 ⟨d, kvs, rfl, k2, ed, atJ, off⟩
    have has : HasPos kvs ns (posOf ns) := by
      intro z hz
      have m : z ∈ planWordsOf ns := by
        unfold planWordsOf
        rcases hz with h | h | h | h
        · rw [h]; simp
        · rw [h]; simp
        · rw [h]; simp
        · exact List.mem_append_left _ (List.mem_append_right _ h)
      obtain ⟨j, hj, e⟩ := List.getElem_of_mem m
      have ej : (planWordsOf ns)[j]? = some z := by simp [hj, e]
      rw [atJ j z ej, posOf, idx_of nd ej]
    have k12 := k1.trans k2
    have hx2 := k12.to hx
    -- spots
    let M : List (Str × V) → L2.St → Hp → Prop := fun fs σ' H' => σ' = [some (.ref x), some (.ref r), some (.ref pl), some (.ref ln), some (.ref nm), some (.ref d), none, none, none] ∧ Keep [x] H2 H' ∧ H' x = some (.ins (He.ga K "Plan") dx fs)
    refine ⟨fun σ' H' => ∃ v1, M [("spots", v1)] σ' H' ∧ Dt K H' v1 (spotsX ns ps), ?_, ?_⟩
    · refine LtH.tupLc (K := K) (H0 := H2) (xs := ((["here"] : List Str) ++ ps).map V.str) (rs := (((["here"] : List Str) ++ ps).map fun p => .int (posOf ns p))) (by rw [List.length_map, List.length_append]; show 1 + ps.length ≤ 100; omega) (by rw [List.length_map, List.length_map]) (fun H3 k3 Q1 q1 => ?_) (fun i y r H3 hy hrr k3 Q1 q1 => ?_) H2 Keep.refl _ fun v H3 k3 dv => ?_
      · refine ⟨(by show 1 ≤ sizeLine; decide), fun q1' n1 => ⟨_, rfl, q1', pl, [.str "here"], ps.map V.str, rfl, rfl, SqT.of upd_same, seqT_keep ((k12.trans k3).trans (Keep.new n1)) Soft.nil hp, ?_, (fun e => by cases e), fun _ e => ?_, fun _ _ q2 n2 => ?_⟩⟩
        · rw [List.length_map]
          exact Nat.le_trans (show 1 + ps.length ≤ 100 by omega) (by decide)
        · have e0 : ps = [] := List.map_eq_nil_iff.mp e
          subst e0
          exact q1 q1' _ (Keep.new n1) (SqT.of upd_same)
        · exact q1 q2 _ ((Keep.new n1).trans (Keep.new n2)) (SqT.of (by rw [upd_same, List.map_append]; rfl))
      · rw [List.getElem?_map] at hy
        cases e : ((["here"] : List Str) ++ ps)[i]? with
        | none =>
          rw [e] at hy
          cases hy
        | some z =>
          rw [e] at hy
          cases hy
          have hz : z = "here" ∨ z ∈ ps := List.mem_cons.mp (List.mem_of_getElem? e)
          have hv := has z (hz.elim .inl fun m => .inr (.inr (.inr (pin z m))))
          rw [List.getElem?_map, e] at hrr
          cases hrr
          exact ⟨rfl, LtH.dget (H0 := H2) rfl rfl ed hv H3 k3 Q1 q1⟩
      · have hx3 := k3.to hx2
        exact ⟨_, rfl, x, _, dx, _, rfl, hx3, CP, N1, (by show 0 < 1000; decide), v, ⟨rfl, (Keep.of_nil k3).trans (Keep.at_ (by simp)), upd_same⟩, dv.keep (Keep.at_ (m := [x]) (by simp)) (Soft.ins hx3)⟩
    rintro σ' H3 ⟨v1, ⟨rfl, k3, hx3⟩, d1⟩
    have dne : d ≠ x := fun z => by
      rw [z, hx2] at ed
      cases ed
    have ed3 := k3 _ _ (by simpa using dne) ed
    -- elder
    refine ⟨fun σ' H' => M [("spots", v1), ("elder", elderV ns)] σ' H' ∧ Dt K H' v1 (spotsX ns ps), ?_, ?_⟩
    · have ee : (valV kvs (.inr "elder")).getD .non = elderV ns := by
        unfold elderV
        split
        · rename_i m
          obtain ⟨j, hj, e⟩ := List.getElem_of_mem m
          have ej : (planWordsOf ns)[j]? = some "elder" := by simp [hj, e]
          rw [atJ j _ ej, posOf, idx_of nd ej]
          rfl
        · rename_i m
          rw [off _ m]
          rfl
      refine ⟨_, rfl, d, rfl, .inl ⟨kvs, .inl ed3⟩, valV kvs (.inr "elder"), DGet.k (k := .inr "elder") ed3, _, rfl, x, _, dx, _, rfl, hx3, CP, N2, (by show 1 < 1000; decide), ?_⟩
      rw [ee]
      have kx : Keep [x] H3 (upd H3 x (.ins (He.ga K "Plan") dx [("spots", v1), ("elder", elderV ns)])) := Keep.at_ (by simp)
      exact ⟨⟨rfl, k3.trans kx, upd_same⟩, d1.keep kx (Soft.ins hx3)⟩
    rintro σ' H4 ⟨⟨rfl, k4, hx4⟩, d4⟩
    have ed4 := k4 _ _ (by simpa using dne) ed
    have sx := Soft.ins hx2
    have hl4 := seqT_keep k4 sx (seqT_keep k12 Soft.nil hl)
    have dl4 := (dl.k0 k12).keep k4 sx
    -- choices
    refine LtH.tupLc (K := K) (H0 := H4) (xs := xs) (rs := ls.map (choX (posOf ns))) (by rw [dl.length, List.length_map]; omega) (by rw [dl.length, List.length_map, List.length_map]) (fun H5 k5 Q1 q1 => ⟨_, rfl, q1 ln H5 Keep.refl (seqT_keep k5 Soft.nil hl4)⟩) (fun i y r H5 hy hrr k5 Q1 q1 => ?_) H4 Keep.refl _ fun v H5 k5 dv => ?_
    · obtain ⟨dd, hd, dy⟩ := dl4.get hy
      rw [List.getElem?_map] at hd
      cases e : ls[i]? with
      | none =>
        rw [e] at hd
        cases hd
      | some l =>
        rw [e] at hd
        cases hd
        rw [List.getElem?_map, e] at hrr
        cases hrr
        exact ⟨rfl, _, rfl, _, rfl, y, d, kvs, ns, l, posOf ns, rfl, dy.k0 k5, gl l (List.mem_of_getElem? e), k5.to ed4, has, fun z H' kz dz => q1 z H' kz dz⟩
    · have hx5 := k5.to hx4
      have kx : Keep [x] H5 (upd H5 x (.ins (He.ga K "Plan") dx (planFs v1 (elderV ns) v))) := Keep.at_ (by simp)
      exact ⟨_, rfl, x, _, dx, _, rfl, hx5, CP, N3, (by show 2 < 1000; decide), k _ v1 v ((Keep.of_nil k12).trans (k4.trans ((Keep.of_nil k5).trans kx))) upd_same ((d4.k0 k5).keep kx (Soft.ins hx5)) (dv.keep kx (Soft.ins hx5))⟩
end
end La
set_option Elab.async false
set_option linter.all false
set_option maxRecDepth 100000
set_option maxHeartbeats 4000000
namespace La
open PySem PySem.Spec PyProof.Rows L2 SM
mutual
/-- tuples and flat things alone -/
def onlyT : PyData → Bool
  | .list _ => false
  | .dict _ => false
  | .tuple ds => onlyTs ds
  | _ => true
def onlyTs : List PyData → Bool
  | [] => true
  | d :: ds => onlyT d && onlyTs ds
end
mutual
theorem Dq_dt {K : PySem.W.Frag} {H : Hp} : ∀ {v : V} {d : PyData}, Dq K H v d → onlyT d = true → Dt K H v d
  | _, _, .non, _ => .non
  | _, _, .bl b, _ => .bl b
  | _, _, .int i, _ => .int i
  | _, _, .str x, _ => .str x
  | _, _, .lst s t, h => by rw [onlyT] at h; cases h
  | _, _, .tup s t, h => .tup s (DqAll_dt t (by rw [onlyT] at h; exact h))
  | _, _, .dic s t, h => by rw [onlyT] at h; cases h
theorem DqAll_dt {K : PySem.W.Frag} {H : Hp} : ∀ {vs : List V} {ds : List PyData}, DqAll K H vs ds → onlyTs ds = true → DtAll K H vs ds
  | _, _, .nil, _ => .nil
  | _, _, .cons s t, h => by
    rw [onlyTs, Bool.and_eq_true] at h
    exact .cons (Dq_dt s h.1) (DqAll_dt t h.2)
end
theorem onlyTs_all {α : Type} {f : α → PyData} (h : ∀ a, onlyT (f a) = true) : ∀ l : List α, onlyTs (l.map f) = true
  | [] => by rw [List.map_nil, onlyTs]
  | a :: l => by rw [List.map_cons, onlyTs, h a, onlyTs_all h l]; rfl
theorem onlyT_step (s : Str × Str) : onlyT (stepD s) = true := by simp only [stepD, onlyT, onlyTs, Bool.and_self]
theorem onlyT_test (s : Str × Str × Bool) : onlyT (testD s) = true := by simp only [testD, onlyT, onlyTs, Bool.and_self]
theorem onlyT_line (l : Ln) : onlyT (lnD l) = true := by
  have a : onlyT (testsD l.tests) = true := by rw [testsD, onlyT]; exact onlyTs_all onlyT_test _
  have b : ∀ k, onlyT (stepsD k) = true := fun k => by rw [stepsD, onlyT]; exact onlyTs_all onlyT_step _
  rw [lnD, onlyT, onlyTs, onlyTs, a, b]
  cases l.keep with
  | none => rw [keepD, onlyTs]; rfl
  | some k => rw [keepD, onlyTs, onlyTs, b]; rfl
/-- what stands as a rule in H -/
def ruleFs (t l y : Addr) : List (Str × V) := [("_registers", .ref t), ("_lines", .ref l), ("plan", .ref y)]
def RuleIs (K : PySem.W.Frag) (H : Hp) (x : Addr) (ns : List Str) (ls : List Ln) : Prop := ∃ (dx t l y : Addr) (xs : List V), H x = some (.ins (He.ga K "Rule") dx (ruleFs t l y)) ∧ SqT K H t (ns.map V.str) ∧ SqT K H l xs ∧ DtAll K H xs (ls.map lnD)
theorem RuleIs.keep {K : PySem.W.Frag} {m : List Addr} {H H' : Hp} {x : Addr} {ns : List Str} {ls : List Ln} (h : RuleIs K H x ns ls) (k : Keep m H H') (n : x ∉ m) (s : Soft m H) : RuleIs K H' x ns ls := by
  obtain ⟨dx, t, l, y, xs, h1, h5, h6, h7⟩ := h
  exact ⟨dx, t, l, y, xs, k _ _ n h1, seqT_keep k s h5, seqT_keep k s h6, h7.keep k s⟩
def isPlace (s : Str) : Bool := (["beside", "elder"] : List Str).contains s
/-- a rule with its plan -/
def RuleFull (K : PySem.W.Frag) (H : Hp) (x : Addr) (ns : List Str) (ls : List Ln) : Prop := ∃ (dx t l y dy : Addr) (xs : List V) (v1 v3 : V), H x = some (.ins (He.ga K "Rule") dx (ruleFs t l y)) ∧ SqT K H t (ns.map V.str) ∧ SqT K H l xs ∧ DtAll K H xs (ls.map lnD) ∧
  H y = some (.ins (He.ga K "Plan") dy (planFs v1 (elderV ns) v3)) ∧ Dt K H v1 (spotsX ns (ns.filter isPlace)) ∧ Dt K H v3 (.tuple (ls.map (choX (posOf ns))))
theorem RuleFull.is {K : PySem.W.Frag} {H : Hp} {x : Addr} {ns : List Str} {ls : List Ln} (h : RuleFull K H x ns ls) : RuleIs K H x ns ls := by
  obtain ⟨dx, t, l, y, dy, xs, v1, v3, h1, h2, h3, h4, _⟩ := h
  exact ⟨dx, t, l, y, xs, h1, h2, h3, h4⟩
theorem RuleFull.keep {K : PySem.W.Frag} {m : List Addr} {H H' : Hp} {x : Addr} {ns : List Str} {ls : List Ln} (h : RuleFull K H x ns ls) (k : Keep m H H') (n : ∀ b ∈ m, ∃ us, H b = some (.lst us)) : RuleFull K H' x ns ls := by
  obtain ⟨dx, t, l, y, dy, xs, v1, v3, h1, h2, h3, h4, h5, h6, h7⟩ := h
  have s : Soft m H := fun b hb us => by
    obtain ⟨u, e⟩ := n b hb
    rw [e]
    exact ⟨(fun z => by cases z), (fun o z => by cases z)⟩
  have ni : ∀ {b C d : Addr} {fs : List (Str × V)}, H b = some (.ins C d fs) → b ∉ m := fun e hb => by
    obtain ⟨u, e'⟩ := n _ hb
    rw [e] at e'
    cases e'
  exact ⟨dx, t, l, y, dy, xs, v1, v3, k _ _ (ni h1) h1, seqT_keep k s h2, seqT_keep k s h3, h4.keep k s, k _ _ (ni h5) h5, h6.keep k s, h7.keep k s⟩
theorem fold_ded : ∀ (xs acc : List Str), (xs.foldl addS acc).length ≤ acc.length + xs.length ∧ ((xs.foldl addS acc).length = acc.length + xs.length → (∀ x ∈ xs, x ∉ acc) ∧ xs.Nodup)
  | [], acc => ⟨Nat.le_refl _, fun _ => ⟨(fun x z => by cases z), List.nodup_nil⟩⟩
  | x :: xs, acc => by
    rw [List.foldl_cons]
    by_cases hx : acc.any (· == x) = true
    · have e : addS acc x = acc := by unfold addS; rw [if_pos hx]
      rw [e, List.length_cons]
      have := (fold_ded xs acc).1
      exact ⟨by omega, fun q => by omega⟩
    · have e : addS acc x = acc ++ [x] := by unfold addS; rw [if_neg hx]
      rw [e, List.length_cons]
      obtain ⟨h1, h2⟩ := fold_ded xs (acc ++ [x])
      rw [List.length_append, List.length_singleton] at h1 h2
      refine ⟨by omega, fun q => ?_⟩
      obtain ⟨h3, h4⟩ := h2 (by omega)
      have hx' : x ∉ acc := fun m => hx (List.any_eq_true.mpr ⟨x, m, beq_self_eq_true _⟩)
      refine ⟨fun y hy => ?_, List.nodup_cons.mpr ⟨fun m => h3 x m (List.mem_append_right _ (List.mem_singleton.mpr rfl)), h4⟩⟩
      rcases List.mem_cons.mp hy with rfl | hy
      · exact hx'
      · exact fun m => h3 y hy (List.mem_append_left _ m)
theorem words_nodup {ns : List Str} (h : regsD (ns.map .str) = true) : (planWordsOf ns).Nodup := by
  have sm : ∀ ms : List Str, strsOf (ms.map .str) = ms := by
    intro ms
    induction ms with
    | nil => rfl
    | cons n ms ih => rw [List.map_cons, strsOf, ih]
  rw [regsD, Bool.and_eq_true, Bool.and_eq_true, decide_eq_true_eq, decide_eq_true_eq, sm, List.length_map] at h
  obtain ⟨_, h2, h3⟩ := h
  have nd := ((fold_ded ns []).2 (by rw [List.length_nil, Nat.zero_add]; exact h3)).2
  have no : ∀ s ∈ ns, s ∉ words01 := fun s hs hw => by
    have := List.all_eq_true.mp h2 _ (List.mem_map_of_mem hs)
    rw [isName, Bool.and_eq_true, Bool.not_eq_true', memS, any_str] at this
    exact absurd (this.2.symm.trans (decide_eq_true hw)) (by decide)
  have w1 : ("here" : Str) ∈ words01 := by decide +kernel
  have w2 : ("new" : Str) ∈ words01 := by decide +kernel
  have w3 : ("nothing" : Str) ∈ words01 := by decide +kernel
  have e1 : ("here" : Str) ≠ "new" := by decide +kernel
  have e2 : ("here" : Str) ≠ "nothing" := by decide +kernel
  have e3 : ("new" : Str) ≠ "nothing" := by decide +kernel
  unfold planWordsOf
  refine List.nodup_append.mpr ⟨List.nodup_append.mpr ⟨by simp, nd, fun a ha b hb e => ?_⟩, by simp [e3], fun a ha b hb e => ?_⟩
  · rw [List.mem_singleton] at ha
    rw [← e, ha] at hb
    exact no _ hb w1
  · subst e
    simp only [List.mem_cons, List.not_mem_nil, or_false] at hb
    rcases List.mem_append.mp ha with ha | ha
    · rw [List.mem_singleton.mp ha] at hb
      rcases hb with e | e
      · exact e1 e
      · exact e2 e
    · rcases hb with e | e
      · rw [e] at ha
        exact no _ ha w2
      · rw [e] at ha
        exact no _ ha w3
theorem regs_words {d : PyData} (h : isRegs d = true) : (planWordsOf (strsOf (itemsOf d))).Nodup := by
  have main : ∀ ds, regsD ds = true → (planWordsOf (strsOf ds)).Nodup := fun ds hd => by
    have hd' := hd
    rw [regsD, Bool.and_eq_true, Bool.and_eq_true] at hd'
    have es := names_strs hd'.2.1
    rw [es] at hd
    exact words_nodup hd
  cases d with
  | list ds => exact main ds h
  | tuple ds => exact main ds h
  | _ => cases h
theorem goodAll {ns : List Str} {ds : List PyData} (h : firstBad ns ds = none) : ∃ ls : List Ln, ds = ls.map lnD ∧ ∀ l ∈ ls, GoodL ns l := by
  refine all_good (p := isLine ns) (fun d => isLine_good) ?_
  rw [List.all_eq_true]
  intro d hd
  obtain ⟨j, hj, e⟩ := List.getElem_of_mem hd
  have z := List.find?_eq_none.mp h j (List.mem_range.mpr hj)
  have hdj : ds[j]? = some d := by simp [hj, e]
  rw [badAt, hdj] at z
  cases c : isLine ns d with
  | true => rfl
  | false =>
    exfalso
    apply z
    show (!isLine ns d || _) = true
    rw [c]
    rfl
theorem places_any (z : Str) : ([PyData.str "beside", .str "elder"].any fun y => PyData.eqv y (.str z)) = isPlace z := by
  have := any_str z ["beside", "elder"]
  rw [show ([PyData.str "beside", .str "elder"]) = (["beside", "elder"] : List Str).map PyData.str from rfl, this]
  unfold isPlace
  exact Bool.eq_iff_iff.mpr ⟨fun h => List.contains_iff_mem.mpr (of_decide_eq_true h), fun h => decide_eq_true (List.contains_iff_mem.mp h)⟩
theorem placesShaped : SeqAt.shaped (.tuple [.str "beside", .str "elder"]) = true := by decide +kernel
/-- the getter of places -/
def spPlaces (K : PySem.W.Frag) (f : Str → Bool) : Sp := fun vs H Q _ => ∃ (x dx t : Addr) (fs : List (Str × V)) (ns : List Str), vs = [.ref x] ∧ H x = some (.ins (He.ga K "Rule") dx fs) ∧ fs.lookup ("_registers" : Str) = some (.ref t) ∧ SqT K H t (ns.map V.str) ∧ ns.length ≤ 3 ∧ OkN ns ∧
  ∀ p H', Keep [] H H' → SqT K H' p ((ns.filter f).map V.str) → Q (.ref p) H'
def spMakeRule (K : PySem.W.Frag) : Sp := fun vs H Q E => ∃ (x dx : Addr) (vr vl : V) (dr dl : PyData), vs = [.ref x, vr, vl] ∧ H x = some (.ins (He.ga K "Rule") dx []) ∧ Dq K H vr dr ∧ Dq K H vl dl ∧ (∀ e ∈ itemsOf dr, ∀ x, e = .str x → x.length ≤ 1000) ∧ (∀ d ∈ itemsOf dl, LayL d) ∧
  (isRegs dr = false → ∀ d H', Keep [] H H' → H d = none → H' d = some (.xd [("value", vr)]) → E (.ref (He.ga K "BadRegisters")) (some d) H') ∧
  (isRegs dr = true → linesIn dl = false → ∀ d H', Keep [] H H' → H d = none → H' d = some (.xd [("value", vl)]) → E (.ref (He.ga K "BadLines")) (some d) H') ∧
  (isRegs dr = true → linesIn dl = true → ∀ i, firstBad (strsOf (itemsOf dr)) (itemsOf dl) = some i → ∀ d H', Keep [] H H' → H d = none → H' d = some (.xd [("position", .int i)]) → E (.ref (He.ga K "BadLine")) (some d) H') ∧
  (isRegs dr = true → linesIn dl = true → firstBad (strsOf (itemsOf dr)) (itemsOf dl) = none → ∀ H' (ls : List Ln), itemsOf dl = ls.map lnD → (∀ l ∈ ls, GoodL (strsOf (itemsOf dr)) l) → Keep [x] H H' → RuleFull K H' x (strsOf (itemsOf dr)) ls → Q .non H')
section
variable {P : Program} {w : World} {K : PySem.W.Frag} {mg : Str → Option Value} {base : Heap}
abbrev s_Rule_places : Stmt := (inClass (top 33) 3)
abbrev N_Rule_places : List Str := ["self", "name"]
abbrev P_Rule_places : List Str := ["self"]
theorem sc_Rule_places : FnScope N_Rule_places P_Rule_places (defScope s_Rule_places) := ⟨rfl, rfl, rfl, by decide +kernel, rfl, by decide +kernel, by decide +kernel⟩
theorem I_places (PP : PropAt K q_Rule_places) (W : Cw fas fns K mg) (hP : ∀ H, SqT K H (He.ga K "PLACES") ((["beside", "elder"] : List Str).map V.str)) :
    ∃ fd, FnOk P w K mg base CX0 1 (pga K "Rule" "places") fd ["self"] (spPlaces K isPlace) ∧ Binds K fd ["self"] [] := by
  obtain ⟨fd, F⟩ := PP.fn
  refine ⟨fd, FunD.ok F sc_Rule_places (fun vs H Q E h => ?_) (fun cdv A outer s H vs Q E hr h => ?_), FunD.bindsN F (fun _ _ _ _ _ _ us hl => match us, hl with | [_], _ => rfl)⟩
  · obtain ⟨x, dx, t, fs, ns, rfl, _⟩ := h
    rfl
  · obtain ⟨x, dx, t, fs, ns, rfl, hx, ht, sq, n3, okn, k⟩ := h
    have CR : Cls K (He.ga K "Rule") := He.cls_ok (W.fact 83)
    have N1 : NoAttr K (He.ga K "Rule") "_registers" := He.noat_ok (W.fact 84)
    refine ⟨_, PSs.nox (pss_one (ps_ret (pe_callTy call_tuple_of (by rfl) (W.fre 79) (by decide +kernel) (pa_cons (pe_lc (own := [("name", 1)]) (g := gName 1) (tt := tTest (tOp (SM.rInA K) (tVar 1) (tC (.ref (He.ga K "PLACES"))))) (by rfl) sc_Rule_places.nd (pi_tup (pe_fld (pv 0) rfl)) (blkOk_by (own := [("name", 1)]) (N := N_Rule_places) (sc := defScope s_Rule_places) (by decide +kernel)) (fun _ _ _ _ _ => pg_name (i := 1) sc_Rule_places.nd rfl (Or.inl rfl)) (fun _ _ _ _ _ => pts_one (pt_cmpR (SM.op_inA (SM.units65 hr)) (pv 1) (pe_glob (v := .ref _) (by rfl) (W.glo 81) rfl) (by rfl))) (fun _ _ _ _ _ => (pv 1))) pa_nil)))), ?_⟩
    refine ⟨_, rfl, x, _, dx, fs, _, rfl, hx, CR, N1, ht, t, rfl, ⟨_, sq⟩, fun D hD => lcF (f := isPlace) (Nat.le_of_ble_eq_true rfl) sq (by omega) hD (fun H2 k2 z hz Q2 q2 => ?_) fun H' k' e' => ⟨D, _, rfl, .inl ⟨SqL.of e', fun p hp => k p _ (k'.trans (Keep.new hp)) (SqT.of upd_same)⟩⟩⟩
    refine ⟨_, rfl, .inr ⟨.str z, [.str "beside", .str "elder"], .str z, .tup (hP H2) (.cons (.str _) (.cons (.str _) .nil)), shaped_str (okn z hz), placesShaped, _, rfl, ?_⟩⟩
    rw [places_any]
    exact q2 H2 Keep.refl
abbrev s_Rule___init__ : Stmt := (inClass (top 33) 0)
abbrev N_Rule___init__ : List Str := ["self", "registers", "lines", "names"]
abbrev P_Rule___init__ : List Str := ["self", "registers", "lines"]
theorem sc_Rule___init__ : FnScope N_Rule___init__ P_Rule___init__ (defScope s_Rule___init__) := ⟨rfl, rfl, rfl, by decide +kernel, rfl, by decide +kernel, by decide +kernel⟩
theorem I_Rule (PP : PropAt K q_Rule_places) (hP : ∀ H, SqT K H (He.ga K "PLACES") ((["beside", "elder"] : List Str).map V.str)) (Dchoice_of : DefOk P w K mg base CX0 1 "choice_of" P_choice_of (spChoice K)) (W : Cw fas fns K mg) (R_BadRegisters : RaiseOk P w K mg base "BadRegisters" "value") (R_BadLines : RaiseOk P w K mg base "BadLines" "value") (Dare_registers : DefOk P w K mg base CX0 2 "are_registers" P_are_registers (spRegs K)) (Drefuse_bad_lines : DefOk P w K mg base (CX P w) 4 "refuse_bad_lines" P_refuse_bad_lines (spRefuse K)) :
    ∃ fd, FnOk P w K mg base (CX P w) 5 (He.ma K (He.ga K "Rule") "__init__") fd ["self", "registers", "lines"] (spMakeRule K) ∧ Binds K fd ["self", "registers", "lines"] [] := by
  obtain ⟨fd, F⟩ := W.says.def_ 29 (d := d_Rule___init__) rfl
  refine ⟨fd, FunD.ok F sc_Rule___init__ (fun vs H Q E h => ?_) (fun cdv A outer s H vs Q E hr h => ?_), FunD.bindsN F (fun _ _ _ _ _ _ us hl => match us, hl with | [_, _, _], _ => rfl)⟩
  · obtain ⟨x, dx, vr, vl, dr, dl, rfl, _⟩ := h
    rfl
  · obtain ⟨x, dx, vr, vl, dr, dl, rfl, hx, hr', hl, short, lay, e1, e2, e3, k⟩ := h
    have CR : Cls K (He.ga K "Rule") := He.cls_ok (W.fact 83)
    have MP : Mk K (He.ga K "Plan") (He.ma K (He.ga K "Plan") "__init__") := He.mkr_ok (W.fact 96)
    have gPl := W.glo 24
    obtain ⟨fdPl, FPl, bPl⟩ := I_Plan (P := P) (w := w) (base := base) W Dchoice_of
    obtain ⟨fdPp, FPp, bPp⟩ := I_places (P := P) (w := w) (base := base) PP W hP
    refine ⟨_, (Evl.pss_cut (ps_if (pt_not (pt_val (SM.pe_callD Dare_registers (hr.mono (by decide)) pass0 (pa_cons (pv 1) pa_nil)))) (pss_one (SM.ps_raiseErr R_BadRegisters rfl (hr.mono (by decide)) (takes_of rfl rfl rfl rfl) (pv 1))) pss_nil) (Evl.pss_cut (ps_if (PW.pt (pw_or (pt_not (pt_val (pe_callB call_isiT (by rfl) (W.fre 69) (by decide +kernel) (pa_cons (pv 2) (pa_cons (pe_tup (pa_cons (pe_bltn (v := .ty "list") (by rfl) (W.fre 71) (show bootBuiltins "list" = some (.type "list") by decide +kernel) rfl) (pa_cons (pe_bltn (v := .ty "tuple") (by rfl) (W.fre 79) (show bootBuiltins "tuple" = some (.type "tuple") by decide +kernel) rfl) pa_nil))) pa_nil))))) (pw_or1 (pt_not (pt_chain op_le op_le pe_int (pe_callB call_len_seq (by rfl) (W.fre 70) (by decide +kernel) (pa_cons (pv 2) pa_nil)) pe_int))))) (pss_one (SM.ps_raiseErr R_BadLines rfl (hr.mono (by decide)) (takes_of rfl rfl rfl rfl) (pv 2))) pss_nil) (Evl.pss_cut (ps_set (i := 3) sc_Rule___init__.nd rfl (by first | exact Or.inl rfl | exact Or.inr rfl) (pe_callTy call_tuple_of (by rfl) (W.fre 79) (by decide +kernel) (pa_cons (pv 1) pa_nil))) (Evl.pss_cut (ps_expr (SM.pe_callD Drefuse_bad_lines (hr.mono (by decide)) (passes_call (takes_of rfl rfl rfl rfl) (fun _ _ _ _ h => h)) (pa_cons (pv 2) (pa_cons (pv 3) pa_nil)))) (Evl.pss_cut (ps_fld (pv 0) (pv 3) rfl) (Evl.pss_cut (ps_fld (pv 0) (pe_callTy call_tuple_of (by rfl) (W.fre 79) (by decide +kernel) (pa_cons (pv 2) pa_nil)) rfl) (pss_one (ps_fld (pv 0) (pe_make MP FPl (hr.mono (by decide)) (by rfl) gPl bPl .nil pass0 (pa_cons (pv 3) (pa_cons (pe_prop (pv 0) CR PP.of FPp (hr.mono (by decide)) bPp .nil pass0 rfl) (pa_cons (pe_fld (pv 0) rfl) pa_nil)))) rfl)))))))), ?_⟩
    have N1 : NoAttr K (He.ga K "Rule") "_registers" := He.noat_ok (W.fact 84)
    have N2 : NoAttr K (He.ga K "Rule") "_lines" := He.noat_ok (W.fact 85)
    have N3 : NoAttr K (He.ga K "Rule") "plan" := He.noat_ok (W.fact 86)
    refine ⟨fun σ' H' => σ' = [some (.ref x), some vr, some vl, none] ∧ Keep [] H H' ∧ isRegs dr = true, ?_, ?_⟩
    · refine ⟨_, rfl, vr, dr, rfl, hr', short, fun H1 k1 => ⟨_, rfl, ?_⟩⟩
      cases c : isRegs dr with
      | true => exact iteF ⟨rfl, k1, rfl⟩
      | false => exact iteT ⟨_, rfl, raise_out (W := E) R_BadRegisters.err R_BadRegisters.no fun d hd => e1 c d _ (k1.trans (Keep.new hd)) (k1.free (by simp) hd) upd_same⟩
    rintro σ' H1 ⟨rfl, k1, cr⟩
    refine ⟨fun σ' H' => σ' = [some (.ref x), some vr, some vl, none] ∧ Keep [] H H' ∧ linesIn dl = true, ?_, ?_⟩
    · refine ⟨_, rfl, (by show 2 ≤ sizeLine; decide), fun q hq => ?_⟩
      have kq : Keep [] H1 (upd H1 q (.tup [.ty "list", .ty "tuple"])) := Keep.new hq
      have kk := k1.trans kq
      have hv' := hl.mono kk.same
      refine ⟨vl, q, [.ty "list", .ty "tuple"], _, [.type "list", .type "tuple"], isSeq dl, rfl, upd_same, .cons (.ty _) (.cons (.ty _) .nil), hv'.ty, kit_seq dl, _, rfl, ?_⟩
      have out : linesIn dl = false → ∀ d, (upd H1 q (.tup [.ty "list", .ty "tuple"])) d = none → E (.ref (He.ga K "BadLines")) (some d) (upd (upd H1 q (.tup [.ty "list", .ty "tuple"])) d (.xd [("value", vl)])) :=
        fun c d hd => e2 cr c d _ (kk.trans (Keep.new hd)) (kk.free (by simp) hd) upd_same
      have seq : ∀ (ds : List PyData) (n : Nat), n = ds.length → linesIn dl = (decide (1 ≤ ds.length) && decide (ds.length ≤ 8)) → (decide ((1 : Int) ≤ (n : Int)) && decide ((n : Int) ≤ 8)) = linesIn dl := by
        intro ds n e1 e2
        subst e1
        rw [e2]
        congr 1
        · exact decide_eq_decide.mpr (by omega)
        · exact decide_eq_decide.mpr (by omega)
      cases hv' with
      | @lst a xs ds s t =>
        have z := seq ds xs.length t.length rfl
        refine iteF ⟨_, rfl, a, xs, rfl, .inl s, _, _, rfl, rfl, _, rfl, ite2 (fun f => ?_) (fun f => ?_)⟩
        · have f' : decide ((1 : Int) ≤ (xs.length : Int)) = true := f
          rw [f', Bool.true_and] at z
          refine ⟨_, _, rfl, rfl, _, rfl, ?_⟩
          rw [z]
          cases c : linesIn _ with
          | true =>
            exact iteF ⟨rfl, kk, rfl⟩
          | false =>
            exact iteT ⟨_, rfl, raise_out (W := E) R_BadLines.err R_BadLines.no fun d hd => out c d hd⟩
        · have f' : decide ((1 : Int) ≤ (xs.length : Int)) = false := Bool.eq_false_iff.mpr f
          rw [f', Bool.false_and] at z
          exact ⟨_, rfl, iteT ⟨_, rfl, raise_out (W := E) R_BadLines.err R_BadLines.no fun d hd => out z.symm d hd⟩⟩
      | @tup a xs ds s t =>
        have z := seq ds xs.length t.length rfl
        refine iteF ⟨_, rfl, a, xs, rfl, .inr s, _, _, rfl, rfl, _, rfl, ite2 (fun f => ?_) (fun f => ?_)⟩
        · have f' : decide ((1 : Int) ≤ (xs.length : Int)) = true := f
          rw [f', Bool.true_and] at z
          refine ⟨_, _, rfl, rfl, _, rfl, ?_⟩
          rw [z]
          cases c : linesIn _ with
          | true =>
            exact iteF ⟨rfl, kk, rfl⟩
          | false =>
            exact iteT ⟨_, rfl, raise_out (W := E) R_BadLines.err R_BadLines.no fun d hd => out c d hd⟩
        · have f' : decide ((1 : Int) ≤ (xs.length : Int)) = false := Bool.eq_false_iff.mpr f
          rw [f', Bool.false_and] at z
          exact ⟨_, rfl, iteT ⟨_, rfl, raise_out (W := E) R_BadLines.err R_BadLines.no fun d hd => out z.symm d hd⟩⟩
      | non => exact iteT ⟨_, rfl, raise_out (W := E) R_BadLines.err R_BadLines.no fun d hd => out rfl d hd⟩
      | bl b => exact iteT ⟨_, rfl, raise_out (W := E) R_BadLines.err R_BadLines.no fun d hd => out rfl d hd⟩
      | int b => exact iteT ⟨_, rfl, raise_out (W := E) R_BadLines.err R_BadLines.no fun d hd => out rfl d hd⟩
      | str b => exact iteT ⟨_, rfl, raise_out (W := E) R_BadLines.err R_BadLines.no fun d hd => out rfl d hd⟩
      | dic s t => exact iteT ⟨_, rfl, raise_out (W := E) R_BadLines.err R_BadLines.no fun d hd => out rfl d hd⟩
    rintro σ' H2 ⟨rfl, k2, cl⟩
    obtain ⟨ra, rfl, hrs, r3, rok⟩ := regs_seq cr (hr'.mono k2.same)
    refine ⟨fun σ' H' => ∃ t, σ' = [some (.ref x), some (.ref ra), some vl, some (.ref t)] ∧ Keep [] H H' ∧ SqT K H' t ((strsOf (itemsOf dr)).map V.str), ?_, ?_⟩
    · rcases hrs with hrs | hrs
      · exact ⟨_, rfl, ra, _, rfl, .inl ⟨hrs, fun t ht => ⟨t, rfl, k2.trans (Keep.new ht), SqT.of upd_same⟩⟩⟩
      · exact ⟨_, rfl, ra, _, rfl, .inr ⟨hrs, ra, rfl, k2, hrs⟩⟩
    rintro σ' H3 ⟨t, rfl, k3, ht⟩
    obtain ⟨la, lxs, rfl, hls, hd, l8⟩ := lines_seq cl (hl.mono k3.same)
    refine ⟨fun σ' H' => σ' = [some (.ref x), some (.ref ra), some (.ref la), some (.ref t)] ∧ Keep [] H3 H' ∧ firstBad (strsOf (itemsOf dr)) (itemsOf dl) = none, ?_, ?_⟩
    · refine ⟨_, rfl, _, rfl, la, t, lxs, itemsOf dl, strsOf (itemsOf dr), rfl, hls, hd, lay, by omega, ⟨ht, r3, rok⟩, fun h H4 k4 => ⟨rfl, k4, h⟩, fun i h d H4 k4 hd4 hx4 => e3 cr cl i h d H4 (k3.trans k4) (k3.free (by simp) hd4) hx4⟩
    rintro σ' H4 ⟨rfl, k4, fb⟩
    have k34 := k3.trans k4
    have hx4 := k34.to hx
    refine ⟨fun σ' H' => σ' = [some (.ref x), some (.ref ra), some (.ref la), some (.ref t)] ∧ H' = upd H4 x (.ins (He.ga K "Rule") dx (putF "_registers" (.ref t) [])), ⟨_, rfl, _, rfl, x, _, dx, _, rfl, hx4, CR, N1, by simp, rfl, rfl⟩, ?_⟩
    rintro σ' H5 ⟨rfl, rfl⟩
    have kx : Keep [x] H4 (upd H4 x (.ins (He.ga K "Rule") dx (putF "_registers" (.ref t) []))) := Keep.at_ (by simp)
    have sx := Soft.ins hx4
    obtain ⟨ls, els, gls⟩ := goodAll fb
    have dt4 : DtAll K H4 lxs (ls.map lnD) := by
      have := DqAll_dt (hd.mono k4.same) (by rw [els]; exact onlyTs_all onlyT_line ls)
      rw [els] at this
      exact this
    have ht4 := seqT_keep k4 Soft.nil ht
    -- self._lines
    refine ⟨fun σ' H' => ∃ l, σ' = [some (.ref x), some (.ref ra), some (.ref la), some (.ref t)] ∧ Keep [x] H4 H' ∧ H' x = some (.ins (He.ga K "Rule") dx (putF "_lines" (.ref l) (putF "_registers" (.ref t) []))) ∧ SqT K H' l lxs, ?_, ?_⟩
    · have few : (putF "_registers" (V.ref t) ([] : List (Str × V))).length < 1000 := by
        show 1 < 1000
        decide
      rcases hls with hls | hls
      · refine ⟨_, rfl, la, lxs, rfl, .inl ⟨sqL_ins kx hx4 (k4.same.seq hls), fun l hl' => ?_⟩⟩
        have kn : Keep [] (upd H4 x (.ins (He.ga K "Rule") dx (putF "_registers" (.ref t) []))) (upd (upd H4 x (.ins (He.ga K "Rule") dx (putF "_registers" (.ref t) []))) l (.tup lxs)) := Keep.new hl'
        have hxn := kn.to (upd_same (H := H4) (a := x))
        exact ⟨_, rfl, x, _, dx, _, rfl, hxn, CR, N2, few, l, rfl, kx.trans ((Keep.of_nil kn).trans (Keep.at_ (by simp))), upd_same, seqT_keep (Keep.at_ (m := [x]) (by simp)) (Soft.ins hxn) (SqT.of upd_same)⟩
      · exact ⟨_, rfl, la, lxs, rfl, .inr ⟨seqT_keep kx sx (seqT_keep k4 Soft.nil hls), _, rfl, x, _, dx, _, rfl, upd_same, CR, N2, few, la, rfl, kx.trans (Keep.at_ (by simp)), upd_same, seqT_keep (Keep.at_ (m := [x]) (by simp)) (Soft.ins upd_same) (seqT_keep kx sx (seqT_keep k4 Soft.nil hls))⟩⟩
    rintro σ' H6 ⟨l, rfl, k6, hx6, hl6⟩
    have ht6 := seqT_keep k6 sx ht4
    have dt6 := dt4.keep k6 sx
    -- self.plan
    have fl : (putF "_lines" (V.ref l) (putF "_registers" (V.ref t) ([] : List (Str × V)))) = ([(("_registers" : Str), V.ref t), (("_lines" : Str), V.ref l)] : List (Str × V)) := rfl
    rw [fl] at hx6
    refine ⟨_, rfl, _, rfl, x, dx, _, rfl, hx6, x, dx, t, _, _, rfl, hx6, rfl, ht6, r3, rok, fun pl H7 k7 hpl => ?_⟩
    have hx7 := k7.to hx6
    refine ⟨_, rfl, x, _, dx, _, _, rfl, hx7, CR, N2, rfl, fun y dy ny ndy ne => ?_⟩
    have ka : Keep [] H7 (upd H7 dy (.own y)) := Keep.new ndy
    have kb : Keep [] (upd H7 dy (.own y)) (upd (upd H7 dy (.own y)) y (.ins (He.ga K "Plan") dy [])) := Keep.new (by rw [upd_ne ne.symm]; exact ny)
    have kab := ka.trans kb
    have hx8 := kab.to hx7
    refine ⟨y, dy, t, pl, l, _, _, lxs, ls, rfl, upd_same, seqT_keep (k7.trans kab) Soft.nil ht6, r3, seqT_keep kab Soft.nil hpl, Nat.le_trans (List.length_filter_le _ _) r3, fun p hp => (List.mem_filter.mp hp).1, seqT_keep (k7.trans kab) Soft.nil hl6, dt6.k0 (k7.trans kab), by rw [els, List.length_map] at l8; exact l8, gls, regs_words cr, fun H9 v1 v3 k9 ey d1 d3 => ⟨rfl, ?_⟩⟩
    have nyx : x ≠ y := fun z => by
      rw [z] at hx7
      rw [ny] at hx7
      cases hx7
    have hx9 := k9 _ _ (by simpa using nyx) hx8
    have sy : Soft [y] (upd (upd H7 dy (.own y)) y (.ins (He.ga K "Plan") dy [])) := Soft.ins upd_same
    have k69 : ∀ {z xs}, SqT K H6 z xs → SqT K H9 z xs := fun h => seqT_keep k9 sy (seqT_keep (k7.trans kab) Soft.nil h)
    have k6y : Keep [] H6 H9 := (k7.trans kab).offNew k9 (k7.free (by simp) ny)
    refine ⟨_, rfl, x, _, dx, _, rfl, hx9, CR, N3, (by show 2 < 1000; decide), ?_⟩
    have kz : Keep [x] H9 (upd H9 x (.ins (He.ga K "Rule") dx (putF "plan" (V.ref y) ([(("_registers" : Str), V.ref t), (("_lines" : Str), V.ref l)] : List (Str × V))))) := Keep.at_ (by simp)
    have sz := Soft.ins hx9
    refine k cr cl fb _ ls els gls ((Keep.of_nil k34).trans (k6.trans ((Keep.of_nil k6y).trans kz))) ⟨dx, t, l, y, dy, lxs, v1, v3, upd_same, seqT_keep kz sz (k69 ht6), seqT_keep kz sz (k69 hl6), (dt6.k0 k6y).keep kz sz, kz _ _ (by simpa using nyx.symm) ey, d1.keep kz sz, d3.keep kz sz⟩
end
end La
set_option Elab.async false
set_option linter.all false
set_option maxRecDepth 100000
set_option maxHeartbeats 4000000
namespace La
open PySem PySem.Spec PyProof.Rows L2 SM
def spEdited (K : PySem.W.Frag) : Sp := fun vs H Q _ => ∃ v s c, vs = [v, cV c] ∧ Dt K H v (fsD s) ∧ 1 ≤ s.cs.length ∧ s.cs.length ≤ 4 ∧ ∀ u H', Keep [] H H' → Dt K H' u (fsD (editedS s c)) → Q u H'
theorem cV_flat (c : Cn) : flatV (cV c) = true := by cases c <;> rfl
theorem cD_cV {K : PySem.W.Frag} {H : Hp} {v : V} {c : Cn} (h : Dt K H v (cD c)) : v = cV c := by
  cases c with
  | none => cases h; rfl
  | some s => cases h; rfl
section
variable {P : Program} {w : World} {K : PySem.W.Frag} {mg : Str → Option Value} {base : Heap}
abbrev s_edited : Stmt := (top 14)
abbrev N_edited : List Str := ["state", "content", "contents", "last", "_", "amid", "changed"]
abbrev P_edited : List Str := ["state", "content"]
theorem sc_edited : FnScope N_edited P_edited (defScope s_edited) := ⟨rfl, rfl, rfl, by decide +kernel, rfl, by decide +kernel, by decide +kernel⟩
theorem Dedited (W : Cw fas fns K mg) : DefOk P w K mg base CX0 1 "edited" P_edited (spEdited K) := by
  refine DefOk.of W 4 12 (st := s_edited) rfl rfl sc_edited (fun _ _ _ _ _ _ us hl => match us, hl with | [_, _], _ => rfl) (fun vs H Q E h => ?_) (fun cdv A outer s H vs Q E hr h => ?_)
  · obtain ⟨v, s, c, rfl, _⟩ := h
    rfl
  · obtain ⟨v, fs, c, rfl, dv, l1, l4, k⟩ := h
    refine ⟨_, PSs.nox (Evl.pss_cut (ps_asg (pv 0) (pg_tup (by rfl) (pgs_cons (pg_name (i := 2) sc_edited.nd rfl (by first | exact Or.inl rfl | exact Or.inr rfl)) (pgs_cons (pg_name (i := 3) sc_edited.nd rfl (by first | exact Or.inl rfl | exact Or.inr rfl)) (pgs_cons (pg_name (i := 4) sc_edited.nd rfl (by first | exact Or.inl rfl | exact Or.inr rfl)) (pgs_cons (pg_name (i := 4) sc_edited.nd rfl (by first | exact Or.inl rfl | exact Or.inr rfl)) (pgs_cons (pg_name (i := 5) sc_edited.nd rfl (by first | exact Or.inl rfl | exact Or.inr rfl)) pgs_nil))))))) (Evl.pss_cut (ps_if (pt_cmpR op_eq (pv 1) (pe_ix ix_seq (pv 2) pe_int (fun _ _ => rfl)) (nomark _)) (pss_one (ps_ret (pv 0))) pss_nil) (Evl.pss_cut (ps_set (i := 6) sc_edited.nd rfl (by first | exact Or.inl rfl | exact Or.inr rfl) (pe_op op_catA (pe_tup (pa_cons (pv 1) pa_nil)) (pe_slice SM.sl_tupA (pv 2) (po_some pe_int) po_none))) (Evl.pss_cut (ps_if (pt_cmpR op_eq (pv 1) (pv 3) (nomark _)) (pss_one (ps_ret (pe_tup (pa_cons (pv 6) (pa_cons (pv 3) (pa_cons pe_str (pa_cons pe_non (pa_cons (pv 5) pa_nil)))))))) pss_nil) (pss_one (ps_ret (pe_tup (pa_cons (pv 6) (pa_cons (pv 3) (pa_cons pe_str (pa_cons (pv 1) (pa_cons (pv 5) pa_nil)))))))))))), ?_⟩
    obtain ⟨a, us, rfl, sq, dus⟩ := dv.items
    cases dus with
    | @cons u0 _ _ _ d0 dus =>
    cases dus with
    | @cons u1 _ _ _ d1 dus =>
    cases dus with
    | @cons u2 _ _ _ d2 dus =>
    cases dus with
    | @cons u3 _ _ _ d3 dus =>
    cases dus with
    | @cons u4 _ _ _ d4 dus =>
    cases dus
    obtain ⟨ca, cs, rfl, sqc, dcs⟩ := d0.items
    obtain rfl := cV_of dcs
    obtain rfl := cD_cV d1
    cases d2
    obtain rfl := cD_cV d3
    cases d4
    let T : Option V → L2.St := fun x6 => [some (.ref a), some (cV c), some (.ref ca), some (cV fs.last), some (cV fs.mine), some (.bl fs.amid), x6]
    refine ⟨fun σ' H' => σ' = T none ∧ H' = H, ?_, ?_⟩
    · refine ⟨_, rfl, a, _, rfl, sq, rfl, _, _, rfl, _, _, rfl, _, _, rfl, _, _, rfl, _, _, rfl, rfl, rfl, rfl⟩
    rintro σ' H1 ⟨rfl, rfl⟩
    obtain ⟨c0, cr, ecs⟩ : ∃ c0 cr, fs.cs = c0 :: cr := by
      cases e : fs.cs with
      | nil => rw [e] at l1; simp at l1
      | cons c0 cr => exact ⟨c0, cr, rfl⟩
    have e0 : atC fs.cs 0 = c0 := by rw [ecs]; rfl
    have fl : ∀ c d : Cn, scal (cV c) (cV d) = true := fun c d => by cases c <;> cases d <;> rfl
    have dec : ∀ c d : Cn, decide (cV c = cV d) = decide (c = d) := fun c d => decide_eq_decide.mpr ⟨cV_inj, fun e => by rw [e]⟩
    have ac : atI (fs.cs.map cV) 0 = some (cV c0) := by rw [ecs, List.map_cons]; simp [atI, ixN]
    refine ⟨fun σ' H' => σ' = T none ∧ H' = H1 ∧ c ≠ c0, ?_, ?_⟩
    · refine ⟨_, rfl, _, rfl, .inr (.inl ⟨ca, _, 0, _, rfl, rfl, sqc, ac, fl _ _, _, rfl, ?_⟩)⟩
      rw [dec]
      refine ite2 (fun h => ?_) (fun h => ⟨rfl, rfl, fun e => h (decide_eq_true e)⟩)
      have e : c = c0 := of_decide_eq_true h
      rw [editedS, e0, if_pos e] at k
      exact ⟨_, rfl, k _ _ Keep.refl dv⟩
    rintro σ' H2 ⟨rfl, rfl, ne⟩
    rw [editedS, e0, if_neg ne] at k
    have es : [cD c] ++ (fs.cs.map cD).drop 1 = (fs.cs.set 0 c).map cD := by rw [ecs]; rfl
    have X : LtH K (tOp (rCatA K) (tTup (tCons (tVar 1) tNil)) (tSl (SM.rSlA K) (tVar 2) (tPart (tC (.int 1))) tNoPart)) (T none) H2 (.tuple ([cD c] ++ (fs.cs.map cD).drop 1)) :=
      LtH.cat (LtH.disp (.cons (.var rfl (cV_dt c)) .nil) (Nat.le_of_ble_eq_true rfl)) (LtH.drop (n := 1) (.var rfl d0) (fun H1 Q q => ⟨1, rfl, q⟩)) (by rw [List.length_drop, List.length_map]; show 1 + (fs.cs.length - 1) ≤ 100; omega)
    refine ⟨fun σ' H' => ∃ u, σ' = T (some u) ∧ Keep [] H2 H' ∧ Dt K H' u (.tuple ((fs.cs.set 0 c).map cD)), ?_, ?_⟩
    · refine X H2 Keep.refl _ fun u H' k' d' => ⟨u, rfl, k', ?_⟩
      rw [es] at d'
      exact d'
    rintro σ' H3 ⟨u, rfl, k3, du⟩
    refine ⟨fun σ' H' => σ' = T (some u) ∧ H' = H3 ∧ c ≠ fs.last, ?_, ?_⟩
    · refine ⟨_, rfl, _, rfl, fl _ _, _, rfl, ?_⟩
      rw [dec]
      refine ite2 (fun h => ?_) (fun h => ⟨rfl, rfl, fun e => h (decide_eq_true e)⟩)
      rw [if_pos (of_decide_eq_true h)] at k
      exact LtH.disp (.cons (.var (i := 6) rfl du) (.cons (.var (i := 3) rfl (cV_dt fs.last)) (.cons .str (.cons (fun H _ Q q => q _ _ Keep.refl .non) (.cons (.var (i := 5) rfl (.bl fs.amid)) .nil))))) (Nat.le_of_ble_eq_true rfl) H3 Keep.refl _ fun v H' k' d' => k v H' (k3.trans k') d'
    rintro σ' H4 ⟨rfl, rfl, nl⟩
    rw [if_neg nl] at k
    exact LtH.disp (.cons (.var (i := 6) rfl du) (.cons (.var (i := 3) rfl (cV_dt fs.last)) (.cons .str (.cons (.var (i := 1) rfl (cV_dt c)) (.cons (.var (i := 5) rfl (.bl fs.amid)) .nil))))) (Nat.le_of_ble_eq_true rfl) H4 Keep.refl _ fun v H' k' d' => k v H' (k3.trans k') d'
end
end La
set_option Elab.async false
set_option linter.all false
set_option maxRecDepth 100000
set_option maxHeartbeats 4000000
namespace La
open PySem PySem.Spec PyProof.Rows L2 SM
def spNeedless (K : PySem.W.Frag) : Sp := fun vs H Q _ => ∃ v s c, vs = [v, cV c] ∧ Dt K H v (fsD s) ∧ 1 ≤ s.cs.length ∧ Q (.bl (needlessS s c)) H
section
variable {P : Program} {w : World} {K : PySem.W.Frag} {mg : Str → Option Value} {base : Heap}
abbrev s_is_needless : Stmt := (top 18)
abbrev N_is_needless : List Str := ["state", "new", "contents", "last", "mark", "mine", "amid", "here"]
abbrev P_is_needless : List Str := ["state", "new"]
theorem sc_is_needless : FnScope N_is_needless P_is_needless (defScope s_is_needless) := ⟨rfl, rfl, rfl, by decide +kernel, rfl, by decide +kernel, by decide +kernel⟩
theorem Dis_needless (W : Cw fas fns K mg) : DefOk P w K mg base CX0 1 "is_needless" P_is_needless (spNeedless K) := by
  refine DefOk.of W 12 16 (st := s_is_needless) rfl rfl sc_is_needless (fun _ _ _ _ _ _ us hl => match us, hl with | [_, _], _ => rfl) (fun vs H Q E h => ?_) (fun cdv A outer s H vs Q E hr h => ?_)
  · obtain ⟨v, s, c, rfl, _⟩ := h
    rfl
  · obtain ⟨v, fs, c, rfl, dv, l1, k⟩ := h
    refine ⟨_, PSs.nox (Evl.pss_cut (ps_asg (pv 0) (pg_tup (by rfl) (pgs_cons (pg_name (i := 2) sc_is_needless.nd rfl (by first | exact Or.inl rfl | exact Or.inr rfl)) (pgs_cons (pg_name (i := 3) sc_is_needless.nd rfl (by first | exact Or.inl rfl | exact Or.inr rfl)) (pgs_cons (pg_name (i := 4) sc_is_needless.nd rfl (by first | exact Or.inl rfl | exact Or.inr rfl)) (pgs_cons (pg_name (i := 5) sc_is_needless.nd rfl (by first | exact Or.inl rfl | exact Or.inr rfl)) (pgs_cons (pg_name (i := 6) sc_is_needless.nd rfl (by first | exact Or.inl rfl | exact Or.inr rfl)) pgs_nil))))))) (Evl.pss_cut (ps_set (i := 7) sc_is_needless.nd rfl (by first | exact Or.inl rfl | exact Or.inr rfl) (pe_ix ix_seq (pv 2) pe_int (fun _ _ => rfl))) (Evl.pss_cut (ps_if (PW.pt (pw_or (pt_cmpR op_eq (pv 4) pe_str (nomark _)) (pw_or1 (PW.pt (pw_and (pt_cmpR op_eq (pv 4) pe_str (nomark _)) (pw_and1 (pt_cmpR op_ne (pv 7) (pv 5) (nomark _)))))))) (pss_one (ps_ret pe_bl)) pss_nil) (pss_one (ps_ret (pe_or (pe_cmpR op_eq (pv 7) (pv 1) (nomark _)) (pe_one (pe_and (pe_cmpR op_eq (pv 3) (pv 1) (nomark _)) (pe_one (pe_not (pv 6))))))))))), ?_⟩
    obtain ⟨a, us, rfl, sq, dus⟩ := dv.items
    cases dus with
    | @cons u0 _ _ _ d0 dus =>
    cases dus with
    | @cons u1 _ _ _ d1 dus =>
    cases dus with
    | @cons u2 _ _ _ d2 dus =>
    cases dus with
    | @cons u3 _ _ _ d3 dus =>
    cases dus with
    | @cons u4 _ _ _ d4 dus =>
    cases dus
    obtain ⟨ca, cs, rfl, sqc, dcs⟩ := d0.items
    obtain rfl := cV_of dcs
    obtain rfl := cD_cV d1
    cases d2
    obtain rfl := cD_cV d3
    cases d4
    let T : Option V → L2.St := fun x7 => [some (.ref a), some (cV c), some (.ref ca), some (cV fs.last), some (.str fs.mark), some (cV fs.mine), some (.bl fs.amid), x7]
    refine ⟨fun σ' H' => σ' = T none ∧ H' = H, ?_, ?_⟩
    · refine ⟨_, rfl, a, _, rfl, sq, rfl, _, _, rfl, _, _, rfl, _, _, rfl, _, _, rfl, _, _, rfl, rfl, rfl, rfl⟩
    rintro σ' H1 ⟨rfl, rfl⟩
    obtain ⟨c0, cr, ecs⟩ : ∃ c0 cr, fs.cs = c0 :: cr := by
      cases e : fs.cs with
      | nil => rw [e] at l1; simp at l1
      | cons c0 cr => exact ⟨c0, cr, rfl⟩
    have e0 : atC fs.cs 0 = c0 := by rw [ecs]; rfl
    have fl : ∀ c d : Cn, scal (cV c) (cV d) = true := fun c d => by cases c <;> cases d <;> rfl
    have dec : ∀ c d : Cn, decide (cV c = cV d) = decide (c = d) := fun c d => decide_eq_decide.mpr ⟨cV_inj, fun e => by rw [e]⟩
    have decS : ∀ x y : Str, decide (V.str x = V.str y) = decide (x = y) := fun x y => decide_eq_decide.mpr ⟨V.str.inj, fun e => by rw [e]⟩
    have ac : atI (fs.cs.map cV) 0 = some (cV c0) := by rw [ecs, List.map_cons]; simp [atI, ixN]
    refine ⟨fun σ' H' => σ' = T (some (cV c0)) ∧ H' = H1, ⟨_, rfl, .inr (.inl ⟨ca, _, 0, _, rfl, rfl, sqc, ac, rfl, rfl⟩)⟩, ?_⟩
    rintro σ' H2 ⟨rfl, rfl⟩
    rw [needlessS, e0] at k
    refine ⟨fun σ' H' => σ' = T (some (cV c0)) ∧ H' = H2 ∧ ¬ (fs.mark = "none" ∨ (fs.mark = "own" ∧ c0 ≠ fs.mine)), ?_, ?_⟩
    · refine ⟨_, rfl, rfl, _, rfl, ?_⟩
      rw [decS]
      refine ite2 (fun h => ?_) (fun h => ?_)
      · rw [if_pos (.inl (of_decide_eq_true h))] at k
        exact iteT k
      · have n1 : fs.mark ≠ "none" := fun e => h (decide_eq_true e)
        refine ⟨_, rfl, rfl, _, rfl, ?_⟩
        rw [decS]
        refine ite2 (fun h2 => ?_) (fun h2 => iteF ⟨rfl, rfl, fun z => z.elim n1 fun z => h2 (decide_eq_true z.1)⟩)
        refine ⟨_, rfl, _, rfl, fl _ _, _, rfl, ?_⟩
        rw [dec]
        by_cases e : c0 = fs.mine
        · rw [decide_eq_true e]
          exact iteF ⟨rfl, rfl, fun z => z.elim n1 fun z => z.2 e⟩
        · rw [decide_eq_false e]
          rw [if_pos (.inr ⟨of_decide_eq_true h2, e⟩)] at k
          exact iteT k
    rintro σ' H3 ⟨rfl, rfl, no⟩
    rw [if_neg no] at k
    refine ⟨_, rfl, _, rfl, fl _ _, ?_⟩
    rw [dec]
    refine ⟨_, rfl, ite2 (fun h => ?_) (fun h => ?_)⟩
    · rw [show decide (c0 = c) = true from h, Bool.true_or] at k
      exact k
    · rw [show decide (c0 = c) = false from Bool.eq_false_iff.mpr h, Bool.false_or] at k
      refine ⟨_, rfl, _, rfl, fl _ _, ?_⟩
      rw [dec]
      refine ⟨_, rfl, ite2 (fun h2 => ?_) (fun h2 => ?_)⟩
      · rw [show decide (fs.last = c) = true from h2, Bool.true_and] at k
        exact ⟨_, rfl, _, rfl, k⟩
      · rw [show decide (fs.last = c) = false from Bool.eq_false_iff.mpr h2, Bool.false_and] at k
        exact k
end
end La
set_option Elab.async false
set_option linter.all false
set_option maxRecDepth 100000
set_option maxHeartbeats 4000000
namespace La
open PySem PySem.Spec PyProof.Rows L2 SM
def takeO {α : Type} : Option Nat → List α → List α
  | none, l => l
  | some n, l => l.take n
theorem takeO_le {α : Type} : ∀ (n : Option Nat) (l : List α), (takeO n l).length ≤ l.length
  | none, _ => Nat.le_refl _
  | some n, l => by rw [takeO, List.length_take]; omega
theorem takeO_mem {α : Type} {a : α} : ∀ {n : Option Nat} {l : List α}, a ∈ takeO n l → a ∈ l
  | none, _, h => h
  | some n, l, h => List.mem_of_mem_take h
theorem takeO_map {α β : Type} (g : α → β) : ∀ (n : Option Nat) (l : List α), takeO n (l.map g) = (takeO n l).map g
  | none, _ => rfl
  | some n, l => by rw [takeO, takeO, List.map_take]
theorem LtH.takeO {K : PySem.W.Frag} {σ : L2.St} {H : Hp} {ta : TE} {tn : TO} {ds : List PyData} {n : Option Nat} (h : LtH K ta σ H (.tuple ds)) (hn : ∀ H1 (Q : Option Int → Hp → Prop), Q (n.map fun k => (k : Int)) H1 → tn σ H1 Q) : LtH K (tSl (SM.rSlA K) ta tNoPart tn) σ H (.tuple (takeO n ds)) := by
  cases n with
  | some n => exact LtH.take h hn
  | none =>
    intro H1 k1 Q k
    refine h H1 k1 _ fun v H2 k2 d2 => ?_
    refine hn H2 _ ?_
    obtain ⟨a, xs, rfl, ha, da⟩ := d2.items
    exact .inr ⟨a, xs, rfl, ha, ⟨HT.sIx_none .., HT.sIx_none ..⟩, k _ _ k2 d2⟩
theorem atC_map {h : List Cn} {i : Nat} (hi : i < h.length) : atI (h.map cV) (i : Int) = some (cV (atC h i)) := by
  refine atI_n ?_
  rw [List.getElem?_map, atC, List.getElem?_eq_getElem hi]
  rfl
theorem ixN_n {n i : Nat} (h : i < n) : ixN n (i : Int) = some i := by
  have e : (i : Int) < n := by omega
  simp [ixN, e]
/-- a slice's end: a number or nothing -/
def nV : Option Nat → V
  | none => .non
  | some n => .int (n : Int)
theorem rd_may {σ : L2.St} {i : Nat} {n : Option Nat} (h : σ[i]? = some (some (nV n))) (H1 : Hp) (Q : Option Int → Hp → Prop) (q : Q (n.map fun k => (k : Int)) H1) : SM.tPartN (tVar i) σ H1 Q := by
  refine ⟨_, h, ?_⟩
  cases n with
  | none => exact .inr ⟨rfl, q⟩
  | some n => exact .inl ⟨_, rfl, q⟩
def spDone (K : PySem.W.Frag) : Sp := fun vs H Q _ => ∃ (a : Addr) (h : List Cn) (vst : V) (f : Str → Nat) (ss : List (Str × Str)) (n : Option Nat), vs = [.ref a, vst, nV n] ∧ H a = some (.lst (h.map cV)) ∧ h.length ≤ 10 ∧ Dt K H vst (stepsX f ss) ∧ ss.length ≤ 4 ∧
  (∀ s ∈ ss, f s.1 < h.length ∧ f s.2 < h.length) ∧ ∀ p H', H p = none → Keep [] H H' → H' p = some (.lst ((doSteps f h (takeO n ss)).map cV)) → Q (.ref p) H'
section
variable {P : Program} {w : World} {K : PySem.W.Frag} {mg : Str → Option Value} {base : Heap}
abbrev s_done : Stmt := (top 17)
abbrev N_done : List Str := ["held", "steps", "stop", "after", "target", "source"]
abbrev P_done : List Str := ["held", "steps", "stop"]
theorem sc_done : FnScope N_done P_done (defScope s_done) := ⟨rfl, rfl, rfl, by decide +kernel, rfl, by decide +kernel, by decide +kernel⟩
theorem Ddone (W : Cw fas fns K mg) : DefOk P w K mg base CX0 1 "done" P_done (spDone K) := by
  refine DefOk.of W 11 15 (st := s_done) rfl rfl sc_done (fun _ _ _ _ _ _ us hl => match us, hl with | [_, _, _], _ => rfl) (fun vs H Q E h => ?_) (fun cdv A outer s H vs Q E hr h => ?_)
  · obtain ⟨a, h, vst, f, ss, n, rfl, _⟩ := h
    rfl
  · obtain ⟨a, h, vst, f, ss, n, rfl, ha, h10, dst, s4, inb, k⟩ := h
    refine ⟨_, PSs.nox (Evl.pss_cut (ps_set (i := 3) sc_done.nd rfl (by first | exact Or.inl rfl | exact Or.inr rfl) (pe_callTy call_list_of (by rfl) (W.fre 71) (by decide +kernel) (pa_cons (pv 0) pa_nil))) (Evl.pss_cut (ps_for PassesOwn.never rfl (pi_tup (pe_slice SM.sl_tupA (pv 1) po_none (SM.po_may (pv 2)))) (pg_tup (by rfl) (pgs_cons (pg_name (i := 4) sc_done.nd rfl (by first | exact Or.inl rfl | exact Or.inr rfl)) (pgs_cons (pg_name (i := 5) sc_done.nd rfl (by first | exact Or.inl rfl | exact Or.inr rfl)) pgs_nil))) (pss_one (ps_asg (pe_ix ix_seq (pv 3) (pv 5) (fun _ _ => rfl)) (pg_sub (pv 3) (pv 4) set_list)))) (pss_one (ps_ret (pv 3))))), ?_⟩
    let T : V → Option V → Option V → L2.St := fun x3 x4 x5 => [some (.ref a), some vst, some (nV n), some x3, x4, x5]
    refine ⟨fun σ' H' => ∃ p, σ' = T (.ref p) none none ∧ H p = none ∧ H' = upd H p (.lst (h.map cV)), ⟨_, rfl, a, _, rfl, .inl (SqL.of ha), fun p hp => ⟨p, rfl, hp, rfl⟩⟩, ?_⟩
    rintro σ' H1 ⟨p, rfl, hp, rfl⟩
    have k1 : Keep [] H (upd H p (.lst (h.map cV))) := Keep.new hp
    refine ⟨fun σ' H' => ∃ x4 x5, σ' = T (.ref p) x4 x5 ∧ Keep [] H H' ∧ H' p = some (.lst ((doSteps f h (takeO n ss)).map cV)), ?_, ?_⟩
    · refine LtH.takeO (n := n) (ds := ss.map (stepX f)) (LtH.var (i := 1) rfl (dst.k0 k1)) (rd_may rfl) _ Keep.refl _ fun v H2 k2 d2 => ?_
      obtain ⟨t, xs, rfl, st, dt⟩ := d2.items
      rw [takeO_map] at dt
      have lx : xs.length = (takeO n ss).length := by rw [dt.length, List.length_map]
      refine ⟨t, rfl, ⟨_, st⟩, for_tup (xs := xs) (fun i σ' H' => ∃ x4 x5, σ' = T (.ref p) x4 x5 ∧ Keep [p] H2 H' ∧ H' p = some (.lst ((doSteps f h ((takeO n ss).take i)).map cV))) ⟨none, none, rfl, Keep.refl, k2.to upd_same⟩ (fun i σ' H' _ z => by obtain ⟨_, _, _, kk, _⟩ := z; exact seqT_keep kk (Soft.lst (k2.to upd_same)) st) ?_ ?_⟩
      · rintro i y σ' H3 hy ⟨x4, x5, rfl, k3, ep⟩
        obtain ⟨d, hd, dy⟩ := dt.get hy
        rw [List.getElem?_map] at hd
        cases es : (takeO n ss)[i]? with
        | none => rw [es] at hd; cases hd
        | some s =>
        rw [es] at hd
        cases hd
        obtain ⟨b, us, rfl, sb, du⟩ := (dy.keep k3 (Soft.lst (k2.to upd_same))).items
        cases du with
        | @cons u0 _ _ _ g0 du =>
        cases du with
        | @cons u1 _ _ _ g1 du =>
        cases du
        cases g0
        cases g1
        have ib := inb s (takeO_mem (List.mem_of_getElem? es))
        have ln : (doSteps f h ((takeO n ss).take i)).length = h.length := doSteps_len ..
        refine ⟨b, _, rfl, sb, rfl, _, _, rfl, _, _, rfl, rfl, ?_⟩
        refine ⟨_, rfl, _, rfl, .inl ⟨p, _, _, _, rfl, rfl, SqL.of ep, atC_map (by rw [ln]; exact ib.2), ?_⟩⟩
        refine ⟨_, rfl, _, rfl, p, _, _, f s.1, rfl, rfl, ep, by rw [List.length_map, ln]; exact ixN_n ib.1, ?_⟩
        refine ⟨_, _, rfl, k3.trans (Keep.at_ (by simp)), ?_⟩
        rw [upd_same, List.take_succ, es, Option.toList_some, doSteps_snoc, List.map_set]
      · rintro σ' H3 ⟨x4, x5, rfl, k3, ep⟩
        rw [lx, List.take_length] at ep
        refine ⟨x4, x5, rfl, ?_, ep⟩
        exact (k1.trans k2).offNew k3 hp
    rintro σ' H2 ⟨x4, x5, rfl, k2, ep⟩
    exact ⟨_, rfl, k p H2 hp k2 ep⟩
end
end La
set_option Elab.async false
set_option linter.all false
set_option maxRecDepth 100000
set_option maxHeartbeats 4000000
namespace La
open PySem PySem.Spec PyProof.Rows L2 SM
/-- what stands as a plan in H -/
def PlanIs (K : PySem.W.Frag) (H : Hp) (y : Addr) (ns ps : List Str) (ls : List Ln) : Prop := ∃ (dy : Addr) (v1 v3 : V), H y = some (.ins (He.ga K "Plan") dy (planFs v1 (elderV ns) v3)) ∧ Dt K H v1 (spotsX ns ps) ∧ Dt K H v3 (.tuple (ls.map (choX (posOf ns))))
theorem PlanIs.keep {K : PySem.W.Frag} {m : List Addr} {H H' : Hp} {y : Addr} {ns ps : List Str} {ls : List Ln} (h : PlanIs K H y ns ps ls) (k : Keep m H H') (n : y ∉ m) (s : Soft m H) : PlanIs K H' y ns ps ls := by
  obtain ⟨dy, v1, v3, h1, h2, h3⟩ := h
  exact ⟨dy, v1, v3, k _ _ n h1, h2.keep k s, h3.keep k s⟩
theorem PlanIs.k0 {K : PySem.W.Frag} {H H' : Hp} {y : Addr} {ns ps : List Str} {ls : List Ln} (h : PlanIs K H y ns ps ls) (k : Keep [] H H') : PlanIs K H' y ns ps ls := h.keep k (by simp) Soft.nil
theorem sIx_m1 (n d : Nat) (h : 1 ≤ n) : HT.sIx n d (some (-1)) = n - 1 := by
  simp only [HT.sIx]
  rw [if_pos (by decide)]
  omega
theorem LtH.init {K : PySem.W.Frag} {σ : L2.St} {H : Hp} {ta : TE} {tn : TO} {ds : List PyData} (h : LtH K ta σ H (.tuple ds)) (l1 : 1 ≤ ds.length) (hn : ∀ H1 (Q : Option Int → Hp → Prop), Q (some (-1)) H1 → tn σ H1 Q) : LtH K (tSl (SM.rSlA K) ta tNoPart tn) σ H (.tuple ds.dropLast) := by
  intro H1 k1 Q k
  refine h H1 k1 _ fun v H2 k2 d2 => ?_
  refine hn H2 _ ?_
  obtain ⟨a, xs, rfl, ha, da⟩ := d2.items
  have lx := da.length
  refine .inl ⟨a, xs, rfl, ha, fun z => ?_, fun p hp => ?_⟩
  · have := z.2
    rw [sIx_m1 _ _ (by omega)] at this
    omega
  · have e : cutV xs none (some (-1)) = xs.take (xs.length - 1) := by
      unfold cutV
      rw [sIx_m1 _ _ (by omega), HT.sIx_none, List.drop_zero, Nat.sub_zero]
    refine k _ _ (k2.trans (Keep.new hp)) (.tup (SqT.of upd_same) ?_)
    rw [e, List.dropLast_eq_take, ← lx]
    exact (da.take _).k0 (Keep.new hp)
theorem taken_go (f : Str → Nat) (h : List Cn) : ∀ (ls : List Ln) (i : Nat), i < ls.length → (∀ j, j < i → ∀ l, ls[j]? = some l → lineOk f h l = false) → (i + 1 = ls.length ∨ ∃ l, ls[i]? = some l ∧ lineOk f h l = true) → taken f h ls = i
  | [], i, hi, _, _ => absurd hi (Nat.not_lt_zero _)
  | [l], i, hi, _, _ => by
    have : i = 0 := by simpa using hi
    subst this
    rfl
  | l :: m :: ls, 0, hi, no, e => by
    rcases e with e | ⟨l', e1, e2⟩
    · simp at e
    · cases e1
      rw [taken, if_pos e2]
  | l :: m :: ls, i + 1, hi, no, e => by
    have n0 := no 0 (Nat.succ_pos _) l rfl
    rw [taken, n0, if_neg Bool.false_ne_true, taken_go f h (m :: ls) i (by simpa using hi) (fun j hj l' hl => no (j + 1) (by omega) l' (by simpa using hl)) (by
      rcases e with e | ⟨l', e1, e2⟩
      · exact .inl (by simpa using e)
      · exact .inr ⟨l', by simpa using e1, e2⟩)]
/-- the lines of a rule, each over some names; the last one has no tests -/
def okTs (f : Str → Nat) (n : Nat) (l : Ln) : Prop := l.tests.length ≤ 4 ∧ ∀ t ∈ l.tests, f t.1 < n ∧ f t.2.1 < n
def spTaken (K : PySem.W.Frag) : Sp := fun vs H Q _ => ∃ (y a : Addr) (h : List Cn) (ns ps : List Str) (ls : List Ln), vs = [.ref y, .ref a] ∧ PlanIs K H y ns ps ls ∧ H a = some (.lst (h.map cV)) ∧ h.length ≤ 10 ∧ 1 ≤ ls.length ∧ ls.length ≤ 8 ∧ (∀ l ∈ ls, okTs (posOf ns) h.length l) ∧ ∀ H', Keep [] H H' → Q (.int (taken (posOf ns) h ls : Nat)) H'
section
variable {P : Program} {w : World} {K : PySem.W.Frag} {mg : Str → Option Value} {base : Heap}
abbrev s_line_taken : Stmt := (top 16)
abbrev N_line_taken : List Str := ["plan", "held", "position", "tests", "_", "one", "other", "same"]
abbrev P_line_taken : List Str := ["plan", "held"]
theorem sc_line_taken : FnScope N_line_taken P_line_taken (defScope s_line_taken) := ⟨rfl, rfl, rfl, by decide +kernel, rfl, by decide +kernel, by decide +kernel⟩
theorem Dline_taken (W : Cw fas fns K mg) : DefOk P w K mg base CX0 1 "line_taken" P_line_taken (spTaken K) := by
  refine DefOk.of W 10 14 (st := s_line_taken) rfl rfl sc_line_taken (fun _ _ _ _ _ _ us hl => match us, hl with | [_, _], _ => rfl) (fun vs H Q E h => ?_) (fun cdv A outer s H vs Q E hr h => ?_)
  · obtain ⟨y, a, h, ns, ps, ls, rfl, _⟩ := h
    rfl
  · obtain ⟨y, a, h, ns, ps, ls, rfl, ⟨dy, v1, v3, hy, d1, d3⟩, ha, h10, l1, l8, ok, k⟩ := h
    refine ⟨_, PSs.nox (Evl.pss_cut (ps_for PassesOwn.never rfl (SM.pi_enumA (by rfl) (W.fre 67) (pa_cons (pe_slice SM.sl_tupA (pe_fld (pv 0) rfl) po_none (po_some (pe_un un_neg pe_int))) pa_nil)) (pg_tup (by rfl) (pgs_cons (pg_name (i := 2) sc_line_taken.nd rfl (by first | exact Or.inl rfl | exact Or.inr rfl)) (pgs_cons (pg_tup (by rfl) (pgs_cons (pg_name (i := 3) sc_line_taken.nd rfl (by first | exact Or.inl rfl | exact Or.inr rfl)) (pgs_cons (pg_name (i := 4) sc_line_taken.nd rfl (by first | exact Or.inl rfl | exact Or.inr rfl)) pgs_nil))) pgs_nil))) (pss_one (ps_if (pt_val (pe_callB (cr_all rfl) (by rfl) (W.fre 64) (by decide +kernel) (pa_cons (pe_lc (own := [("one", 5), ("other", 6), ("same", 7)]) (g := gTup K 3 ((gCons (gName 5) (gCons (gName 6) (gCons (gName 7) gNil))))) (tt := tYes) (te := tOp rEq (tOp rEq (tOp (rIx K) (tVar 1) (tVar 5)) (tOp (rIx K) (tVar 1) (tVar 6))) (tVar 7)) (by rfl) sc_line_taken.nd (pi_tup (pv 3)) (blkOk_by (own := [("one", 5), ("other", 6), ("same", 7)]) (N := N_line_taken) (sc := defScope s_line_taken) (by decide +kernel)) (fun _ _ _ _ _ => pg_tup (by rfl) (pgs_cons (pg_name (i := 5) sc_line_taken.nd rfl (Or.inl rfl)) (pgs_cons (pg_name (i := 6) sc_line_taken.nd rfl (Or.inl rfl)) (pgs_cons (pg_name (i := 7) sc_line_taken.nd rfl (Or.inl rfl)) pgs_nil)))) (fun _ _ _ _ _ => pts_nil) (fun _ _ _ _ _ => (pe_cmpR op_eq (pe_cmpR op_eq (pe_ix ix_seq (pv 1) (pv 5) (fun _ _ => rfl)) (pe_ix ix_seq (pv 1) (pv 6) (fun _ _ => rfl)) (nomark _)) (pv 7) (nomark _)))) pa_nil))) (pss_one (ps_ret (pv 2))) pss_nil))) (pss_one (ps_ret (pe_op op_sub (pe_callB call_len_seq (by rfl) (W.fre 70) (by decide +kernel) (pa_cons (pe_fld (pv 0) rfl) pa_nil)) pe_int)))), ?_⟩
    have CP : Cls K (He.ga K "Plan") := He.cls_ok (W.fact 92)
    have N3 : NoAttr K (He.ga K "Plan") "choices" := He.noat_ok (W.fact 95)
    let f := posOf ns
    let T : Option V → Option V → Option V → L2.St := fun x2 x3 x4 => [some (.ref y), some (.ref a), x2, x3, x4, none, none, none]
    have fld : ∀ (σ : L2.St) (H1 : Hp) (Q : VK), σ[0]? = some (some (.ref y)) → Keep [] H H1 → (Dt K H1 v3 (.tuple (ls.map (choX f))) → Q v3 H1) → tFld K (tVar 0) "choices" σ H1 Q := fun σ H1 Q e k1 q => ⟨_, e, y, _, dy, _, v3, rfl, k1.to hy, CP, N3, rfl, q (d3.k0 k1)⟩
    refine ⟨fun σ' H' => ∃ x2 x3 x4, σ' = T x2 x3 x4 ∧ Keep [] H H' ∧ ∀ j, j + 1 < ls.length → ∀ l, ls[j]? = some l → lineOk f h l = false, ?_, ?_⟩
    · refine LtH.init (H := H) (ds := ls.map (choX f)) (fun H1 k1 Q1 q => fld _ _ _ rfl k1 fun d => q _ _ Keep.refl d) (by rw [List.length_map]; exact l1) (fun H1 Q1 q => ⟨1, rfl, -1, rfl, q⟩) _ Keep.refl _ fun v H2 k2 d2 => ?_
      obtain ⟨t, xs, rfl, st, dt⟩ := d2.items
      have lx : xs.length = ls.length - 1 := by rw [dt.length, List.length_dropLast, List.length_map]
      refine ⟨t, xs, rfl, for_enumA (fun i σ' H' => ∃ x2 x3 x4, σ' = T x2 x3 x4 ∧ Keep [] H2 H' ∧ ∀ j, j < i → ∀ l, ls[j]? = some l → lineOk f h l = false) (.inr st) ⟨none, none, none, rfl, Keep.refl, fun j z => absurd z (Nat.not_lt_zero _)⟩ (fun i σ' H' z => by obtain ⟨_, _, _, _, kk, _⟩ := z; exact kk) ?_ ?_⟩
      · rintro i x T0 σ' H3 hx ⟨x2, x3, x4, rfl, k3, no⟩ hT0
        have kT : Keep [] H3 (upd H3 T0 (.tup [.int (i : Int), x])) := Keep.new hT0
        have hi : i < ls.length - 1 := by
          have := (List.getElem?_eq_some_iff.mp hx).1
          omega
        obtain ⟨l, hl⟩ : ∃ l, ls[i]? = some l := ⟨_, List.getElem?_eq_getElem (show i < ls.length by omega)⟩
        obtain ⟨d, hd, dx⟩ := dt.get hx
        rw [List.dropLast_eq_take, List.getElem?_take, if_pos (by rw [List.length_map]; omega), List.getElem?_map, hl] at hd
        cases hd
        obtain ⟨b, us, rfl, sb, du⟩ := (dx.k0 (k3.trans kT)).items
        cases du with
        | @cons u0 _ _ _ g0 du =>
        cases du with
        | @cons u1 _ _ _ g1 du =>
        cases du
        obtain ⟨ta, txs, rfl, sta, dta⟩ := g0.items
        have okl := ok l (List.mem_of_getElem? hl)
        have lt : txs.length = l.tests.length := by rw [dta.length, List.length_map]
        have k24 := (k2.trans k3).trans kT
        refine ⟨T0, _, rfl, SqT.of upd_same, rfl, _, _, rfl, _, _, rfl, b, _, rfl, sb, rfl, _, _, rfl, _, _, rfl, rfl, rfl, ?_⟩
        refine rx_if (rx_tB (rx_cb1 ?_))
        refine lcTV (xs := txs) (rs := (l.tests.map (testOk f h)).map V.bl) (by rw [List.length_map, List.length_map, lt]) (by rw [lt]; exact Nat.le_trans okl.1 (by decide)) (fun Q' q => ⟨_, rfl, q ta _ Keep.refl sta⟩) (fun j z r H4 hz hr k4 Q' q' => ?_) fun D H4 nD k4 eD => ?_
        · obtain ⟨dd, hdd, dz⟩ := dta.get hz
          rw [List.getElem?_map] at hdd hr
          cases es : l.tests[j]? with
          | none => rw [es] at hdd; cases hdd
          | some t0 =>
          rw [es] at hdd
          rw [List.getElem?_map, es] at hr
          cases hdd
          cases hr
          obtain ⟨c, us, rfl, sc, du⟩ := (dz.k0 k4).items
          cases du with
          | @cons w0 _ _ _ e0 du =>
          cases du with
          | @cons w1 _ _ _ e1 du =>
          cases du with
          | @cons w2 _ _ _ e2 du =>
          cases du
          cases e0
          cases e1
          cases e2
          have ib := okl.2 t0 (List.mem_of_getElem? es)
          have ha4 := (k24.trans k4).to ha
          have fl : ∀ c d : Cn, scal (cV c) (cV d) = true := fun c d => by cases c <;> cases d <;> rfl
          refine ⟨c, _, rfl, sc, rfl, _, _, rfl, _, _, rfl, _, _, rfl, rfl, rfl, ?_⟩
          refine ⟨_, rfl, _, rfl, .inl ⟨a, _, _, _, rfl, rfl, SqL.of ha4, atC_map ib.1, _, rfl, _, rfl, .inl ⟨a, _, _, _, rfl, rfl, SqL.of ha4, atC_map ib.2, fl _ _, _, rfl, rfl, ?_⟩⟩⟩
          have e : decide (V.bl (decide (cV (atC h (f t0.1)) = cV (atC h (f t0.2.1)))) = V.bl t0.2.2) = testOk f h t0 := by
            rw [testOk, show decide (cV (atC h (f t0.1)) = cV (atC h (f t0.2.1))) = decide (atC h (f t0.1) = atC h (f t0.2.1)) from decide_eq_decide.mpr ⟨cV_inj, fun e => by rw [e]⟩]
            cases decide (atC h (f t0.1) = atC h (f t0.2.1)) <;> cases t0.2.2 <;> rfl
          rw [e]
          exact q' _ Keep.refl
        · refine ⟨_, _, rfl, SqL.of eD, _, rfl, ?_⟩
          have e : (l.tests.map (testOk f h)).all id = lineOk f h l := by rw [lineOk, List.all_map]; rfl
          rw [e]
          cases c : lineOk f h l with
          | true =>
            refine iteT ⟨_, rfl, ?_⟩
            have tk := taken_go f h ls i (by omega) no (.inr ⟨l, hl, c⟩)
            have := k H4 (k24.trans k4)
            rw [show taken (posOf ns) h ls = i from tk] at this
            exact this
          | false =>
            refine iteF ⟨_, _, _, rfl, (k3.trans kT).trans k4, fun j hj l' hl' => ?_⟩
            rcases Nat.lt_or_ge j i with z | z
            · exact no j z l' hl'
            · have : j = i := by omega
              subst this
              rw [hl] at hl'
              cases hl'
              exact c
      · rintro σ' H3 ⟨x2, x3, x4, rfl, k3, no⟩
        exact ⟨_, _, _, rfl, k2.trans k3, fun j hj l hl => no j (by omega) l hl⟩
    rintro σ' H3 ⟨x2, x3, x4, rfl, k3, no⟩
    have tk := taken_go f h ls (ls.length - 1) (by omega) (fun j hj l hl => no j (by omega) l hl) (.inl (by omega))
    have := k H3 k3
    rw [show taken (posOf ns) h ls = ls.length - 1 from tk] at this
    refine fld _ _ _ rfl k3 fun d => ?_
    obtain ⟨t, xs, rfl, st, dt⟩ := d.items
    have lx : xs.length = ls.length := by rw [dt.length, List.length_map]
    refine ⟨t, xs, rfl, .inr st, _, _, rfl, rfl, ?_⟩
    rw [lx]
    rw [show ((ls.length - 1 : Nat) : Int) = (ls.length : Int) - 1 by omega] at this
    exact this
end
end La
set_option Elab.async false
set_option linter.all false
set_option maxRecDepth 100000
set_option maxHeartbeats 4000000
namespace La
open PySem PySem.Spec PyProof.Rows L2 SM
def signOk (c : Nat) : Bool := decide (32 ≤ c) && decide (c ≤ 126) || decide (c = 10)
def textOk (x : Str) : Bool := x.cps.toList.all signOk
def isText : PyData → Bool
  | .str x => textOk x
  | _ => false
def isContent : PyData → Bool
  | .none => true
  | d => isText d
/-- contents that may stand in a file -/
def okC (c : Cn) : Prop := ∀ s, c = some s → textOk s = true ∧ s.length ≤ 1000
theorem okC_none : okC none := fun s e => by cases e
theorem textOk_str {s : Str} (h : textOk s = true) : PyData.strOk s = true := by
  show s.cps.all (· < 0x110000) = true
  rw [Array.all_eq_true']
  intro c hc
  have := List.all_eq_true.mp h c (Array.mem_toList_iff.mpr hc)
  rw [signOk, Bool.or_eq_true, Bool.and_eq_true, decide_eq_true_eq, decide_eq_true_eq, decide_eq_true_eq] at this
  exact decide_eq_true (by omega)
theorem okC.lay {n : Nat} {c : Cn} (h : okC c) : Lay n (cD c) := by
  cases c with
  | none => exact .none
  | some s => exact .str (textOk_str (h s rfl).1)
theorem okC.content {c : Cn} (h : okC c) : isContent (cD c) = true := by
  cases c with
  | none => rfl
  | some s => exact (h s rfl).1
theorem okC.short {c : Cn} (h : okC c) (x : Str) (e : cD c = .str x) : x.length ≤ 1000 := by
  cases c with
  | none => cases e
  | some s =>
    injection e with e
    subst e
    exact (h s rfl).2
theorem sg_sp : (Str.ofString " ").cps.toList = [32] := by decide +kernel
theorem sg_ti : (Str.ofString "~").cps.toList = [126] := by decide +kernel
theorem sg_nl : (Str.ofString "\n") = ⟨#[10]⟩ := by decide +kernel
theorem one_nl (c : Nat) : decide (V.str ⟨#[c]⟩ = V.str (Str.ofString "\n")) = decide (c = 10) := by
  rw [sg_nl]
  refine decide_eq_decide.mpr ⟨fun e => ?_, fun e => by rw [e]⟩
  injection e with e
  injection e with e
  simpa using e
def spText (K : PySem.W.Frag) (f : PyData → Bool) : Sp := fun vs H Q _ => ∃ v d, vs = [v] ∧ Dq K H v d ∧ (∀ x, d = .str x → x.length ≤ 1000) ∧ ∀ H', Keep [] H H' → Q (.bl (f d)) H'
section
variable {P : Program} {w : World} {K : PySem.W.Frag} {mg : Str → Option Value} {base : Heap}
abbrev s_is_text : Stmt := (top 24)
abbrev N_is_text : List Str := ["value", "char"]
abbrev P_is_text : List Str := ["value"]
theorem sc_is_text : FnScope N_is_text P_is_text (defScope s_is_text) := ⟨rfl, rfl, rfl, by decide +kernel, rfl, by decide +kernel, by decide +kernel⟩
theorem Dis_text (W : Cw fas fns K mg) : DefOk P w K mg base CX0 1 "is_text" P_is_text (spText K isText) := by
  refine DefOk.of W 24 21 (st := s_is_text) rfl rfl sc_is_text (fun _ _ _ _ _ _ us hl => match us, hl with | [_], _ => rfl) (fun vs H Q E h => ?_) (fun cdv A outer s H vs Q E hr h => ?_)
  · obtain ⟨v, d, rfl, _⟩ := h
    rfl
  · obtain ⟨v, d, rfl, hv, short, k⟩ := h
    refine ⟨_, PSs.nox (pss_one (ps_ret (pe_and (pe_callB call_isi (by rfl) (W.fre 69) (by decide +kernel) (pa_cons (pv 0) (pa_cons (pe_bltn (v := .ty "str") (by rfl) (W.fre 78) (show bootBuiltins "str" = some (.type "str") by decide +kernel) rfl) pa_nil))) (pe_one (pe_callB (cr_all rfl) (by rfl) (W.fre 64) (by decide +kernel) (pa_cons (pe_lc (own := [("char", 1)]) (g := gName 1) (tt := tYes) (by rfl) sc_is_text.nd (pi_str (pv 0)) (blkOk_by (own := [("char", 1)]) (N := N_is_text) (sc := defScope s_is_text) (by decide +kernel)) (fun _ _ _ _ _ => pg_name (i := 1) sc_is_text.nd rfl (Or.inl rfl)) (fun _ _ _ _ _ => pts_nil) (fun _ _ _ _ _ => (pe_or (pe_chain op_le_str op_le_str pe_str (pv 1) pe_str) (pe_one (pe_cmpR op_eq (pv 1) pe_str (nomark _)))))) pa_nil)))))), ?_⟩
    refine ⟨_, rfl, _, _, _, _, _, rfl, .ty _, hv.ty, kit_str d, ?_⟩
    have k0 := k H Keep.refl
    cases hv with
    | str x =>
      have xs : x.cps.size ≤ 1000 := short x rfl
      refine ⟨_, rfl, iteT ?_⟩
      refine ⟨_, rfl, x, rfl, fun D hD => ?_⟩
      refine lcBstr (f := signOk) xs (fun H2 k2 c => ?_) hD fun H2 k2 e2 => ⟨_, _, rfl, SqL.of e2, ?_⟩
      · intro H3 k3 Q' q'
        have q0 := q' H3 Keep.refl
        rw [signOk] at q0
        have e2 : (!decide (126 < c)) = decide (c ≤ 126) := by
          by_cases h : 126 < c
          · rw [decide_eq_true h, decide_eq_false (by omega)]; rfl
          · rw [decide_eq_false h, decide_eq_true (by omega)]; rfl
        have e1 : (!decide (c < 32)) = decide (32 ≤ c) := by
          by_cases h : c < 32
          · rw [decide_eq_true h, decide_eq_false (by omega)]; rfl
          · rw [decide_eq_false h, decide_eq_true (by omega)]; rfl
        refine ⟨_, rfl, _, _, rfl, rfl, ?_⟩
        rw [sg_sp]
        show ∃ k, V.bl (!decide ([c] < [32])) = V.bl k ∧ _
        rw [lt_one, e1]
        refine ⟨_, rfl, ?_⟩
        refine ite2 (fun h => ?_) (fun h => ?_)
        · refine ⟨_, _, rfl, rfl, ?_⟩
          rw [sg_ti]
          show ∃ k, V.bl (!decide ([126] < [c])) = V.bl k ∧ _
          rw [lt_one, e2]
          rw [show decide (32 ≤ c) = true from h, Bool.true_and] at q0
          refine ⟨_, rfl, ite2 (fun h2 => ?_) (fun h2 => ?_)⟩
          · rw [show decide (c ≤ 126) = true from h2, Bool.true_or] at q0
            exact q0
          · rw [show decide (c ≤ 126) = false from Bool.eq_false_iff.mpr h2, Bool.false_or] at q0
            refine ⟨_, rfl, rfl, ?_⟩
            rw [one_nl]
            exact q0
        · rw [show decide (32 ≤ c) = false from Bool.eq_false_iff.mpr h, Bool.false_and, Bool.false_or] at q0
          refine ⟨_, rfl, iteF ?_⟩
          refine ⟨_, rfl, rfl, ?_⟩
          rw [one_nl]
          exact q0
      · rw [all_idN]
        exact k H2 k2
    | non => exact ⟨_, rfl, iteF k0⟩
    | bl b => exact ⟨_, rfl, iteF k0⟩
    | int b => exact ⟨_, rfl, iteF k0⟩
    | tup s t => exact ⟨_, rfl, iteF k0⟩
    | lst s t => exact ⟨_, rfl, iteF k0⟩
    | dic s t => exact ⟨_, rfl, iteF k0⟩
abbrev s_is_content : Stmt := (top 23)
abbrev N_is_content : List Str := ["value"]
abbrev P_is_content : List Str := ["value"]
theorem sc_is_content : FnScope N_is_content P_is_content (defScope s_is_content) := ⟨rfl, rfl, rfl, by decide +kernel, rfl, by decide +kernel, by decide +kernel⟩
theorem Dis_content (W : Cw fas fns K mg) (Dis_text : DefOk P w K mg base CX0 1 "is_text" P_is_text (spText K isText)) : DefOk P w K mg base CX0 2 "is_content" P_is_content (spText K isContent) := by
  refine DefOk.of W 23 20 (st := s_is_content) rfl rfl sc_is_content (fun _ _ _ _ _ _ us hl => match us, hl with | [_], _ => rfl) (fun vs H Q E h => ?_) (fun cdv A outer s H vs Q E hr h => ?_)
  · obtain ⟨v, d, rfl, _⟩ := h
    rfl
  · obtain ⟨v, d, rfl, hv, short, k⟩ := h
    refine ⟨_, PSs.nox (pss_one (ps_ret (pe_or (pe_cmpR op_isN (pv 0) pe_non (nomark _)) (pe_one (SM.pe_callD Dis_text (hr.mono (by decide)) pass0 (pa_cons (pv 0) pa_nil)))))), ?_⟩
    refine ⟨_, rfl, rfl, _, rfl, ?_⟩
    have k0 := k H Keep.refl
    have go : isContent d = isText d → ∀ H', Keep [] H H' → Q (.bl (isText d)) H' := fun e H' k' => by rw [← e]; exact k H' k'
    have hv0 := hv
    cases hv with
    | non => exact iteT k0
    | str x => exact iteF ⟨_, rfl, _, _, rfl, hv0, short, go rfl⟩
    | bl b => exact iteF ⟨_, rfl, _, _, rfl, hv0, short, go rfl⟩
    | int b => exact iteF ⟨_, rfl, _, _, rfl, hv0, short, go rfl⟩
    | tup s t => exact iteF ⟨_, rfl, _, _, rfl, hv0, short, go rfl⟩
    | lst s t => exact iteF ⟨_, rfl, _, _, rfl, hv0, short, go rfl⟩
    | dic s t => exact iteF ⟨_, rfl, _, _, rfl, hv0, short, go rfl⟩
end
def isIdx (n : Int) : PyData → Bool
  | .int i => decide (0 ≤ i) && decide (i < n)
  | _ => false
def isIntB : PyData → Bool
  | .int _ => true
  | .bool _ => true
  | _ => false
theorem kit_int {K : PySem.W.Frag} (d : PyData) : PySem.W.kitOne K (.type (tyN d)) (.type "int") = some (isIntB d) := by cases d <;> rfl
def spIndex (K : PySem.W.Frag) : Sp := fun vs H Q _ => ∃ v d n, vs = [v, .int n] ∧ Dq K H v d ∧ Q (.bl (isIdx n d)) H
section
variable {P : Program} {w : World} {K : PySem.W.Frag} {mg : Str → Option Value} {base : Heap}
abbrev s_is_index : Stmt := (top 25)
abbrev N_is_index : List Str := ["value", "size"]
abbrev P_is_index : List Str := ["value", "size"]
theorem sc_is_index : FnScope N_is_index P_is_index (defScope s_is_index) := ⟨rfl, rfl, rfl, by decide +kernel, rfl, by decide +kernel, by decide +kernel⟩
theorem Dis_index (W : Cw fas fns K mg) : DefOk P w K mg base CX0 1 "is_index" P_is_index (spIndex K) := by
  refine DefOk.of W 25 22 (st := s_is_index) rfl rfl sc_is_index (fun _ _ _ _ _ _ us hl => match us, hl with | [_, _], _ => rfl) (fun vs H Q E h => ?_) (fun cdv A outer s H vs Q E hr h => ?_)
  · obtain ⟨v, d, n, rfl, _⟩ := h
    rfl
  · obtain ⟨v, d, n, rfl, hv, k⟩ := h
    refine ⟨_, PSs.nox (pss_one (ps_ret (pe_and (pe_callB call_isi (by rfl) (W.fre 69) (by decide +kernel) (pa_cons (pv 0) (pa_cons (pe_bltn (v := .ty "int") (by rfl) (W.fre 68) (show bootBuiltins "int" = some (.type "int") by decide +kernel) rfl) pa_nil))) (pe_and (pe_not (pe_callB call_isi (by rfl) (W.fre 69) (by decide +kernel) (pa_cons (pv 0) (pa_cons (pe_bltn (v := .ty "bool") (by rfl) (W.fre 65) (show bootBuiltins "bool" = some (.type "bool") by decide +kernel) rfl) pa_nil)))) (pe_one (pe_chain op_le op_lt pe_int (pv 0) (pv 1))))))), ?_⟩
    refine ⟨_, rfl, _, _, _, _, _, rfl, .ty _, hv.ty, kit_int d, _, rfl, ?_⟩
    cases hv with
    | int i =>
      refine iteT ⟨_, rfl, _, _, _, _, _, rfl, .ty _, .base (.int i), kit_bool (.int i), _, rfl, _, rfl, iteT ?_⟩
      refine ⟨_, rfl, _, _, rfl, rfl, _, rfl, ite2 (fun h => ?_) (fun h => ?_)⟩
      · refine ⟨_, rfl, _, _, rfl, rfl, ?_⟩
        have h' : 0 ≤ i := of_decide_eq_true h
        rw [isIdx, decide_eq_true h', Bool.true_and] at k
        exact k
      · have h' : ¬ 0 ≤ i := fun z => h (decide_eq_true z)
        rw [isIdx, decide_eq_false h', Bool.false_and] at k
        exact k
    | bl b => exact iteT ⟨_, rfl, _, _, _, _, _, rfl, .ty _, .base (.bl b), kit_bool (.bool b), _, rfl, _, rfl, iteF k⟩
    | non => exact iteF k
    | str b => exact iteF k
    | lst s t => exact iteF k
    | tup s t => exact iteF k
    | dic s t => exact iteF k
end
end La
set_option Elab.async false
set_option linter.all false
set_option maxRecDepth 100000
set_option maxHeartbeats 4000000
namespace La
open PySem PySem.Spec PyProof.Rows L2 SM
def spotsOf (ns ps : List Str) : List Nat := ((["here"] : List Str) ++ ps).map (posOf ns)
theorem spotsX_eq (ns ps : List Str) : spotsX ns ps = .tuple ((spotsOf ns ps).map fun (i : Nat) => .int (i : Int)) := by
  rw [spotsX, spotsOf, List.map_map]
  rfl
def elderO (ns : List Str) : Option Nat := if ("elder" : Str) ∈ planWordsOf ns then some (posOf ns "elder") else none
theorem elderV_eq (ns : List Str) : elderV ns = nV (elderO ns) := by
  rw [elderV, elderO]
  split <;> rfl
theorem any_cn (c : Cn) : ∀ l : List Cn, ((l.map cD).any fun z => PyData.eqv z (cD c)) = l.any fun z => decide (z = c)
  | [] => rfl
  | z :: l => by rw [List.map_cons, List.any_cons, List.any_cons, any_cn c l, cD_eqv]
theorem okC.dp {K : PySem.W.Frag} {H : Hp} {c : Cn} (h : okC c) : Dp K H (cV c) (cD c) ∧ SeqAt.shaped (cD c) = true := ⟨(cV_dt c).dp, (h.lay (n := 0)).shaped (by decide)⟩
theorem okCs_lay {l : List Cn} (h : ∀ c ∈ l, okC c) : ∀ d ∈ l.map cD, Lay 0 d := fun d hd => by
  obtain ⟨c, hc, rfl⟩ := List.mem_map.mp hd
  exact (h c hc).lay
theorem atC_ok {h : List Cn} (ok : ∀ c ∈ h, okC c) (i : Nat) : okC (atC h i) := by
  rw [atC]
  cases e : h[i]? with
  | none => exact okC_none
  | some c => exact ok c (List.mem_of_getElem? e)
theorem op_in_cn {K : PySem.W.Frag} {H : Hp} {c : Cn} {a : Addr} {l : List Cn} {Q : VK} (hc : okC c) (hl : ∀ c ∈ l, okC c) (ha : SqL K H a (l.map cV)) (q : Q (.bl (decide (c ∈ l))) H) : rInA K (cV c) (.ref a) H Q := by
  refine .inl ⟨cD c, l.map cD, (cV_dt c).dp, .lst ha (cV_all l).dp, ((hc.lay (n := 0)).shaped (by decide)), (Lay.list (okCs_lay hl)).shaped (by decide), ?_⟩
  rw [any_cn]
  rw [show (l.any fun z => decide (z = c)) = decide (c ∈ l) from Bool.eq_iff_iff.mpr (by rw [List.any_eq_true, decide_eq_true_eq]; exact ⟨fun ⟨x, hx, e⟩ => of_decide_eq_true e ▸ hx, fun h => ⟨c, h, decide_eq_true rfl⟩⟩)]
  exact q
theorem op_nin_cn {K : PySem.W.Frag} {H : Hp} {c : Cn} {v : V} {l : List Cn} {Q : VK} (hc : okC c) (hl : ∀ c ∈ l, okC c) (ha : Dt K H v (.tuple (l.map cD))) (q : Q (.bl (!decide (c ∈ l))) H) : rNotInA K (cV c) v H Q := by
  refine .inr ⟨cD c, l.map cD, (cV_dt c).dp, ha.dp, ((hc.lay (n := 0)).shaped (by decide)), (Lay.tuple (okCs_lay hl)).shaped (by decide), ?_⟩
  rw [any_cn]
  rw [show (l.any fun z => decide (z = c)) = decide (c ∈ l) from Bool.eq_iff_iff.mpr (by rw [List.any_eq_true, decide_eq_true_eq]; exact ⟨fun ⟨x, hx, e⟩ => of_decide_eq_true e ▸ hx, fun h => ⟨c, h, decide_eq_true rfl⟩⟩)]
  exact q
theorem op_nin_cnL {K : PySem.W.Frag} {H : Hp} {c : Cn} {a : Addr} {l : List Cn} {Q : VK} (hc : okC c) (hl : ∀ c ∈ l, okC c) (ha : SqL K H a (l.map cV)) (q : Q (.bl (!decide (c ∈ l))) H) : rNotInA K (cV c) (.ref a) H Q := by
  refine .inl ⟨cD c, l.map cD, (cV_dt c).dp, .lst ha (cV_all l).dp, ((hc.lay (n := 0)).shaped (by decide)), (Lay.list (okCs_lay hl)).shaped (by decide), ?_⟩
  rw [any_cn]
  rw [show (l.any fun z => decide (z = c)) = decide (c ∈ l) from Bool.eq_iff_iff.mpr (by rw [List.any_eq_true, decide_eq_true_eq]; exact ⟨fun ⟨x, hx, e⟩ => of_decide_eq_true e ▸ hx, fun h => ⟨c, h, decide_eq_true rfl⟩⟩)]
  exact q
theorem fl_cn (c d : Cn) : scal (cV c) (cV d) = true := by cases c <;> cases d <;> rfl
theorem dec_cn (c d : Cn) : decide (cV c = cV d) = decide (c = d) := decide_eq_decide.mpr ⟨cV_inj, fun e => by rw [e]⟩
theorem non_cn (c : Cn) : decide (cV c = .non) = decide (c = none) := dec_cn c none
theorem atC_end {h : List Cn} {m : Nat} (e : h.length = m + 2) : atI (h.map cV) (-2) = some (cV (atC h m)) := by
  have e2 : ixN (h.map cV).length (-2) = some m := by
    rw [List.length_map, e]
    simp only [ixN]
    rw [if_neg (by decide), if_pos (by omega)]
    congr 1
    omega
  rw [atI, e2]
  show (h.map cV)[m]? = _
  rw [List.getElem?_map, atC, List.getElem?_eq_getElem (show m < h.length by omega)]
  rfl
/-- a new list of words -/
def NewW (H : Hp) (Q : VK) (ws : List Str) : Prop := ∀ p H', H p = none → Keep [] H H' → H' p = some (.lst (ws.map V.str)) → Q (.ref p) H'
theorem NewW.at_ {H H1 : Hp} {Q : VK} {ws : List Str} (k : NewW H Q ws) (k1 : Keep [] H H1) (p : Addr) (hp : H1 p = none) : Q (.ref p) (upd H1 p (.lst (ws.map V.str))) := k p _ (k1.free (by simp) hp) (k1.trans (Keep.new hp)) upd_same
def spHarm (K : PySem.W.Frag) : Sp := fun vs H Q _ => ∃ (y a : Addr) (h : List Cn) (mine : Cn) (ns ps : List Str) (ls : List Ln), vs = [.ref y, .ref a, cV mine] ∧ PlanIs K H y ns ps ls ∧ H a = some (.lst (h.map cV)) ∧ 1 ≤ h.length ∧ ps.length ≤ 3 ∧ (∀ c ∈ h, okC c) ∧ okC mine ∧ (∀ i ∈ spotsOf ns ps, i < h.length) ∧ NewW H Q (harmS (spotsOf ns ps) h mine)
def spRemains (K : PySem.W.Frag) : Sp := fun vs H Q _ => ∃ (y a : Addr) (vo : V) (h : List Cn) (m : Nat) (own : List Cn) (ns ps : List Str) (ls : List Ln), vs = [.ref y, .ref a, vo] ∧ PlanIs K H y ns ps ls ∧ H a = some (.lst (h.map cV)) ∧ h.length = m + 2 ∧ 1 ≤ m ∧ (∀ c ∈ h, okC c) ∧ (∀ c ∈ own, okC c) ∧ Dt K H vo (.tuple (own.map cD)) ∧ own.length ≤ 1 ∧ (∀ e, elderO ns = some e → e < h.length) ∧ NewW H Q (remainsS (elderO ns) h (atC h m) own)
section
variable {P : Program} {w : World} {K : PySem.W.Frag} {mg : Str → Option Value} {base : Heap}
abbrev s_harm_of : Stmt := (top 19)
abbrev N_harm_of : List Str := ["plan", "held", "mine", "spot"]
abbrev P_harm_of : List Str := ["plan", "held", "mine"]
theorem sc_harm_of : FnScope N_harm_of P_harm_of (defScope s_harm_of) := ⟨rfl, rfl, rfl, by decide +kernel, rfl, by decide +kernel, by decide +kernel⟩
theorem Dharm_of (W : Cw fas fns K mg) : DefOk P w K mg base CX0 1 "harm_of" P_harm_of (spHarm K) := by
  refine DefOk.of W 13 17 (st := s_harm_of) rfl rfl sc_harm_of (fun _ _ _ _ _ _ us hl => match us, hl with | [_, _, _], _ => rfl) (fun vs H Q E h => ?_) (fun cdv A outer s H vs Q E hr h => ?_)
  · obtain ⟨y, a, h, mine, ns, ps, ls, rfl, _⟩ := h
    rfl
  · obtain ⟨y, a, h, mine, ns, ps, ls, rfl, ⟨dy, v1, v3, hy, d1, d3⟩, ha, l1, p3, ok, okm, inb, k⟩ := h
    refine ⟨_, PSs.nox (Evl.pss_cut (ps_if (pt_cmpR op_isN (pv 2) pe_non (nomark _)) (pss_one (ps_ret (pe_ifExp (pt_cmpR op_isN (pe_ix ix_seq (pv 1) pe_int (fun _ _ => rfl)) pe_non (nomark _)) (pe_lst pa_nil) (pe_lst (pa_cons pe_str pa_nil))))) pss_nil) (Evl.pss_cut (ps_if (pt_cmpR (SM.op_inA (SM.units65 hr)) (pv 2) (pe_lc (own := [("spot", 3)]) (g := gName 3) (tt := tYes) (te := tOp (rIx K) (tVar 1) (tVar 3)) (by rfl) sc_harm_of.nd (pi_tup (pe_fld (pv 0) rfl)) (blkOk_by (own := [("spot", 3)]) (N := N_harm_of) (sc := defScope s_harm_of) (by decide +kernel)) (fun _ _ _ _ _ => pg_name (i := 3) sc_harm_of.nd rfl (Or.inl rfl)) (fun _ _ _ _ _ => pts_nil) (fun _ _ _ _ _ => (pe_ix ix_seq (pv 1) (pv 3) (fun _ _ => rfl)))) (by rfl)) (pss_one (ps_ret (pe_lst pa_nil))) pss_nil) (pss_one (ps_ret (pe_lst (pa_cons pe_str pa_nil)))))), ?_⟩
    have CP : Cls K (He.ga K "Plan") := He.cls_ok (W.fact 92)
    have N1 : NoAttr K (He.ga K "Plan") "spots" := He.noat_ok (W.fact 93)
    have fits0 : ∀ (ws : List Str), ws.length ≤ 1 → (ws.map V.str).length ≤ sizeLine := fun ws h => by rw [List.length_map]; exact Nat.le_trans h (by decide)
    have ix0 : ∀ H1, H1 a = some (.lst (h.map cV)) → ∀ Q : VK, Q (cV (atC h 0)) H1 → rIx K (.ref a) (.int 0) H1 Q := fun H1 e Q q => .inl ⟨a, _, 0, _, rfl, rfl, SqL.of e, atC_map (i := 0) l1, q⟩
    refine ⟨fun σ' H' => σ' = [some (.ref y), some (.ref a), some (cV mine), none] ∧ H' = H ∧ mine ≠ none, ?_, ?_⟩
    · refine ⟨_, rfl, rfl, _, rfl, ?_⟩
      rw [non_cn]
      refine ite2 (fun e => ?_) (fun e => ⟨rfl, rfl, fun z => e (decide_eq_true z)⟩)
      have e0 : mine = none := of_decide_eq_true e
      refine rx_ret (rx_ife (rx_tTest (rx_op ⟨_, rfl, ix0 H ha _ ⟨rfl, _, rfl, ?_⟩⟩)))
      rw [non_cn]
      rw [harmS, if_pos e0] at k
      refine ite2 (fun e1 => ?_) (fun e1 => ?_)
      · rw [if_pos (of_decide_eq_true e1)] at k
        exact ⟨fits0 [] (by decide), fun p hp => k.at_ Keep.refl p hp⟩
      · rw [if_neg (fun z => e1 (decide_eq_true z))] at k
        exact ⟨fits0 ["revived"] (by decide), fun p hp => k.at_ Keep.refl p hp⟩
    rintro σ' H1 ⟨rfl, rfl, nm⟩
    rw [harmS, if_neg nm] at k
    rw [spotsX_eq] at d1
    obtain ⟨t, xs, rfl, st, dt⟩ := d1.items
    have lx : xs.length = (spotsOf ns ps).length := by rw [dt.length, List.length_map]
    have ls4 : (spotsOf ns ps).length ≤ 4 := by rw [spotsOf, List.length_map, List.length_append]; show 1 + ps.length ≤ 4; omega
    refine ⟨fun σ' H' => σ' = [some (.ref y), some (.ref a), some (cV mine), none] ∧ Keep [] H1 H' ∧ (mine ∉ (spotsOf ns ps).map (atC h)), ?_, ?_⟩
    · refine rx_if (rx_tTest (rx_op ⟨_, rfl, ?_⟩))
      refine lcTV (xs := xs) (rs := ((spotsOf ns ps).map (atC h)).map cV) (by rw [List.length_map, List.length_map, lx]) (by rw [lx]; omega) (fun Q' q => ⟨_, rfl, y, _, dy, _, _, rfl, hy, CP, N1, rfl, q t _ Keep.refl st⟩) (fun j z r H4 hz hr k4 Q' q' => ?_) fun D H4 nD k4 eD => ?_
      · obtain ⟨dd, hdd, dz⟩ := dt.get hz
        rw [List.getElem?_map] at hdd hr
        rw [List.getElem?_map] at hr
        cases es : (spotsOf ns ps)[j]? with
        | none => rw [es] at hdd; cases hdd
        | some i =>
        rw [es] at hdd hr
        cases hdd
        cases hr
        cases dz
        exact ⟨rfl, _, rfl, _, rfl, .inl ⟨a, _, _, _, rfl, rfl, SqL.of (k4.to ha), atC_map (inb i (List.mem_of_getElem? es)), q' _ Keep.refl⟩⟩
      · refine op_in_cn okm (fun c hc => by obtain ⟨i, _, rfl⟩ := List.mem_map.mp hc; exact atC_ok ok i) (SqL.of eD) ⟨_, rfl, ?_⟩
        have ee : ((spotsOf ns ps).any fun i => decide (atC h i = mine)) = decide (mine ∈ (spotsOf ns ps).map (atC h)) := Bool.eq_iff_iff.mpr (by
          rw [List.any_eq_true, decide_eq_true_eq, List.mem_map]
          exact ⟨fun ⟨i, hi, e⟩ => ⟨i, hi, of_decide_eq_true e⟩, fun ⟨i, hi, e⟩ => ⟨i, hi, decide_eq_true e⟩⟩)
        rw [ee] at k
        refine ite2 (fun e1 => ?_) (fun e1 => ⟨rfl, k4, fun z => e1 (decide_eq_true z)⟩)
        rw [if_pos e1] at k
        exact ⟨fits0 [] (by decide), fun p hp => k.at_ k4 p hp⟩
    rintro σ' H2 ⟨rfl, k2, no⟩
    have ee : ¬ ((spotsOf ns ps).any fun i => decide (atC h i = mine)) = true := fun z => no (by
      obtain ⟨i, hi, e⟩ := List.any_eq_true.mp z
      exact List.mem_map.mpr ⟨i, hi, of_decide_eq_true e⟩)
    rw [if_neg ee] at k
    exact ⟨fits0 ["lost"] (by decide), fun p hp => k.at_ k2 p hp⟩
abbrev s_remains_of : Stmt := (top 20)
abbrev N_remains_of : List Str := ["plan", "held", "own", "troubles"]
abbrev P_remains_of : List Str := ["plan", "held", "own"]
theorem sc_remains_of : FnScope N_remains_of P_remains_of (defScope s_remains_of) := ⟨rfl, rfl, rfl, by decide +kernel, rfl, by decide +kernel, by decide +kernel⟩
theorem Dremains_of (W : Cw fas fns K mg) : DefOk P w K mg base CX0 1 "remains_of" P_remains_of (spRemains K) := by
  refine DefOk.of W 14 18 (st := s_remains_of) rfl rfl sc_remains_of (fun _ _ _ _ _ _ us hl => match us, hl with | [_, _, _], _ => rfl) (fun vs H Q E h => ?_) (fun cdv A outer s H vs Q E hr h => ?_)
  · obtain ⟨y, a, vo, h, m, own, ns, ps, ls, rfl, _⟩ := h
    rfl
  · obtain ⟨y, a, vo, h, m, own, ns, ps, ls, rfl, ⟨dy, v1, v3, hy, d1, d3⟩, ha, lm, m1, ok, oko, dvo, o1, inb, k⟩ := h
    refine ⟨_, PSs.nox (Evl.pss_cut (ps_set (i := 3) sc_remains_of.nd rfl (by first | exact Or.inl rfl | exact Or.inr rfl) (pe_lst pa_nil)) (Evl.pss_cut (ps_if (pt_cmpR (SM.op_notInA (SM.units65 hr)) (pe_ix ix_seq (pv 1) pe_int (fun _ _ => rfl)) (pe_op op_catA (pe_tup (pa_cons (pe_ix ix_seq (pv 1) (pe_un un_neg pe_int) (fun _ _ => rfl)) pa_nil)) (pv 2)) (by rfl)) (pss_one (ps_expr (pe_bm PySem.F.plainAttrs_list PySem.F.slot_list_append PySem.F.type_list_append mt_append (pv 3) (pa_cons pe_str pa_nil)))) pss_nil) (Evl.pss_cut (ps_if (PW.pt (pw_and (pt_cmpR op_notN (pe_fld (pv 0) rfl) pe_non (nomark _)) (pw_and1 (pt_cmpR (SM.op_notInA (SM.units65 hr)) (pe_ix ix_seq (pv 1) (pe_fld (pv 0) rfl) (fun _ _ => rfl)) (pe_op op_catA (pe_tup (pa_cons pe_non pa_nil)) (pv 2)) (by rfl))))) (pss_one (ps_expr (pe_bm PySem.F.plainAttrs_list PySem.F.slot_list_append PySem.F.type_list_append mt_append (pv 3) (pa_cons pe_str pa_nil)))) pss_nil) (pss_one (ps_ret (pv 3)))))), ?_⟩
    have CP : Cls K (He.ga K "Plan") := He.cls_ok (W.fact 92)
    have N2 : NoAttr K (He.ga K "Plan") "elder" := He.noat_ok (W.fact 94)
    let T : Addr → L2.St := fun p => [some (.ref y), some (.ref a), some vo, some (.ref p)]
    let w1 : List Str := if atC h 0 = atC h m ∨ atC h 0 ∈ own then [] else ["stale"]
    refine ⟨fun σ' H' => ∃ p, σ' = T p ∧ H p = none ∧ H' = upd H p (.lst []), ⟨(by show 0 ≤ sizeLine; decide), fun p hp => ⟨p, rfl, hp, rfl⟩⟩, ?_⟩
    rintro σ' H1 ⟨p, rfl, hp, rfl⟩
    have k1 : Keep [] H (upd H p (.lst [])) := Keep.new hp
    have tupLt : ∀ (c : Cn) (te : TE) (σ : L2.St) (H1 : Hp), σ[2]? = some (some vo) → Keep [] H H1 → (∀ H2 (Q2 : VK), Keep [] H1 H2 → Q2 (cV c) H2 → te σ H2 Q2) → LtH K (tOp (rCatA K) (tTup (tCons te tNil)) (tVar 2)) σ H1 (.tuple ((c :: own).map cD)) := fun c te σ H1 e k1 ht =>
      LtH.cat (ds := [cD c]) (es := own.map cD) (LtH.disp (.cons (fun H2 k2 Q2 q => ht H2 _ k2 (q _ _ Keep.refl (cV_dt c))) .nil) (Nat.le_of_ble_eq_true rfl)) (LtH.var e (dvo.k0 k1)) (by rw [List.length_map]; show 1 + own.length ≤ 100; omega)
    refine ⟨fun σ' H' => σ' = T p ∧ Keep [] H H' ∧ H' p = some (.lst (w1.map V.str)), ?_, ?_⟩
    · refine rx_if (rx_tTest (rx_op ⟨_, rfl, .inl ⟨a, _, 0, _, rfl, rfl, SqL.of (k1.to ha), atC_map (i := 0) (by omega), ?_⟩⟩))
      refine tupLt (atC h m) _ _ _ rfl k1 (fun H2 Q2 k2 q => ⟨_, rfl, 2, rfl, .inl ⟨a, _, -2, _, rfl, rfl, SqL.of ((k1.trans k2).to ha), atC_end lm, q⟩⟩) _ Keep.refl _ fun v H2 k2 d2 => ?_
      refine op_nin_cn (atC_ok ok 0) (fun c hc => ?_) d2 ⟨_, rfl, ?_⟩
      · rcases List.mem_cons.mp hc with rfl | hc
        · exact atC_ok ok m
        · exact oko c hc
      · have e : decide (atC h 0 ∈ atC h m :: own) = decide (atC h 0 = atC h m ∨ atC h 0 ∈ own) := decide_eq_decide.mpr List.mem_cons
        rw [e]
        by_cases c : atC h 0 = atC h m ∨ atC h 0 ∈ own
        · rw [decide_eq_true c]
          refine iteF ⟨rfl, k1.trans k2, ?_⟩
          rw [show w1 = [] from if_pos c]
          exact k2.to upd_same
        · rw [decide_eq_false c]
          refine iteT ⟨_, rfl, .inl ⟨rfl, _, SqL.of (k2.to upd_same)⟩, p, [], _, rfl, rfl, k2.to upd_same, (by show 0 < sizeLine; decide), rfl, (k1.trans k2).offNew (Keep.at_ (by simp)) hp, ?_⟩
          rw [show w1 = (["stale"] : List Str) from if_neg c]
          exact upd_same
    rintro σ' H2 ⟨rfl, k2, e2⟩
    let w2 : List Str := match elderO ns with | none => [] | some e => if atC h e = none ∨ atC h e ∈ own then [] else ["left"]
    refine ⟨fun σ' H' => σ' = T p ∧ Keep [] H H' ∧ H' p = some (.lst ((w1 ++ w2).map V.str)), ?_, ?_⟩
    · have fld : ∀ (σ : L2.St) (H1 : Hp) (Q : VK), σ[0]? = some (some (.ref y)) → Keep [] H H1 → Q (nV (elderO ns)) H1 → tFld K (tVar 0) "elder" σ H1 Q := fun σ H1 Q e k1 q => ⟨_, e, y, _, dy, _, _, rfl, k1.to hy, CP, N2, rfl, by rw [elderV_eq]; exact q⟩
      refine rx_if (rx_and (rx_tTest (rx_op (fld _ _ _ rfl k2 ⟨rfl, _, rfl, ?_⟩))))
      cases ee : elderO ns with
      | none =>
        refine iteF (iteF ⟨rfl, k2, ?_⟩)
        rw [show w2 = [] by show (match elderO ns with | none => [] | some e => _) = _; rw [ee], List.append_nil]
        exact e2
      | some e =>
        refine iteT (rx_tTest (rx_op ⟨_, rfl, fld _ _ _ rfl k2 ?_⟩))
        rw [ee]
        refine .inl ⟨a, _, _, _, rfl, rfl, SqL.of (k2.to ha), atC_map (inb e ee), ?_⟩
        refine tupLt none _ _ _ rfl k2 (fun H2 Q2 _ q => q) _ Keep.refl _ fun v H3 k3 d3 => ?_
        refine op_nin_cn (atC_ok ok e) (fun c hc => ?_) d3 ⟨_, rfl, ?_⟩
        · rcases List.mem_cons.mp hc with rfl | hc
          · exact okC_none
          · exact oko c hc
        · have e' : decide (atC h e ∈ none :: own) = decide (atC h e = none ∨ atC h e ∈ own) := decide_eq_decide.mpr List.mem_cons
          rw [e']
          have ew : w2 = if atC h e = none ∨ atC h e ∈ own then ([] : List Str) else ["left"] := by show (match elderO ns with | none => [] | some e => _) = _; rw [ee]
          by_cases c : atC h e = none ∨ atC h e ∈ own
          · rw [decide_eq_true c]
            refine iteF ⟨rfl, k2.trans k3, ?_⟩
            rw [ew, if_pos c, List.append_nil]
            exact k3.to e2
          · rw [decide_eq_false c]
            have few : w1.length ≤ 1 := by
              show (if _ then _ else _ : List Str).length ≤ 1
              split <;> decide
            refine iteT ⟨_, rfl, .inl ⟨rfl, _, SqL.of (k3.to e2)⟩, p, _, _, rfl, rfl, k3.to e2, (by rw [List.length_map]; exact Nat.lt_of_le_of_lt few (by decide)), rfl, (k2.trans k3).offNew (Keep.at_ (by simp)) hp, ?_⟩
            rw [ew, if_neg c, upd_same, List.map_append]
            rfl
    rintro σ' H3 ⟨rfl, k3, e3⟩
    refine ⟨_, rfl, k p H3 hp k3 ?_⟩
    exact e3
end
end La
set_option Elab.async false
set_option linter.all false
set_option maxRecDepth 100000
set_option maxHeartbeats 4000000
namespace La
open PySem PySem.Spec PyProof.Rows L2 SM
def arrFs (y : Addr) (vst : V) (a : Addr) (j : Nat) (vl : V) : List (Str × V) := [("_plan", .ref y), ("_state", vst), ("_held", .ref a), ("position", .int (j : Int)), ("_lists", vl)]
/-- what stands as an arrival in H; l is the line that is taken -/
def ArrIs (K : PySem.W.Frag) (H : Hp) (x : Addr) (ns ps : List Str) (ls : List Ln) (s : Fs) (new : Cn) (ren : Bool) (l : Ln) : Prop := ∃ (dx y : Addr) (vst : V) (a : Addr) (vl : V), H x = some (.ins (He.ga K "Arrival") dx (arrFs y vst a (taken (posOf ns) (heldOf (posOf ns) s new ren) ls) vl)) ∧ PlanIs K H y ns ps ls ∧ Dt K H vst (fsD s) ∧
  H a = some (.lst ((heldOf (posOf ns) s new ren).map cV)) ∧ Dt K H vl (.tuple ((listsOf l).map (stepsX (posOf ns))))
theorem ArrIs.k0 {K : PySem.W.Frag} {H H' : Hp} {x : Addr} {ns ps : List Str} {ls : List Ln} {s : Fs} {new : Cn} {ren : Bool} {l : Ln} (h : ArrIs K H x ns ps ls s new ren l) (k : Keep [] H H') : ArrIs K H' x ns ps ls s new ren l := by
  obtain ⟨dx, y, vst, a, vl, h1, h2, h3, h4, h5⟩ := h
  exact ⟨dx, y, vst, a, vl, k.to h1, h2.k0 k, h3.k0 k, k.to h4, h5.k0 k⟩
theorem heldOf_len (f : Str → Nat) (s : Fs) (new : Cn) (ren : Bool) : (heldOf f s new ren).length = s.cs.length + 2 := by
  unfold heldOf
  split
  · rw [List.length_set, List.length_set, List.length_append]
    rfl
  · rw [List.length_append]
    rfl
theorem words_len (ns : List Str) : (planWordsOf ns).length = ns.length + 3 := by
  rw [planWordsOf, List.length_append, List.length_append]
  show 1 + ns.length + 2 = _
  omega
theorem pos_lt {ns : List Str} {x : Str} (h : x ∈ planWordsOf ns) : posOf ns x < ns.length + 3 := by
  rw [← words_len]
  exact List.idxOf_lt_length_of_mem h
theorem words_in {ns : List Str} {x : Str} (h : x = "here" ∨ x = "new" ∨ x = "nothing" ∨ x ∈ ns) : x ∈ planWordsOf ns := by
  unfold planWordsOf
  rcases h with h | h | h | h
  · rw [h]; simp
  · rw [h]; simp
  · rw [h]; simp
  · exact List.mem_append_left _ (List.mem_append_right _ h)
theorem GoodL.okTs {ns : List Str} {l : Ln} (h : GoodL ns l) : okTs (posOf ns) (ns.length + 3) l := by
  refine ⟨h.tests.1, fun t ht => ?_⟩
  have g := h.tests.2 t ht
  refine ⟨pos_lt (words_in ?_), pos_lt (words_in ?_)⟩
  · rcases g.1 with e | e | e
    · exact .inl e
    · exact .inr (.inl e)
    · exact .inr (.inr (.inr e))
  · rcases g.2 with e | e | e | e
    · exact .inr (.inl e)
    · exact .inl e
    · exact .inr (.inr (.inl e))
    · exact .inr (.inr (.inr e))
theorem GoodS.okS {ns : List Str} {s : Str × Str} (g : GoodS ns s) : posOf ns s.1 < ns.length + 3 ∧ posOf ns s.2 < ns.length + 3 := by
  refine ⟨pos_lt (words_in ?_), pos_lt (words_in ?_)⟩
  · rcases g.1 with e | e
    · exact .inl e
    · exact .inr (.inr (.inr e))
  · rcases g.2 with e | e | e | e
    · exact .inr (.inl e)
    · exact .inl e
    · exact .inr (.inr (.inl e))
    · exact .inr (.inr (.inr e))
theorem taken_lt (f : Str → Nat) (h : List Cn) : ∀ {ls : List Ln}, 1 ≤ ls.length → taken f h ls < ls.length
  | [l], _ => Nat.one_pos
  | l :: m :: ls, _ => by
    rw [taken]
    split
    · exact Nat.succ_pos _
    · have := taken_lt f h (ls := m :: ls) (Nat.succ_pos _)
      rw [List.length_cons]
      omega
theorem RuleFull.plan {K : PySem.W.Frag} {H : Hp} {x : Addr} {ns : List Str} {ls : List Ln} (h : RuleFull K H x ns ls) : ∃ dx t l y, H x = some (.ins (He.ga K "Rule") dx (ruleFs t l y)) ∧ PlanIs K H y ns (ns.filter isPlace) ls := by
  obtain ⟨dx, t, l, y, dy, xs, v1, v3, h1, _, _, _, h5, h6, h7⟩ := h
  exact ⟨dx, t, l, y, h1, dy, v1, v3, h5, h6, h7⟩
def spArrI (K : PySem.W.Frag) : Sp := fun vs H Q _ => ∃ (x dx r : Addr) (vst : V) (new : Cn) (ren : Bool) (ns : List Str) (ls : List Ln) (s : Fs), vs = [.ref x, .ref r, vst, cV new, .bl ren] ∧ H x = some (.ins (He.ga K "Arrival") dx []) ∧ RuleFull K H r ns ls ∧ ns.length ≤ 3 ∧ Dt K H vst (fsD s) ∧ s.cs.length = ns.length + 1 ∧
  1 ≤ ls.length ∧ ls.length ≤ 8 ∧ (∀ l ∈ ls, GoodL ns l) ∧ (ren = true → ("elder" : Str) ∈ ns) ∧ ∀ H' l, Keep [x] H H' → ls[taken (posOf ns) (heldOf (posOf ns) s new ren) ls]? = some l → ArrIs K H' x ns (ns.filter isPlace) ls s new ren l → Q .non H'
def spArrSteps (K : PySem.W.Frag) : Sp := fun vs H Q _ => ∃ (x : Addr) (reply : Option Str) (ns ps : List Str) (ls : List Ln) (s : Fs) (new : Cn) (ren : Bool) (l : Ln), vs = [.ref x, cV reply] ∧ ArrIs K H x ns ps ls s new ren l ∧ ∀ v, Dt K H v (stepsX (posOf ns) (listFor l reply)) → Q v H
section
variable {P : Program} {w : World} {K : PySem.W.Frag} {mg : Str → Option Value} {base : Heap}
abbrev s_Arrival___init__ : Stmt := (inClass (top 15) 0)
abbrev N_Arrival___init__ : List Str := ["self", "rule", "state", "new", "renaming"]
abbrev P_Arrival___init__ : List Str := ["self", "rule", "state", "new", "renaming"]
theorem sc_Arrival___init__ : FnScope N_Arrival___init__ P_Arrival___init__ (defScope s_Arrival___init__) := ⟨rfl, rfl, rfl, by decide +kernel, rfl, by decide +kernel, by decide +kernel⟩
theorem I_Arrival (W : Cw fas fns K mg) (Dline_taken : DefOk P w K mg base CX0 1 "line_taken" P_line_taken (spTaken K)) :
    ∃ fd, FnOk P w K mg base CX0 2 (He.ma K (He.ga K "Arrival") "__init__") fd ["self", "rule", "state", "new", "renaming"] (spArrI K) ∧ Binds K fd ["self", "rule", "state", "new", "renaming"] [] := by
  obtain ⟨fd, F⟩ := W.says.def_ 5 (d := d_Arrival___init__) rfl
  refine ⟨fd, FunD.ok F sc_Arrival___init__ (fun vs H Q E h => ?_) (fun cdv A outer s H vs Q E hr h => ?_), FunD.bindsN F (fun _ _ _ _ _ _ us hl => match us, hl with | [_, _, _, _, _], _ => rfl)⟩
  · obtain ⟨x, dx, r, vst, new, ren, ns, ls, s, rfl, _⟩ := h
    rfl
  · obtain ⟨x, dx, r, vst, new, ren, ns, ls, fs, rfl, hx, hru, n3, dst, lcs, l1, l8, gl, hel, k⟩ := h
    refine ⟨_, PSs.nox (Evl.pss_cut (ps_fld (pv 0) (pe_fld (pv 1) rfl) rfl) (Evl.pss_cut (ps_fld (pv 0) (pv 2) rfl) (Evl.pss_cut (ps_fld (pv 0) (pe_op op_cat (pe_callTy call_list_of (by rfl) (W.fre 71) (by decide +kernel) (pa_cons (pe_ix ix_seq (pv 2) pe_int (fun _ _ => rfl)) pa_nil)) (pe_lst (pa_cons (pv 3) (pa_cons pe_non pa_nil)))) rfl) (Evl.pss_cut (ps_if (pt_val (pv 4)) (Evl.pss_cut (ps_asg (pe_ix ix_seq (pe_fld (pv 0) rfl) pe_int (fun _ _ => rfl)) (pg_sub (pe_fld (pv 0) rfl) (pe_fld (pe_fld (pv 0) rfl) rfl) set_list)) (pss_one (ps_asg pe_non (pg_sub (pe_fld (pv 0) rfl) pe_int set_list)))) pss_nil) (Evl.pss_cut (ps_fld (pv 0) (SM.pe_callD Dline_taken (hr.mono (by decide)) pass0 (pa_cons (pe_fld (pv 0) rfl) (pa_cons (pe_fld (pv 0) rfl) pa_nil))) rfl) (pss_one (ps_fld (pv 0) (pe_ix ix_seq (pe_ix ix_seq (pe_fld (pe_fld (pv 0) rfl) rfl) (pe_fld (pv 0) rfl) (fun _ _ => rfl)) pe_int (fun _ _ => rfl)) rfl))))))), ?_⟩
    have CA : Cls K (He.ga K "Arrival") := He.cls_ok (W.fact 106)
    have CR : Cls K (He.ga K "Rule") := He.cls_ok (W.fact 83)
    have CP : Cls K (He.ga K "Plan") := He.cls_ok (W.fact 92)
    have NRp : NoAttr K (He.ga K "Rule") "plan" := He.noat_ok (W.fact 86)
    have NPe : NoAttr K (He.ga K "Plan") "elder" := He.noat_ok (W.fact 94)
    have NPc : NoAttr K (He.ga K "Plan") "choices" := He.noat_ok (W.fact 95)
    have N1 : NoAttr K (He.ga K "Arrival") "_plan" := He.noat_ok (W.fact 107)
    have N2 : NoAttr K (He.ga K "Arrival") "_state" := He.noat_ok (W.fact 108)
    have N3 : NoAttr K (He.ga K "Arrival") "_held" := He.noat_ok (W.fact 109)
    have N4 : NoAttr K (He.ga K "Arrival") "position" := He.noat_ok (W.fact 110)
    have N5 : NoAttr K (He.ga K "Arrival") "_lists" := He.noat_ok (W.fact 111)
    obtain ⟨dr, t, la, y, hr0, hpl⟩ := hru.plan
    have hpl0 := hpl
    obtain ⟨dy, v1, v3, hy, d1, d3⟩ := hpl
    have sx := Soft.ins hx
    have nyx : y ≠ x := fun z => by
      rw [z, hx] at hy
      injection hy with hy
      injection hy with _ _ e
      cases e
    have nrx : r ≠ x := fun z => by
      rw [z, hx] at hr0
      injection hr0 with hr0
      injection hr0 with _ _ e
      cases e
    let T : L2.St := [some (.ref x), some (.ref r), some vst, some (cV new), some (.bl ren)]
    let f := posOf ns
    -- _plan
    refine ⟨fun σ' H' => σ' = T ∧ Keep [x] H H' ∧ H' x = some (.ins (He.ga K "Arrival") dx [("_plan", .ref y)]), ?_, ?_⟩
    · exact ⟨_, rfl, r, _, dr, _, _, rfl, hr0, CR, NRp, rfl, _, rfl, x, _, dx, _, rfl, hx, CA, N1, (by show 0 < 1000; decide), rfl, Keep.at_ (by simp), upd_same⟩
    rintro σ' H1 ⟨rfl, k1, hx1⟩
    -- _state
    refine ⟨fun σ' H' => σ' = T ∧ Keep [x] H H' ∧ H' x = some (.ins (He.ga K "Arrival") dx [("_plan", .ref y), ("_state", vst)]), ?_, ?_⟩
    · exact ⟨_, rfl, _, rfl, x, _, dx, _, rfl, hx1, CA, N2, (by show 1 < 1000; decide), rfl, k1.trans (Keep.at_ (by simp)), upd_same⟩
    rintro σ' H2 ⟨rfl, k2, hx2⟩
    -- _held
    let fs3 : Addr → List (Str × V) := fun a => [("_plan", .ref y), ("_state", vst), ("_held", .ref a)]
    let M : List Cn → L2.St → Hp → Prop := fun h σ' H' => ∃ a, σ' = T ∧ Keep [x] H H' ∧ H' x = some (.ins (He.ga K "Arrival") dx (fs3 a)) ∧ H a = none ∧ a ≠ x ∧ H' a = some (.lst (h.map cV))
    refine ⟨M (fs.cs ++ [new, none]), ?_, ?_⟩
    · obtain ⟨b, us, eb, sq, dus⟩ := (dst.keep k2 sx).items
      cases dus with
      | @cons u0 _ _ _ d0 dus =>
      obtain ⟨c, cs, rfl, sc, dcs⟩ := d0.items
      obtain rfl := cV_of dcs
      refine rx_op (rx_cb1 ⟨_, rfl, .inr (.inl ⟨b, _, 0, _, eb, rfl, sq, at0 _ _, c, _, rfl, .inr sc, fun l hl => ?_⟩)⟩)
      have kl : Keep [] H2 (upd H2 l (.lst (fs.cs.map cV))) := Keep.new hl
      refine rx_lst ⟨_, rfl, (by show 2 ≤ sizeLine; decide), fun q hq => ?_⟩
      have kq : Keep [] (upd H2 l (.lst (fs.cs.map cV))) (upd (upd H2 l (.lst (fs.cs.map cV))) q (.lst [cV new, .non])) := Keep.new hq
      refine rd_cat (kq.to upd_same) upd_same (by rw [List.length_map, lcs]; show ns.length + 1 + 2 ≤ 1000; omega) fun p H4 np k4 ep => ?_
      have k24 := (kl.trans kq).trans k4
      have hx4 := k24.to hx2
      have hpx : p ≠ x := fun z => by
        rw [z] at np
        rw [(kl.trans kq).to hx2] at np
        cases np
      have nH : H p = none := k2.free (by simpa using hpx) ((kl.trans kq).free (by simp) np)
      refine ⟨_, rfl, x, _, dx, _, rfl, hx4, CA, N3, (by show 2 < 1000; decide), p, rfl, k2.trans ((Keep.of_nil k24).trans (Keep.at_ (by simp))), upd_same, nH, hpx, ?_⟩
      rw [upd_ne hpx, ep, List.map_append]
      rfl
    rintro σ' H3 ⟨a, rfl, k3, hx3, na, nax, ea⟩
    -- renaming
    refine ⟨M (heldOf f fs new ren), ?_, ?_⟩
    · refine rx_if ⟨_, rfl, _, rfl, ?_⟩
      cases ren with
      | false => exact iteF ⟨a, rfl, k3, hx3, na, nax, ea⟩
      | true =>
        have el := hel rfl
        have eV : elderV ns = .int (f "elder") := if_pos (words_in (.inr (.inr (.inr el))))
        have pel : f "elder" < ns.length + 3 := pos_lt (words_in (.inr (.inr (.inr el))))
        have lh : (fs.cs ++ [new, none]).length = ns.length + 3 := by rw [List.length_append, lcs]; rfl
        have a0 : atC (fs.cs ++ [new, none]) 0 = atC fs.cs 0 := by
          rw [atC, atC, List.getElem?_append_left (by omega)]
        refine iteT ?_
        have hy3 := k3 _ _ (by simpa using nyx) hy
        refine ⟨M ((fs.cs ++ [new, none]).set (f "elder") (atC fs.cs 0)), ?_, ?_⟩
        · refine ⟨_, rfl, x, _, dx, _, _, rfl, hx3, CA, N3, rfl, .inl ⟨a, _, 0, _, rfl, rfl, SqL.of ea, atC_map (i := 0) (by omega), ?_⟩⟩
          refine ⟨_, rfl, x, _, dx, _, _, rfl, hx3, CA, N3, rfl, _, rfl, x, _, dx, _, _, rfl, hx3, CA, N1, rfl, y, _, dy, _, _, rfl, hy3, CP, NPe, rfl, a, _, _, _, rfl, eV, ea, by rw [List.length_map, lh]; exact ixN_n pel, ?_⟩
          refine ⟨a, rfl, Keep.own k3 na, by rw [upd_ne (Ne.symm nax)]; exact hx3, na, nax, ?_⟩
          rw [upd_same, a0, List.map_set]
        rintro σ' H4 ⟨a', rfl, k4, hx4, na', nax', ea'⟩
        refine ⟨_, rfl, x, _, dx, _, _, rfl, hx4, CA, N3, rfl, a', _, _, _, rfl, rfl, ea', ixN_n (n := _) (i := 0) (by rw [List.length_map, List.length_set, lh]; omega), ?_⟩
        refine ⟨a', rfl, Keep.own k4 na', by rw [upd_ne (Ne.symm nax')]; exact hx4, na', nax', ?_⟩
        rw [upd_same, heldOf, if_pos rfl, List.map_set (f := cV) (i := 0)]
        rfl
    rintro σ' H4 ⟨a', rfl, k4, hx4, na', nax', ea'⟩
    let h := heldOf f fs new ren
    have lh : h.length = ns.length + 3 := by rw [show h.length = _ from heldOf_len .., lcs]
    have hp4 : PlanIs K H4 y ns (ns.filter isPlace) ls := hpl0.keep k4 (by simpa using nyx) sx
    have tlt : taken f h ls < ls.length := taken_lt f h l1
    obtain ⟨l, hl⟩ : ∃ l, ls[taken f h ls]? = some l := ⟨_, List.getElem?_eq_getElem tlt⟩
    -- position
    refine ⟨fun σ' H' => σ' = T ∧ Keep [x] H H' ∧ H' x = some (.ins (He.ga K "Arrival") dx (fs3 a' ++ ([("position", V.int ((taken f h ls : Nat) : Int))] : List (Str × V)))) ∧ H' a' = some (.lst (h.map cV)), ?_, ?_⟩
    · refine ⟨_, rfl, x, _, dx, _, _, rfl, hx4, CA, N1, rfl, _, rfl, x, _, dx, _, _, rfl, hx4, CA, N3, rfl, ?_⟩
      refine ⟨y, a', h, ns, _, ls, rfl, hp4, ea', by omega, l1, l8, fun l hl => by rw [lh]; exact GoodL.okTs (gl l hl), fun H5 k5 => ?_⟩
      have hx5 := k5.to hx4
      exact ⟨_, rfl, x, _, dx, _, rfl, hx5, CA, N4, (by show 3 < 1000; decide), rfl, k4.trans ((Keep.of_nil k5).trans (Keep.at_ (by simp))), upd_same, by rw [upd_ne nax']; exact k5.to ea'⟩
    rintro σ' H5 ⟨rfl, k5, hx5, ea5⟩
    -- _lists
    have d35 := d3.keep k5 sx
    have hy5 := k5 _ _ (by simpa using nyx) hy
    obtain ⟨c, cs, rfl, sc, dcs⟩ := d35.items
    obtain ⟨cl, hcl, dcl⟩ := dcs.getD (i := taken f h ls) (d := choX f l) (by rw [List.getElem?_map, hl]; rfl)
    obtain ⟨e, es, rfl, se, des⟩ := dcl.items
    cases des with
    | @cons u0 _ _ _ g0 des =>
    cases des with
    | @cons u1 _ _ _ g1 des =>
    cases des
    refine ⟨_, rfl, x, _, dx, _, _, rfl, hx5, CA, N1, rfl, y, _, dy, _, _, rfl, hy5, CP, NPc, rfl, _, rfl, x, _, dx, _, _, rfl, hx5, CA, N4, rfl, ?_⟩
    refine .inr (.inl ⟨c, _, _, _, rfl, rfl, sc, atI_n hcl, .inr (.inl ⟨e, _, 1, _, rfl, rfl, se, at1 _ _ _, ?_⟩)⟩)
    have kx : Keep [x] H5 (upd H5 x (.ins (He.ga K "Arrival") dx (arrFs y vst a' (taken f h ls) u1))) := Keep.at_ (by simp)
    have sx5 := Soft.ins hx5
    refine ⟨_, rfl, x, _, dx, _, rfl, hx5, CA, N5, (by show 4 < 1000; decide), k _ l (k5.trans kx) hl ?_⟩
    exact ⟨dx, y, vst, a', u1, upd_same, hpl0.keep (k5.trans kx) (by simpa using nyx) sx, dst.keep (k5.trans kx) sx, by rw [upd_ne nax']; exact ea5, g1.keep kx sx5⟩
abbrev s_Arrival_steps : Stmt := (inClass (top 15) 2)
abbrev N_Arrival_steps : List Str := ["self", "answer"]
abbrev P_Arrival_steps : List Str := ["self", "answer"]
theorem sc_Arrival_steps : FnScope N_Arrival_steps P_Arrival_steps (defScope s_Arrival_steps) := ⟨rfl, rfl, rfl, by decide +kernel, rfl, by decide +kernel, by decide +kernel⟩
theorem I_ArrSteps (W : Cw fas fns K mg) :
    ∃ fd, FnOk P w K mg base CX0 1 (He.ma K (He.ga K "Arrival") "steps") fd ["self", "answer"] (spArrSteps K) ∧ Binds K fd ["self", "answer"] [] := by
  obtain ⟨fd, F⟩ := W.says.def_ 6 (d := d_Arrival_steps) rfl
  refine ⟨fd, FunD.ok F sc_Arrival_steps (fun vs H Q E h => ?_) (fun cdv A outer s H vs Q E hr h => ?_), FunD.bindsN F (fun _ _ _ _ _ _ us hl => match us, hl with | [_, _], _ => rfl)⟩
  · obtain ⟨x, reply, ns, ps, ls, s, new, ren, l, rfl, _⟩ := h
    rfl
  · obtain ⟨x, reply, ns, ps, ls, s, new, ren, l, rfl, ⟨dx, y, vst, a, vl, hx, _, _, _, dl⟩, k⟩ := h
    refine ⟨_, PSs.nox (pss_one (ps_ret (pe_ifExp (pt_cmpR op_eq (pv 1) pe_str (nomark _)) (pe_ix ix_seq (pe_fld (pv 0) rfl) (pe_un un_neg pe_int) (fun _ _ => rfl)) (pe_ix ix_seq (pe_fld (pv 0) rfl) pe_int (fun _ _ => rfl))))), ?_⟩
    have CA : Cls K (He.ga K "Arrival") := He.cls_ok (W.fact 106)
    have N5 : NoAttr K (He.ga K "Arrival") "_lists" := He.noat_ok (W.fact 111)
    obtain ⟨b, us, rfl, sb, dus⟩ := dl.items
    refine ⟨_, rfl, by cases reply <;> rfl, _, rfl, ?_⟩
    have ed : decide (cV reply = .str "keep") = decide (reply = some "keep") := dec_cn reply (some "keep")
    rw [ed]
    obtain ⟨lt, lst, lk⟩ := l
    cases lk with
    | none =>
      rw [show listsOf ⟨lt, lst, none⟩ = [lst] from rfl] at dus
      cases dus with
      | @cons u0 _ _ _ g0 dus =>
      cases dus
      have k' : ∀ v, Dt K H v (stepsX (posOf ns) lst) → Q v H := k
      refine ite2 (fun e => ?_) (fun e => ?_)
      · exact ⟨_, rfl, x, _, dx, _, _, rfl, hx, CA, N5, rfl, 1, rfl, .inr (.inl ⟨b, _, -1, u0, rfl, rfl, sb, rfl, k' _ g0⟩)⟩
      · exact ⟨_, rfl, x, _, dx, _, _, rfl, hx, CA, N5, rfl, .inr (.inl ⟨b, _, 0, u0, rfl, rfl, sb, rfl, k' _ g0⟩)⟩
    | some kk =>
      rw [show listsOf ⟨lt, lst, some kk⟩ = [lst, kk] from rfl] at dus
      cases dus with
      | @cons u0 _ _ _ g0 dus =>
      cases dus with
      | @cons u1 _ _ _ g1 dus =>
      cases dus
      have k' : ∀ v, Dt K H v (stepsX (posOf ns) (if reply = some "keep" then kk else lst)) → Q v H := k
      refine ite2 (fun e => ?_) (fun e => ?_)
      · rw [if_pos (of_decide_eq_true e)] at k'
        exact ⟨_, rfl, x, _, dx, _, _, rfl, hx, CA, N5, rfl, 1, rfl, .inr (.inl ⟨b, _, -1, u1, rfl, rfl, sb, rfl, k' _ g1⟩)⟩
      · rw [if_neg (fun z => e (decide_eq_true z))] at k'
        exact ⟨_, rfl, x, _, dx, _, _, rfl, hx, CA, N5, rfl, .inr (.inl ⟨b, _, 0, u0, rfl, rfl, sb, rfl, k' _ g0⟩)⟩
end
end La
set_option Elab.async false
set_option linter.all false
set_option maxRecDepth 100000
set_option maxHeartbeats 4000000
namespace La
open PySem PySem.Spec PyProof.Rows L2 SM
theorem keep_some {l : Ln} : ((listsOf l).length : Int) = 1 ↔ l.keep.isSome = false := by
  obtain ⟨a, b, c⟩ := l
  cases c with
  | none => exact ⟨fun _ => rfl, fun _ => rfl⟩
  | some k => exact ⟨fun e => absurd e (by show ¬ ((2 : Nat) : Int) = 1; decide), fun e => by cases e⟩
theorem dec_str (x y : Str) : decide (V.str x = V.str y) = decide (x = y) := decide_eq_decide.mpr ⟨V.str.inj, fun e => by rw [e]⟩
/-- a tuple (new list of words, mark, mine) -/
def spQuest (K : PySem.W.Frag) : Sp := fun vs H Q _ => ∃ (x : Addr) (reply : Option Str) (ns ps : List Str) (ls : List Ln) (s : Fs) (new : Cn) (ren : Bool) (l : Ln), vs = [.ref x, cV reply] ∧ ArrIs K H x ns ps ls s new ren l ∧ s.cs.length = ns.length + 1 ∧ atC (heldOf (posOf ns) s new ren) (ns.length + 1) = new ∧
  ∀ p t H', H p = none → Keep [] H H' → H' p = some (.lst ((questionS s new l.keep.isSome reply).1.map V.str)) → SqT K H' t [.ref p, .str (questionS s new l.keep.isSome reply).2.1, cV (questionS s new l.keep.isSome reply).2.2] → Q (.ref t) H'
section
variable {P : Program} {w : World} {K : PySem.W.Frag} {mg : Str → Option Value} {base : Heap}
abbrev s_Arrival__question : Stmt := (inClass (top 15) 6)
abbrev N_Arrival__question : List Str := ["self", "answer", "contents", "_", "mark", "mine", "troubles", "here"]
abbrev P_Arrival__question : List Str := ["self", "answer"]
theorem sc_Arrival__question : FnScope N_Arrival__question P_Arrival__question (defScope s_Arrival__question) := ⟨rfl, rfl, rfl, by decide +kernel, rfl, by decide +kernel, by decide +kernel⟩
theorem I_Quest (W : Cw fas fns K mg) (Dis_needless : DefOk P w K mg base CX0 1 "is_needless" P_is_needless (spNeedless K)) :
    ∃ fd, FnOk P w K mg base CX0 2 (He.ma K (He.ga K "Arrival") "_question") fd ["self", "answer"] (spQuest K) ∧ Binds K fd ["self", "answer"] [] := by
  obtain ⟨fd, F⟩ := W.says.def_ 9 (d := d_Arrival__question) rfl
  refine ⟨fd, FunD.ok F sc_Arrival__question (fun vs H Q E h => ?_) (fun cdv A outer s H vs Q E hr h => ?_), FunD.bindsN F (fun _ _ _ _ _ _ us hl => match us, hl with | [_, _], _ => rfl)⟩
  · obtain ⟨x, reply, ns, ps, ls, s, new, ren, l, rfl, _⟩ := h
    rfl
  · obtain ⟨x, reply, ns, ps, ls, fs, new, ren, l, rfl, ⟨dx, y, vst, a, vl, hx, hp, dst, ea, dl⟩, lcs, hnew, k⟩ := h
    refine ⟨_, PSs.nox (Evl.pss_cut (ps_asg (pe_fld (pv 0) rfl) (pg_tup (by rfl) (pgs_cons (pg_name (i := 2) sc_Arrival__question.nd rfl (by first | exact Or.inl rfl | exact Or.inr rfl)) (pgs_cons (pg_name (i := 3) sc_Arrival__question.nd rfl (by first | exact Or.inl rfl | exact Or.inr rfl)) (pgs_cons (pg_name (i := 4) sc_Arrival__question.nd rfl (by first | exact Or.inl rfl | exact Or.inr rfl)) (pgs_cons (pg_name (i := 5) sc_Arrival__question.nd rfl (by first | exact Or.inl rfl | exact Or.inr rfl)) (pgs_cons (pg_name (i := 3) sc_Arrival__question.nd rfl (by first | exact Or.inl rfl | exact Or.inr rfl)) pgs_nil))))))) (Evl.pss_cut (ps_if (pt_cmpR op_eq (pe_callB call_len_seq (by rfl) (W.fre 70) (by decide +kernel) (pa_cons (pe_fld (pv 0) rfl) pa_nil)) pe_int (nomark _)) (pss_one (ps_ret (pe_tup (pa_cons (pe_lst pa_nil) (pa_cons (pv 4) (pa_cons (pv 5) pa_nil)))))) pss_nil) (Evl.pss_cut (ps_set (i := 6) sc_Arrival__question.nd rfl (by first | exact Or.inl rfl | exact Or.inr rfl) (pe_ifExp (pt_val (SM.pe_callD Dis_needless (hr.mono (by decide)) pass0 (pa_cons (pe_fld (pv 0) rfl) (pa_cons (pe_ix ix_seq (pe_fld (pv 0) rfl) (pe_un un_neg pe_int) (fun _ _ => rfl)) pa_nil)))) (pe_lst (pa_cons pe_str pa_nil)) (pe_lst pa_nil))) (Evl.pss_cut (ps_set (i := 7) sc_Arrival__question.nd rfl (by first | exact Or.inl rfl | exact Or.inr rfl) (pe_ix ix_seq (pv 2) pe_int (fun _ _ => rfl))) (Evl.pss_cut (ps_if (PW.pt (pw_and (pt_cmpR op_eq (pv 1) pe_str (nomark _)) (pw_and1 (pt_cmpR op_eq (pv 4) pe_str (nomark _))))) (pss_one (ps_ret (pe_tup (pa_cons (pv 6) (pa_cons pe_str (pa_cons pe_non pa_nil)))))) pss_nil) (Evl.pss_cut (ps_if (PW.pt (pw_and (pt_cmpR op_eq (pv 1) pe_str (nomark _)) (pw_and1 (pt_cmpR op_ne (pv 4) pe_str (nomark _))))) (pss_one (ps_ret (pe_tup (pa_cons (pv 6) (pa_cons pe_str (pa_cons (pv 7) pa_nil)))))) pss_nil) (pss_one (ps_ret (pe_tup (pa_cons (pv 6) (pa_cons (pv 4) (pa_cons (pv 5) pa_nil)))))))))))), ?_⟩
    have CA : Cls K (He.ga K "Arrival") := He.cls_ok (W.fact 106)
    have N2 : NoAttr K (He.ga K "Arrival") "_state" := He.noat_ok (W.fact 108)
    have N3 : NoAttr K (He.ga K "Arrival") "_held" := He.noat_ok (W.fact 109)
    have N5 : NoAttr K (He.ga K "Arrival") "_lists" := He.noat_ok (W.fact 111)
    have dst0 := dst
    obtain ⟨b, us, rfl, sq, dus⟩ := dst.items
    cases dus with
    | @cons u0 _ _ _ d0 dus =>
    cases dus with
    | @cons u1 _ _ _ d1 dus =>
    cases dus with
    | @cons u2 _ _ _ d2 dus =>
    cases dus with
    | @cons u3 _ _ _ d3 dus =>
    cases dus with
    | @cons u4 _ _ _ d4 dus =>
    cases dus
    obtain ⟨ca, cs, rfl, sqc, dcs⟩ := d0.items
    obtain rfl := cV_of dcs
    obtain rfl := cD_cV d1
    cases d2
    obtain rfl := cD_cV d3
    cases d4
    obtain ⟨c, cl, rfl, sc, dcl⟩ := dl.items
    have lcl : cl.length = (listsOf l).length := by rw [dcl.length, List.length_map]
    let T : Option V → Option V → L2.St := fun x6 x7 => [some (.ref x), some (cV reply), some (.ref ca), some (.bl fs.amid), some (.str fs.mark), some (cV fs.mine), x6, x7]
    have fld : ∀ {σ : L2.St} {H1 : Hp} {Q : VK} {v : V} {f : Str}, NoAttr K (He.ga K "Arrival") f → (arrFs y (.ref b) a (taken (posOf ns) (heldOf (posOf ns) fs new ren) ls) (.ref c)).lookup f = some v → σ[0]? = some (some (.ref x)) → Keep [] H H1 → Q v H1 → tFld K (tVar 0) f σ H1 Q := fun n e e0 k1 q => ⟨_, e0, x, _, dx, _, _, rfl, k1.to hx, CA, n, e, q⟩
    -- the answer: a list of words, a mark, mine
    have out : ∀ (σ : L2.St) (H1 : Hp) (i : Nat) (p : Addr) (te1 te2 : TE) (mk : Str) (mi : Cn), σ[i]? = some (some (.ref p)) → H p = none → Keep [] H H1 → H1 p = some (.lst ((questionS fs new l.keep.isSome reply).1.map V.str)) →
        mk = (questionS fs new l.keep.isSome reply).2.1 → mi = (questionS fs new l.keep.isSome reply).2.2 → (∀ Q : VK, Q (.str mk) H1 → te1 σ H1 Q) → (∀ Q : VK, Q (cV mi) H1 → te2 σ H1 Q) → tTup (tCons (tVar i) (tCons te1 (tCons te2 tNil))) σ H1 Q := by
      intro σ H1 i p te1 te2 mk mi hi np k1 ep e1 e2 t1 t2
      subst e1 e2
      refine ⟨_, hi, t1 _ (t2 _ ⟨(by show 3 ≤ sizeLine; decide), fun t ht => ?_⟩)⟩
      exact k p t _ np (k1.trans (Keep.new ht)) ((Keep.new (m := []) ht).to ep) (SqT.of upd_same)
    refine ⟨fun σ' H' => σ' = T none none ∧ H' = H, fld N2 rfl rfl Keep.refl ⟨b, _, rfl, sq, rfl, _, _, rfl, _, _, rfl, _, _, rfl, _, _, rfl, _, _, rfl, rfl, rfl, rfl⟩, ?_⟩
    rintro σ' H1 ⟨rfl, rfl⟩
    refine ⟨fun σ' H' => σ' = T none none ∧ H' = H1 ∧ l.keep.isSome = true, ?_, ?_⟩
    · refine rx_if (rx_tTest (rx_op (rx_cb1 (fld N5 rfl rfl Keep.refl ⟨c, cl, rfl, .inr sc, rfl, _, rfl, ?_⟩))))
      refine ite2 (fun e => ?_) (fun e => ⟨rfl, rfl, ?_⟩)
      · have e1 : ((listsOf l).length : Int) = 1 := by rw [← lcl]; exact V.int.inj (of_decide_eq_true e)
        have e2 := keep_some.mp e1
        refine ⟨(by show 0 ≤ sizeLine; decide), fun p np => ?_⟩
        refine ⟨_, rfl, _, rfl, (by show 3 ≤ sizeLine; decide), fun t ht => ?_⟩
        have q0 : questionS fs new l.keep.isSome reply = (([] : List Str), fs.mark, fs.mine) := if_pos e2
        rw [q0] at k
        exact k p t _ np ((Keep.new np).trans (Keep.new ht)) ((Keep.new (m := []) ht).to upd_same) (SqT.of upd_same)
      · cases c : l.keep.isSome with
        | true => rfl
        | false =>
          refine absurd ?_ e
          rw [lcl, keep_some.mpr c]
          rfl
    rintro σ' H2 ⟨rfl, rfl, ks⟩
    let w : List Str := if needlessS fs new then ["needless"] else []
    refine ⟨fun σ' H' => ∃ p, σ' = T (some (.ref p)) none ∧ H2 p = none ∧ Keep [] H2 H' ∧ H' p = some (.lst (w.map V.str)), ?_, ?_⟩
    · refine rx_ife (rx_tTest (rx_call (rx_cons (fld N2 rfl rfl Keep.refl (rx_cons (rx_op (fld N3 rfl rfl Keep.refl ⟨2, rfl, ?_⟩)))))))
      refine .inl ⟨a, _, -2, _, rfl, rfl, SqL.of ea, atC_end (m := ns.length + 1) (by rw [heldOf_len, lcs]), ?_⟩
      rw [hnew]
      refine ⟨_, fs, new, rfl, dst0, by omega, _, rfl, ?_⟩
      refine ite2 (fun e => ?_) (fun e => ?_)
      · have ew : w = (["needless"] : List Str) := if_pos e
        exact ⟨(by show 1 ≤ sizeLine; decide), fun p np => ⟨p, rfl, np, Keep.new np, by rw [ew]; exact upd_same⟩⟩
      · have ew : w = ([] : List Str) := if_neg e
        exact ⟨(by show 0 ≤ sizeLine; decide), fun p np => ⟨p, rfl, np, Keep.new np, by rw [ew]; exact upd_same⟩⟩
    rintro σ' H3 ⟨p, rfl, np, k3, ep⟩
    obtain ⟨c0, cr, ecs⟩ : ∃ c0 cr, fs.cs = c0 :: cr := by
      cases e : fs.cs with
      | nil => rw [e] at lcs; simp at lcs
      | cons c0 cr => exact ⟨c0, cr, rfl⟩
    have e0 : atC fs.cs 0 = c0 := by rw [ecs]; rfl
    have ac : atI (fs.cs.map cV) 0 = some (cV c0) := by rw [ecs, List.map_cons]; simp [atI, ixN]
    refine ⟨fun σ' H' => σ' = T (some (.ref p)) (some (cV c0)) ∧ H' = H3, ⟨_, rfl, .inr (.inl ⟨ca, _, 0, _, rfl, rfl, seqT_keep k3 Soft.nil sqc, ac, rfl, rfl⟩)⟩, ?_⟩
    rintro σ' H4 ⟨rfl, rfl⟩
    have qs : questionS fs new l.keep.isSome reply = if reply = some "take" ∧ fs.mark = "own" then (w, ("free" : Str), (none : Cn)) else if reply = some "keep" ∧ fs.mark ≠ "own" then (w, ("own" : Str), atC fs.cs 0) else (w, fs.mark, fs.mine) := by
      rw [ks]
      exact if_neg (by decide)
    have vn : ∀ {σ : L2.St} {H1 : Hp} {i : Nat} {v : V}, σ[i]? = some (some v) → ∀ Q : VK, Q v H1 → tVar i σ H1 Q := fun h Q q => ⟨_, h, q⟩
    refine ⟨fun σ' H' => σ' = T (some (.ref p)) (some (cV c0)) ∧ H' = H4 ∧ ¬ (reply = some "take" ∧ fs.mark = "own"), ?_, ?_⟩
    · refine rx_if (rx_and (rx_tTest ⟨_, rfl, by cases reply <;> rfl, _, rfl, ?_⟩))
      rw [show decide (cV reply = .str "take") = decide (reply = some "take") from dec_cn reply (some "take")]
      refine ite2 (fun e => ?_) (fun e => iteF ⟨rfl, rfl, fun z => e (decide_eq_true z.1)⟩)
      refine rx_tTest ⟨_, rfl, rfl, _, rfl, ?_⟩
      rw [dec_str]
      refine ite2 (fun e1 => ?_) (fun e1 => ⟨rfl, rfl, fun z => e1 (decide_eq_true z.2)⟩)
      have ee := qs.trans (if_pos ⟨of_decide_eq_true e, of_decide_eq_true e1⟩)
      exact out _ _ 6 p (tC (.str "free")) (tC .non) "free" none rfl np k3 (by rw [ee]; exact ep) (by rw [ee]) (by rw [ee]) (fun Q q => q) (fun Q q => q)
    rintro σ' H5 ⟨rfl, rfl, no1⟩
    rw [if_neg no1] at qs
    refine ⟨fun σ' H' => σ' = T (some (.ref p)) (some (cV c0)) ∧ H' = H5 ∧ ¬ (reply = some "keep" ∧ fs.mark ≠ "own"), ?_, ?_⟩
    · refine rx_if (rx_and (rx_tTest ⟨_, rfl, by cases reply <;> rfl, _, rfl, ?_⟩))
      rw [show decide (cV reply = .str "keep") = decide (reply = some "keep") from dec_cn reply (some "keep")]
      refine ite2 (fun e => ?_) (fun e => iteF ⟨rfl, rfl, fun z => e (decide_eq_true z.1)⟩)
      refine rx_tTest ⟨_, rfl, rfl, _, rfl, ?_⟩
      rw [dec_str]
      by_cases em : fs.mark = "own"
      · rw [decide_eq_true em]
        exact iteF ⟨rfl, rfl, fun z => z.2 em⟩
      · rw [decide_eq_false em]
        have ee := qs.trans (if_pos ⟨of_decide_eq_true e, em⟩)
        exact iteT (out _ _ 6 p (tC (.str "own")) (tVar 7) "own" c0 rfl np k3 (by rw [ee]; exact ep) (by rw [ee]) (by rw [ee, e0]) (fun Q q => q) (vn rfl))
    rintro σ' H6 ⟨rfl, rfl, no2⟩
    have ee := qs.trans (if_neg no2)
    exact out _ _ 6 p (tVar 4) (tVar 5) fs.mark fs.mine rfl np k3 (by rw [ee]; exact ep) (by rw [ee]) (by rw [ee]) (vn rfl) (vn rfl)
end
end La
set_option Elab.async false
set_option linter.all false
set_option maxRecDepth 100000
set_option maxHeartbeats 4000000
namespace La
open PySem PySem.Spec PyProof.Rows L2 SM
theorem heldOf_ok {f : Str → Nat} {s : Fs} {new : Cn} {ren : Bool} (h : ∀ c ∈ s.cs, okC c) (hn : okC new) : ∀ c ∈ heldOf f s new ren, okC c := by
  have b : ∀ c ∈ s.cs ++ [new, none], okC c := fun c hc => by
    rcases List.mem_append.mp hc with z | z
    · exact h c z
    · simp only [List.mem_cons, List.not_mem_nil, or_false] at z
      rcases z with rfl | rfl
      · exact hn
      · exact okC_none
  unfold heldOf
  split
  · intro c hc
    rcases List.mem_or_eq_of_mem_set hc with z | rfl
    · rcases List.mem_or_eq_of_mem_set z with z | rfl
      · exact b c z
      · exact atC_ok h 0
    · exact okC_none
  · exact b
theorem doSteps_ok {f : Str → Nat} : ∀ {ss : List (Str × Str)} {h : List Cn}, (∀ c ∈ h, okC c) → ∀ c ∈ doSteps f h ss, okC c
  | [], _, ok => ok
  | s :: ss, h, ok => by
    rw [doSteps, List.foldl_cons]
    refine doSteps_ok (ss := ss) fun c hc => ?_
    rcases List.mem_or_eq_of_mem_set hc with z | rfl
    · exact ok c z
    · exact atC_ok ok _
theorem pos_low {ns : List Str} {x : Str} (h : x = "here" ∨ x ∈ ns) : posOf ns x < ns.length + 1 := by
  have m : x ∈ (["here"] : List Str) ++ ns := by
    rcases h with h | h
    · rw [h]; simp
    · exact List.mem_append_right _ h
  rw [posOf, planWordsOf, List.idxOf_append, if_pos m]
  have := List.idxOf_lt_length_of_mem m
  rw [List.length_append] at this
  simpa [Nat.add_comm] using this
theorem atC_set_ne {h : List Cn} {i j : Nat} {c : Cn} (n : i ≠ j) : atC (h.set i c) j = atC h j := by
  rw [atC, atC, List.getElem?_set_ne n]
theorem atC_set_eq {h : List Cn} {i : Nat} {c : Cn} (l : i < h.length) : atC (h.set i c) i = c := by
  rw [atC, List.getElem?_set_self l]
  rfl
theorem held_new {ns : List Str} {s : Fs} {new : Cn} {ren : Bool} (l : s.cs.length = ns.length + 1) (el : ren = true → ("elder" : Str) ∈ ns) : atC (heldOf (posOf ns) s new ren) (ns.length + 1) = new := by
  have b : atC (s.cs ++ [new, none]) (ns.length + 1) = new := by
    rw [atC, List.getElem?_append_right (by omega), l, Nat.sub_self]
    rfl
  unfold heldOf
  split
  · rename_i e
    have := pos_low (.inr (el e))
    rw [atC_set_ne (by omega), atC_set_ne (by omega), b]
  · exact b
theorem steps_new {ns : List Str} : ∀ {ss : List (Str × Str)} {h : List Cn}, (∀ s ∈ ss, GoodS ns s) → atC (doSteps (posOf ns) h ss) (ns.length + 1) = atC h (ns.length + 1)
  | [], _, _ => rfl
  | s :: ss, h, g => by
    rw [doSteps, List.foldl_cons]
    have := pos_low (g s List.mem_cons_self).1
    exact (steps_new (ss := ss) fun z hz => g z (List.mem_cons_of_mem _ hz)).trans (atC_set_ne (by omega))
theorem GoodL.list {ns : List Str} {l : Ln} (h : GoodL ns l) (reply : Option Str) : (listFor l reply).length ≤ 4 ∧ ∀ s ∈ listFor l reply, GoodS ns s := by
  unfold listFor
  cases e : l.keep with
  | none => exact h.steps
  | some k =>
    show (if reply = some "keep" then k else l.steps).length ≤ 4 ∧ _
    split
    · exact h.keep k e
    · exact h.steps
theorem harmS_len (sp : List Nat) (h : List Cn) (m : Cn) : (harmS sp h m).length ≤ 1 := by
  unfold harmS
  split
  · split <;> decide
  · split <;> decide
theorem questS_len (s : Fs) (new : Cn) (a : Bool) (r : Option Str) : (questionS s new a r).1.length ≤ 1 := by
  unfold questionS
  split
  · exact Nat.zero_le _
  · show (if _ then (_, _, _) else if _ then (_, _, _) else (_, _, _) : List Str × Str × Cn).1.length ≤ 1
    split
    · show (if _ then _ else _ : List Str).length ≤ 1
      split <;> decide
    · split
      · show (if _ then _ else _ : List Str).length ≤ 1
        split <;> decide
      · show (if _ then _ else _ : List Str).length ≤ 1
        split <;> decide
theorem remainsS_len (e : Option Nat) (h : List Cn) (new : Cn) (own : List Cn) : (remainsS e h new own).length ≤ 2 := by
  unfold remainsS
  rw [List.length_append]
  refine Nat.add_le_add (b := 1) (d := 1) ?_ ?_
  · split <;> decide
  · cases e with
    | none => exact Nat.zero_le _
    | some e => show (if _ then _ else _ : List Str).length ≤ 1; split <;> decide
theorem not_emp : ∀ l : List Str, l ≠ [] → (!l.isEmpty) = true
  | [], h => absurd rfl h
  | _ :: _, _ => rfl
theorem questS_ok {s : Fs} {new : Cn} {a : Bool} {r : Option Str} (h0 : okC (atC s.cs 0)) (hm : okC s.mine) : okC (questionS s new a r).2.2 := by
  unfold questionS
  split
  · exact hm
  · show okC (if _ then (_, _, _) else if _ then (_, _, _) else (_, _, _) : List Str × Str × Cn).2.2
    split
    · exact okC_none
    · split
      · exact h0
      · exact hm
/-- a state whose contents are as many as the rule's places, and may stand -/
structure FsOk (ns : List Str) (s : Fs) : Prop where
  len : s.cs.length = ns.length + 1
  cs : ∀ c ∈ s.cs, okC c
  last : okC s.last
  mine : okC s.mine
def spOutcome (K : PySem.W.Frag) : Sp := fun vs H Q _ => ∃ (x : Addr) (reply : Option Str) (n : Option Nat) (ns ps : List Str) (ls : List Ln) (s : Fs) (new : Cn) (ren : Bool) (l : Ln), vs = [.ref x, cV reply, nV n] ∧ ArrIs K H x ns ps ls s new ren l ∧ FsOk ns s ∧ okC new ∧ ns.length ≤ 3 ∧ ps.length ≤ 3 ∧ (∀ p ∈ ps, p ∈ ns) ∧ GoodL ns l ∧ (ren = true → ("elder" : Str) ∈ ns) ∧
  ∀ p t vt H', H p = none → Keep [] H H' → H' p = some (.lst ((outcomeS (posOf ns) (spotsOf ns ps) (elderO ns) s new ren l reply n).1.map V.str)) → Dt K H' vt (fsD (outcomeS (posOf ns) (spotsOf ns ps) (elderO ns) s new ren l reply n).2) → SqT K H' t [.ref p, vt] → Q (.ref t) H'
section
variable {P : Program} {w : World} {K : PySem.W.Frag} {mg : Str → Option Value} {base : Heap}
abbrev s_Arrival_outcome : Stmt := (inClass (top 15) 5)
abbrev N_Arrival_outcome : List Str := ["self", "answer", "stop", "plan", "last", "new", "needless", "mark", "mine", "held", "harm", "remains"]
abbrev P_Arrival_outcome : List Str := ["self", "answer", "stop"]
theorem sc_Arrival_outcome : FnScope N_Arrival_outcome P_Arrival_outcome (defScope s_Arrival_outcome) := ⟨rfl, rfl, rfl, by decide +kernel, rfl, by decide +kernel, by decide +kernel⟩
theorem I_Outcome (W : Cw fas fns K mg) (Ddone : DefOk P w K mg base CX0 1 "done" P_done (spDone K)) (Dharm_of : DefOk P w K mg base CX0 1 "harm_of" P_harm_of (spHarm K)) (Dremains_of : DefOk P w K mg base CX0 1 "remains_of" P_remains_of (spRemains K))
    (IQ : ∃ fd, FnOk P w K mg base CX0 2 (He.ma K (He.ga K "Arrival") "_question") fd ["self", "answer"] (spQuest K) ∧ Binds K fd ["self", "answer"] []) (IS : ∃ fd, FnOk P w K mg base CX0 1 (He.ma K (He.ga K "Arrival") "steps") fd ["self", "answer"] (spArrSteps K) ∧ Binds K fd ["self", "answer"] []) :
    ∃ fd, FnOk P w K mg base CX0 3 (He.ma K (He.ga K "Arrival") "outcome") fd ["self", "answer", "stop"] (spOutcome K) ∧ Binds K fd ["self", "answer", "stop"] [] := by
  obtain ⟨fd, F⟩ := W.says.def_ 8 (d := d_Arrival_outcome) rfl
  refine ⟨fd, FunD.ok F sc_Arrival_outcome (fun vs H Q E h => ?_) (fun cdv A outer s H vs Q E hr h => ?_), FunD.bindsN F (fun _ _ _ _ _ _ us hl => match us, hl with | [_, _, _], _ => rfl)⟩
  · obtain ⟨x, reply, n, ns, ps, ls, s, new, ren, l, rfl, _⟩ := h
    rfl
  · obtain ⟨x, reply, n, ns, ps, ls, fs, new, ren, l, rfl, har, fok, okn, n3, p3, pin, gl, el, k⟩ := h
    have CA : Cls K (He.ga K "Arrival") := He.cls_ok (W.fact 106)
    have MQ := He.meth_ok (W.fact 115)
    have MS := He.meth_ok (W.fact 113)
    obtain ⟨fdQ, FQ, bQ⟩ := IQ
    obtain ⟨fdS, FS, bS⟩ := IS
    refine ⟨_, PSs.nox (Evl.pss_cut (ps_par3 (i := 3) (j := 4) (l := 5) (by rfl) sc_Arrival_outcome.nd rfl rfl rfl (by decide) (by decide) (by decide) rfl rfl rfl (pa_cons (pe_fld (pv 0) rfl) (pa_cons (pe_ix ix_seq (pe_fld (pv 0) rfl) pe_int (fun _ _ => rfl)) (pa_cons (pe_ix ix_seq (pe_fld (pv 0) rfl) (pe_un un_neg pe_int) (fun _ _ => rfl)) pa_nil))) (by rfl)) (Evl.pss_cut (ps_asg (pe_meth (pv 0) CA MQ FQ (hr.mono (by decide)) bQ .nil pass0 (pa_cons (pv 1) pa_nil)) (pg_tup (by rfl) (pgs_cons (pg_name (i := 6) sc_Arrival_outcome.nd rfl (by first | exact Or.inl rfl | exact Or.inr rfl)) (pgs_cons (pg_name (i := 7) sc_Arrival_outcome.nd rfl (by first | exact Or.inl rfl | exact Or.inr rfl)) (pgs_cons (pg_name (i := 8) sc_Arrival_outcome.nd rfl (by first | exact Or.inl rfl | exact Or.inr rfl)) pgs_nil))))) (Evl.pss_cut (ps_set (i := 9) sc_Arrival_outcome.nd rfl (by first | exact Or.inl rfl | exact Or.inr rfl) (SM.pe_callD Ddone (hr.mono (by decide)) pass0 (pa_cons (pe_fld (pv 0) rfl) (pa_cons (pe_meth (pv 0) CA MS FS (hr.mono (by decide)) bS .nil pass0 (pa_cons (pv 1) pa_nil)) (pa_cons (pv 2) pa_nil))))) (Evl.pss_cut (ps_set (i := 10) sc_Arrival_outcome.nd rfl (by first | exact Or.inl rfl | exact Or.inr rfl) (pe_ifExp (pt_cmpR op_eq (pv 7) pe_str (nomark _)) (SM.pe_callD Dharm_of (hr.mono (by decide)) pass0 (pa_cons (pv 3) (pa_cons (pv 9) (pa_cons (pv 8) pa_nil)))) (pe_lst pa_nil))) (Evl.pss_cut (ps_if (pt_truth (pv 10) (by intro _; rfl)) (pss_one (ps_asg (pe_tup (pa_cons pe_str (pa_cons pe_non pa_nil))) (pg_tup (by rfl) (pgs_cons (pg_name (i := 7) sc_Arrival_outcome.nd rfl (by first | exact Or.inl rfl | exact Or.inr rfl)) (pgs_cons (pg_name (i := 8) sc_Arrival_outcome.nd rfl (by first | exact Or.inl rfl | exact Or.inr rfl)) pgs_nil))))) pss_nil) (Evl.pss_cut (ps_set (i := 11) sc_Arrival_outcome.nd rfl (by first | exact Or.inl rfl | exact Or.inr rfl) (pe_lst pa_nil)) (Evl.pss_cut (ps_if (pt_cmpR op_isN (pv 2) pe_non (nomark _)) (Evl.pss_cut (ps_set (i := 4) sc_Arrival_outcome.nd rfl (by first | exact Or.inl rfl | exact Or.inr rfl) (pv 5)) (Evl.pss_cut (ps_if (PW.pt (pw_or (pt_cmpR op_eq (pv 7) pe_str (nomark _)) (pw_or1 (PW.pt (pw_and (pt_cmpR op_eq (pv 7) pe_str (nomark _)) (pw_and1 (pt_cmpR op_eq (pv 8) (pv 5) (nomark _)))))))) (pss_one (ps_asg (pe_tup (pa_cons pe_str (pa_cons pe_non pa_nil))) (pg_tup (by rfl) (pgs_cons (pg_name (i := 7) sc_Arrival_outcome.nd rfl (by first | exact Or.inl rfl | exact Or.inr rfl)) (pgs_cons (pg_name (i := 8) sc_Arrival_outcome.nd rfl (by first | exact Or.inl rfl | exact Or.inr rfl)) pgs_nil))))) pss_nil) (pss_one (ps_set (i := 11) sc_Arrival_outcome.nd rfl (by first | exact Or.inl rfl | exact Or.inr rfl) (SM.pe_callD Dremains_of (hr.mono (by decide)) pass0 (pa_cons (pv 3) (pa_cons (pv 9) (pa_cons (pe_ifExp (pt_cmpR op_eq (pv 7) pe_str (nomark _)) (pe_tup (pa_cons (pv 8) pa_nil)) (pe_tup pa_nil)) pa_nil)))))))) pss_nil) (pss_one (ps_ret (pe_tup (pa_cons (pe_op op_cat (pe_op op_cat (pv 6) (pv 10)) (pv 11)) (pa_cons (pe_tup (pa_cons (pe_callTy call_tuple_of (by rfl) (W.fre 79) (by decide +kernel) (pa_cons (pe_slice sl_list (pv 9) po_none (po_some (pe_un un_neg pe_int))) pa_nil)) (pa_cons (pv 4) (pa_cons (pv 7) (pa_cons (pv 8) (pa_cons (pe_cmpR op_notN (pv 2) pe_non (nomark _)) pa_nil)))))) pa_nil)))))))))))), ?_⟩
    have N1 : NoAttr K (He.ga K "Arrival") "_plan" := He.noat_ok (W.fact 107)
    have N2 : NoAttr K (He.ga K "Arrival") "_state" := He.noat_ok (W.fact 108)
    have N3 : NoAttr K (He.ga K "Arrival") "_held" := He.noat_ok (W.fact 109)
    have har0 := har
    obtain ⟨dx, y, vst, a, vl, hx, hp, dst, ea, dl⟩ := har
    let f := posOf ns
    let sp := spotsOf ns ps
    let held := heldOf f fs new ren
    let ss := listFor l reply
    let h := doSteps f held (takeO n ss)
    let q := questionS fs new l.keep.isSome reply
    let hm : List Str := if q.2.1 = "own" then harmS sp h q.2.2 else []
    let m2 : Str × Cn := if hm = [] then (q.2.1, q.2.2) else ("none", none)
    have lheld : held.length = ns.length + 1 + 2 := by rw [show held.length = _ from heldOf_len .., fok.len]
    have lh : h.length = ns.length + 1 + 2 := by rw [show h.length = _ from doSteps_len .., lheld]
    have heldok : ∀ c ∈ held, okC c := heldOf_ok fok.cs okn
    have hok : ∀ c ∈ h, okC c := doSteps_ok heldok
    have gls := GoodL.list gl reply
    have hnew0 : atC held (ns.length + 1) = new := held_new fok.len el
    have hnew : atC h (ns.length + 1) = new := (steps_new fun s hs => gls.2 s (takeO_mem hs)).trans hnew0
    have qok : okC q.2.2 := questS_ok (atC_ok fok.cs 0) fok.mine
    have hp0 := hp
    have fld : ∀ {σ : L2.St} {H1 : Hp} {Q : VK} {v : V} {f : Str}, NoAttr K (He.ga K "Arrival") f → (arrFs y vst a (taken (posOf ns) (heldOf (posOf ns) fs new ren) ls) vl).lookup f = some v → σ[0]? = some (some (.ref x)) → Keep [] H H1 → Q v H1 → tFld K (tVar 0) f σ H1 Q := fun n e e0 k1 q => ⟨_, e0, x, _, dx, _, _, rfl, k1.to hx, CA, n, e, q⟩
    let T : Cn → Option V → Option V → Option V → Option V → Option V → Option V → L2.St := fun la g6 g7 g8 g9 g10 g11 => [some (.ref x), some (cV reply), some (nV n), some (.ref y), some (cV la), some (cV new), g6, g7, g8, g9, g10, g11]
    -- plan, last, new
    refine ⟨fun σ' H' => σ' = T fs.last none none none none none none ∧ H' = H, ?_, ?_⟩
    · refine rx_cons (fld N1 rfl rfl Keep.refl (rx_cons (rx_op (fld N2 rfl rfl Keep.refl ?_))))
      obtain ⟨b, us, rfl, sq, dus⟩ := dst.items
      cases dus with
      | @cons u0 _ _ _ d0 dus =>
      cases dus with
      | @cons u1 _ _ _ d1 dus =>
      refine .inr (.inl ⟨b, _, 1, _, rfl, rfl, sq, at1 _ _ _, rx_cons (rx_op (fld N3 rfl rfl Keep.refl ⟨2, rfl, .inl ⟨a, _, -2, _, rfl, rfl, SqL.of ea, atC_end (m := ns.length + 1) lheld, ?_⟩⟩))⟩)
      refine ⟨_, _, _, rfl, ?_⟩
      rw [cD_cV d1, hnew0]
      exact ⟨rfl, rfl⟩
    rintro σ' H1 ⟨rfl, rfl⟩
    -- the question
    refine ⟨fun σ' H' => ∃ p1, σ' = T fs.last (some (.ref p1)) (some (.str q.2.1)) (some (cV q.2.2)) none none none ∧ Keep [] H1 H' ∧ H' p1 = some (.lst (q.1.map V.str)), ?_, ?_⟩
    · refine ⟨_, rfl, x, dx, _, rfl, hx, rfl, _, rfl, x, reply, ns, ps, ls, fs, new, ren, l, rfl, har0, fok.len, hnew0, fun p t H' np k1 ep st => ?_⟩
      exact ⟨t, _, rfl, st, rfl, _, _, rfl, _, _, rfl, _, _, rfl, rfl, p, rfl, k1, ep⟩
    rintro σ' H2 ⟨p1, rfl, k2, ep1⟩
    -- held
    refine ⟨fun σ' H' => ∃ p9, σ' = T fs.last (some (.ref p1)) (some (.str q.2.1)) (some (cV q.2.2)) (some (.ref p9)) none none ∧ Keep [] H2 H' ∧ H' p9 = some (.lst (h.map cV)), ?_, ?_⟩
    · refine rx_call (rx_cons (fld N3 rfl rfl k2 (rx_cons ?_)))
      refine ⟨_, rfl, x, dx, _, rfl, k2.to hx, rfl, _, rfl, x, reply, ns, ps, ls, fs, new, ren, l, rfl, ArrIs.k0 har0 k2, fun v dv => ?_⟩
      refine ⟨_, rfl, a, held, v, f, ss, n, rfl, k2.to ea, by omega, dv, gls.1, fun s hs => ?_, fun p H' np k' ep => ⟨p, rfl, k', ep⟩⟩
      have := GoodS.okS (gls.2 s hs)
      rw [lheld]
      exact this
    rintro σ' H3 ⟨p9, rfl, k3, ep9⟩
    have k13 := k2.trans k3
    -- harm
    refine ⟨fun σ' H' => ∃ p10, σ' = T fs.last (some (.ref p1)) (some (.str q.2.1)) (some (cV q.2.2)) (some (.ref p9)) (some (.ref p10)) none ∧ Keep [] H3 H' ∧ H' p10 = some (.lst (hm.map V.str)), ?_, ?_⟩
    · refine rx_ife (rx_tTest (rx_op ⟨_, rfl, rfl, _, rfl, ?_⟩))
      rw [dec_str]
      refine ite2 (fun e => ?_) (fun e => ?_)
      · have ehm : hm = harmS sp h q.2.2 := if_pos (of_decide_eq_true e)
        refine rx_call ⟨_, rfl, _, rfl, _, rfl, y, p9, h, q.2.2, ns, ps, ls, rfl, hp0.k0 k13, ep9, by omega, p3, hok, qok, fun i hi => ?_, fun p H' np k' ep => ⟨p, rfl, k', by rw [ehm]; exact ep⟩⟩
        obtain ⟨z, hz, rfl⟩ := List.mem_map.mp hi
        have := pos_lt (ns := ns) (x := z) (words_in (by
          rcases List.mem_cons.mp hz with e | e
          · exact .inl e
          · exact .inr (.inr (.inr (pin z e)))))
        omega
      · have ehm : hm = [] := if_neg (fun z => e (decide_eq_true z))
        exact ⟨(by show 0 ≤ sizeLine; decide), fun p np => ⟨p, rfl, Keep.new np, by rw [ehm]; exact upd_same⟩⟩
    rintro σ' H4 ⟨p10, rfl, k4, ep10⟩
    -- what becomes of the mark
    refine ⟨fun σ' H' => σ' = T fs.last (some (.ref p1)) (some (.str m2.1)) (some (cV m2.2)) (some (.ref p9)) (some (.ref p10)) none ∧ Keep [] H4 H', ?_, ?_⟩
    · refine rx_if ⟨_, rfl, _, .inl ⟨_, SqL.of ep10, rfl⟩, ?_⟩
      rw [show (hm.map V.str).isEmpty = hm.isEmpty by cases hm <;> rfl]
      by_cases e : hm = []
      · rw [show m2 = (q.2.1, q.2.2) from if_pos e, e]
        exact iteF ⟨rfl, Keep.refl⟩
      · rw [show m2 = (("none" : Str), (none : Cn)) from if_neg e, not_emp hm e]
        refine iteT (rx_asg (rx_tup ⟨(by show 2 ≤ sizeLine; decide), fun t ht => ?_⟩))
        exact ⟨t, _, rfl, SqT.of upd_same, rfl, _, _, rfl, _, _, rfl, rfl, rfl, Keep.new ht⟩
    rintro σ' H5 ⟨rfl, k5⟩
    refine ⟨fun σ' H' => ∃ p11, σ' = T fs.last (some (.ref p1)) (some (.str m2.1)) (some (cV m2.2)) (some (.ref p9)) (some (.ref p10)) (some (.ref p11)) ∧ Keep [] H5 H' ∧ H' p11 = some (.lst []), ⟨(by show 0 ≤ sizeLine; decide), fun p np => ⟨p, rfl, Keep.new np, upd_same⟩⟩, ?_⟩
    rintro σ' H6 ⟨p11, rfl, k6, ep11⟩
    have k36 := k4.trans (k5.trans k6)
    have k16 := k13.trans k36
    -- behind a whole upgrade
    let m3 : Str × Cn := if m2.1 = "free" ∨ (m2.1 = "own" ∧ m2.2 = new) then ("none", none) else m2
    let own : List Cn := if m3.1 = "own" then [m3.2] else []
    let R : Cn × (Str × Cn) × List Str := match n with | none => (new, m3, remainsS (elderO ns) h new own) | some _ => (fs.last, m2, [])
    have hR : outcomeS f sp (elderO ns) fs new ren l reply n = (q.1 ++ hm ++ R.2.2, ⟨h.take (ns.length + 1), R.1, R.2.1.1, R.2.1.2, n.isSome⟩) := by
      have lt : h.length - 2 = ns.length + 1 := by omega
      rw [← lt]
      cases n with
      | some n =>
        rw [show R.2.2 = [] from rfl, List.append_nil]
        rfl
      | none => rfl
    have m2ok : okC m2.2 := by
      show okC (if hm = [] then (q.2.1, q.2.2) else (("none" : Str), (none : Cn)) : Str × Cn).2
      split
      · exact qok
      · exact okC_none
    have m3ok : okC m3.2 := by
      show okC (if m2.1 = "free" ∨ (m2.1 = "own" ∧ m2.2 = new) then (("none" : Str), (none : Cn)) else m2 : Str × Cn).2
      split
      · exact okC_none
      · exact m2ok
    refine ⟨fun σ' H' => ∃ p11, σ' = T R.1 (some (.ref p1)) (some (.str R.2.1.1)) (some (cV R.2.1.2)) (some (.ref p9)) (some (.ref p10)) (some (.ref p11)) ∧ Keep [] H6 H' ∧ H' p11 = some (.lst (R.2.2.map V.str)), ?_, ?_⟩
    · refine rx_if (rx_tTest (rx_op ⟨_, rfl, rfl, _, rfl, ?_⟩))
      cases n with
      | some n0 => exact iteF ⟨p11, rfl, Keep.refl, ep11⟩
      | none =>
        refine iteT ?_
        refine ⟨fun σ' H' => σ' = T new (some (.ref p1)) (some (.str m2.1)) (some (cV m2.2)) (some (.ref p9)) (some (.ref p10)) (some (.ref p11)) ∧ H' = H6, ⟨_, rfl, rfl, rfl⟩, ?_⟩
        rintro σ' H7 ⟨rfl, rfl⟩
        refine ⟨fun σ' H' => σ' = T new (some (.ref p1)) (some (.str m3.1)) (some (cV m3.2)) (some (.ref p9)) (some (.ref p10)) (some (.ref p11)) ∧ Keep [] H7 H', ?_, ?_⟩
        · have yes : (m2.1 = "free" ∨ (m2.1 = "own" ∧ m2.2 = new)) → ∀ H8, H8 = H7 → tAsg (tTup (tCons (tC (.str "none")) (tCons (tC .non) tNil))) (gTup K 2 (gCons (gName 7) (gCons (gName 8) gNil))) { nx := fun σ' H' => σ' = T new (some (.ref p1)) (some (.str m3.1)) (some (cV m3.2)) (some (.ref p9)) (some (.ref p10)) (some (.ref p11)) ∧ Keep [] H7 H', rt := Q } (T new (some (.ref p1)) (some (.str m2.1)) (some (cV m2.2)) (some (.ref p9)) (some (.ref p10)) (some (.ref p11))) H8 := by
            rintro e H8 rfl
            rw [show m3 = (("none" : Str), (none : Cn)) from if_pos e]
            refine rx_asg (rx_tup ⟨(by show 2 ≤ sizeLine; decide), fun t ht => ?_⟩)
            exact ⟨t, _, rfl, SqT.of upd_same, rfl, _, _, rfl, _, _, rfl, rfl, rfl, Keep.new ht⟩
          refine rx_if (rx_or (rx_tTest (rx_op ⟨_, rfl, rfl, _, rfl, ?_⟩)))
          rw [dec_str]
          refine ite2 (fun e => iteT (yes (.inl (of_decide_eq_true e)) _ rfl)) (fun e => ?_)
          refine rx_and (rx_tTest (rx_op ⟨_, rfl, rfl, _, rfl, ?_⟩))
          rw [dec_str]
          refine ite2 (fun e1 => ?_) (fun e1 => ?_)
          · refine rx_tTest (rx_op ⟨_, rfl, _, rfl, fl_cn _ _, _, rfl, ?_⟩)
            rw [dec_cn]
            refine ite2 (fun e2 => yes (.inr ⟨of_decide_eq_true e1, of_decide_eq_true e2⟩) _ rfl) (fun e2 => ?_)
            rw [show m3 = m2 from if_neg (fun z => z.elim (fun z => e (decide_eq_true z)) fun z => e2 (decide_eq_true z.2))]
            exact ⟨rfl, Keep.refl⟩
          · rw [show m3 = m2 from if_neg (fun z => z.elim (fun z => e (decide_eq_true z)) fun z => e1 (decide_eq_true z.1))]
            exact iteF ⟨rfl, Keep.refl⟩
        rintro σ' H8 ⟨rfl, k8⟩
        have k38 := k36.trans k8
        refine rx_call (rx_cons ⟨_, rfl, rx_cons ⟨_, rfl, rx_cons (rx_ife (rx_tTest (rx_op ⟨_, rfl, rfl, _, rfl, ?_⟩)))⟩⟩)
        rw [dec_str]
        have own2 : own = [m3.2] ∨ own = [] := by
          by_cases e : m3.1 = "own"
          · exact .inl (if_pos e)
          · exact .inr (if_neg e)
        have go : ∀ t H9, Keep [] H8 H9 → Dt K H9 (.ref t) (.tuple (own.map cD)) → spRemains K [.ref y, .ref p9, .ref t] H9 (fun v H' => ∃ p, T new (some (.ref p1)) (some (.str m3.1)) (some (cV m3.2)) (some (.ref p9)) (some (.ref p10)) (some v) = T new (some (.ref p1)) (some (.str m3.1)) (some (cV m3.2)) (some (.ref p9)) (some (.ref p10)) (some (.ref p)) ∧ Keep [] H7 H' ∧ H' p = some (.lst ((remainsS (elderO ns) h new own).map V.str))) E0 := by
          intro t H9 k9 dt
          have k39 := k38.trans k9
          refine ⟨y, p9, .ref t, h, ns.length + 1, own, ns, ps, ls, rfl, hp0.k0 (k13.trans k39), k39.to ep9, lh, Nat.succ_pos _, hok, fun c hc => ?_, dt, ?_, fun e he => ?_, fun p H' np k' ep => ⟨p, rfl, (k8.trans k9).trans k', by rw [hnew] at ep; exact ep⟩⟩
          · rcases own2 with e | e
            · rw [e] at hc
              rw [List.mem_singleton.mp hc]
              exact m3ok
            · rw [e] at hc
              cases hc
          · rcases own2 with e | e
            · rw [e]
              exact Nat.le_refl 1
            · rw [e]
              exact Nat.zero_le _
          · rw [elderO] at he
            split at he
            · rename_i z
              cases he
              have := pos_lt z
              omega
            · cases he
        refine ite2 (fun e => ?_) (fun e => ?_)
        · have eo : own = [m3.2] := if_pos (of_decide_eq_true e)
          refine rx_tup ⟨_, rfl, (by show 1 ≤ sizeLine; decide), fun t ht => ?_⟩
          exact go t _ (Keep.new ht) (.tup (SqT.of upd_same) (by rw [eo]; exact .cons (cV_dt _) .nil))
        · have eo : own = [] := if_neg (fun z => e (decide_eq_true z))
          refine rx_tup ⟨(by show 0 ≤ sizeLine; decide), fun t ht => ?_⟩
          exact go t _ (Keep.new ht) (.tup (SqT.of upd_same) (by rw [eo]; exact .nil))
    rintro σ' H7 ⟨p, rfl, k7, ep⟩
    -- what is told
    have k17 := k16.trans k7
    have hml : hm.length ≤ 1 := by
      show (if q.2.1 = "own" then harmS sp h q.2.2 else []).length ≤ 1
      split
      · exact harmS_len ..
      · decide
    have rl : R.2.2.length ≤ 2 := by
      cases n with
      | none => exact remainsS_len ..
      | some n => show 0 ≤ 2; decide
    have ql : q.1.length ≤ 1 := questS_len ..
    have e1 := (k3.trans (k36.trans k7)).to ep1
    have e10 := ((k5.trans k6).trans k7).to ep10
    rw [hR] at k
    refine rx_ret (rx_tup (rx_cons (rx_op (rx_op ⟨_, rfl, _, rfl, ?_⟩))))
    refine rd_cat e1 e10 (by rw [List.length_map, List.length_map]; omega) fun a1 H8 na1 k8 ea1 => ⟨_, rfl, ?_⟩
    refine rd_cat ea1 (k8.to ep) (by rw [List.length_append, List.length_map, List.length_map, List.length_map]; omega) fun a2 H9 na2 k9 ea2 => ?_
    have k79 := k8.trans k9
    refine rx_cons (rx_tup (rx_cons (rx_cb1 ⟨_, rfl, 2, rfl, -2, rfl, p9, _, rfl, SqL.of (((k36.trans k7).trans k79).to ep9), fun c hc => ?_⟩)))
    have kc : Keep [] H9 (upd H9 c (.lst (cutV (h.map cV) none (some (-2))))) := Keep.new hc
    have ecut : cutV (h.map cV) none (some (-2)) = (h.take (ns.length + 1)).map cV := by
      unfold cutV
      have : HT.sIx (h.map cV).length (h.map cV).length (some (-2)) = ns.length + 1 := by
        rw [List.length_map, lh]
        simp only [HT.sIx]
        rw [if_pos (by decide)]
        omega
      rw [this, HT.sIx_none, List.drop_zero, Nat.sub_zero, List.map_take]
    refine ⟨c, _, rfl, .inl ⟨SqL.of upd_same, fun d hd => ?_⟩⟩
    have kd : Keep [] (upd H9 c (.lst (cutV (h.map cV) none (some (-2))))) (upd (upd H9 c (.lst (cutV (h.map cV) none (some (-2))))) d (.tup (cutV (h.map cV) none (some (-2))))) := Keep.new hd
    refine ⟨_, rfl, _, rfl, _, rfl, _, rfl, rfl, (by show 5 ≤ sizeLine; decide), fun e he => ?_⟩
    refine ⟨(by show 2 ≤ sizeLine; decide), fun t ht => ?_⟩
    have kt := (Keep.new (m := []) he).trans (Keep.new (o := HO.tup [V.ref a2, V.ref e]) ht)
    have kk := (kc.trans kd).trans kt
    refine k a2 t _ _ (k17.free (by simp) (k8.free (by simp) na2)) ((k17.trans k79).trans kk) ?_ (Dt.tup (SqT.of ((Keep.new (m := []) ht).to upd_same)) ?_) (SqT.of upd_same)
    · rw [kk.to ea2, List.map_append, List.map_append]
    · refine .cons (.tup (SqT.of (kt.to upd_same)) ?_) (.cons (cV_dt _) (.cons (.str _) (.cons (cV_dt _) (.cons ?_ .nil))))
      · rw [ecut]
        exact cV_all _
      · cases n <;> exact .bl _
end
end La
set_option Elab.async false
set_option linter.all false
set_option maxRecDepth 100000
set_option maxHeartbeats 4000000
namespace La
open PySem PySem.Spec PyProof.Rows L2 SM
/-- what may change is no rule and no plan -/
def Far (m : List Addr) (H : Hp) : Prop := Soft m H ∧ ∀ b ∈ m, ∀ C dx fs, H b = some (.ins C dx fs) → fs.length < 3
theorem Far.nil {H : Hp} : Far [] H := ⟨Soft.nil, fun b z => by cases z⟩
theorem Far.ins {H : Hp} {x C dx : Addr} {fs : List (Str × V)} (h : H x = some (.ins C dx fs)) (l : fs.length < 3) : Far [x] H := ⟨Soft.ins h, fun b z C' dx' fs' e => by
  rw [List.mem_singleton.mp z, h] at e
  injection e with e
  injection e with _ _ e
  rw [← e]
  exact l⟩
theorem Far.lst {H : Hp} {x : Addr} {xs : List V} (h : H x = some (.lst xs)) : Far [x] H := ⟨Soft.lst h, fun b z C' dx' fs' e => by
  rw [List.mem_singleton.mp z, h] at e
  cases e⟩
theorem Far.dic {H : Hp} {x : Addr} {kvs : List (Key × V)} (h : H x = some (.dK kvs)) : Far [x] H := ⟨fun b z ys => by
  rw [List.mem_singleton.mp z, h]
  exact ⟨(fun e => by cases e), (fun o e => by cases e)⟩, fun b z C' dx' fs' e => by
  rw [List.mem_singleton.mp z, h] at e
  cases e⟩
theorem Far.src {H : Hp} {a : Addr} (h : Src H a) : Far [a] H := by
  obtain ⟨x, y, e, _⟩ := h
  exact Far.lst e
theorem Far.cons {H : Hp} {a : Addr} {m : List Addr} (h : Far [a] H) (t : Far m H) : Far (a :: m) H := ⟨fun b z => by
  rcases List.mem_cons.mp z with e | z
  · exact h.1 b (by rw [e]; exact List.mem_singleton_self a)
  · exact t.1 b z, fun b z => by
  rcases List.mem_cons.mp z with e | z
  · exact h.2 b (by rw [e]; exact List.mem_singleton_self a)
  · exact t.2 b z⟩
theorem RuleFull.kf {K : PySem.W.Frag} {m : List Addr} {H H' : Hp} {x : Addr} {ns : List Str} {ls : List Ln} (h : RuleFull K H x ns ls) (k : Keep m H H') (far : Far m H) : RuleFull K H' x ns ls := by
  obtain ⟨dx, t, l, y, dy, xs, v1, v3, h1, h2, h3, h4, h5, h6, h7⟩ := h
  have nx : x ∉ m := fun z => absurd (far.2 x z _ _ _ h1) (by show ¬ 3 < 3; decide)
  have ny : y ∉ m := fun z => absurd (far.2 y z _ _ _ h5) (by show ¬ 3 < 3; decide)
  exact ⟨dx, t, l, y, dy, xs, v1, v3, k _ _ nx h1, seqT_keep k far.1 h2, seqT_keep k far.1 h3, h4.keep k far.1, k _ _ ny h5, h6.keep k far.1, h7.keep k far.1⟩
theorem RuleFull.is_ {K : PySem.W.Frag} {H : Hp} {x : Addr} {ns : List Str} {ls : List Ln} (h : RuleFull K H x ns ls) : RuleIs K H x ns ls := by
  obtain ⟨dx, t, l, y, dy, xs, v1, v3, h1, h2, h3, h4, h5, h6, h7⟩ := h
  exact ⟨dx, t, l, y, xs, h1, h2, h3, h4⟩
def fileFs (r : Addr) (v : V) : List (Str × V) := [("_rule", .ref r), ("_state", v)]
/-- what stands as a file in H -/
def FileIs (K : PySem.W.Frag) (H : Hp) (x : Addr) (ns : List Str) (ls : List Ln) (s : Fs) : Prop := ∃ (dx r : Addr) (v : V), H x = some (.ins (He.ga K "File") dx (fileFs r v)) ∧ RuleFull K H r ns ls ∧ Dt K H v (fsD s)
theorem FileIs.keep {K : PySem.W.Frag} {m : List Addr} {H H' : Hp} {x : Addr} {ns : List Str} {ls : List Ln} {s : Fs} (h : FileIs K H x ns ls s) (k : Keep m H H') (n : x ∉ m) (far : Far m H) : FileIs K H' x ns ls s := by
  obtain ⟨dx, r, v, h1, h2, h3⟩ := h
  exact ⟨dx, r, v, k _ _ n h1, RuleFull.kf h2 k far, h3.keep k far.1⟩
theorem FileIs.k0 {K : PySem.W.Frag} {H H' : Hp} {x : Addr} {ns : List Str} {ls : List Ln} {s : Fs} (h : FileIs K H x ns ls s) (k : Keep [] H H') : FileIs K H' x ns ls s := FileIs.keep h k (by simp) Far.nil
theorem FileIs.far {K : PySem.W.Frag} {H : Hp} {x : Addr} {ns : List Str} {ls : List Ln} {s : Fs} (h : FileIs K H x ns ls s) : Far [x] H := by
  obtain ⟨dx, r, v, h1, _⟩ := h
  exact Far.ins h1 (by show 2 < 3; decide)
/-- the parts of a state that stands -/
theorem fsD_parts {K : PySem.W.Frag} {H : Hp} {v : V} {s : Fs} (h : Dt K H v (fsD s)) : ∃ b c, v = .ref b ∧ SqT K H b [.ref c, cV s.last, .str s.mark, cV s.mine, .bl s.amid] ∧ SqT K H c (s.cs.map cV) := by
  obtain ⟨b, us, rfl, sq, dus⟩ := h.items
  cases dus with
  | @cons u0 _ _ _ d0 dus =>
  cases dus with
  | @cons u1 _ _ _ d1 dus =>
  cases dus with
  | @cons u2 _ _ _ d2 dus =>
  cases dus with
  | @cons u3 _ _ _ d3 dus =>
  cases dus with
  | @cons u4 _ _ _ d4 dus =>
  cases dus
  obtain ⟨ca, cs, rfl, sqc, dcs⟩ := d0.items
  obtain rfl := cV_of dcs
  obtain rfl := cD_cV d1
  cases d2
  obtain rfl := cD_cV d3
  cases d4
  exact ⟨b, ca, rfl, sq, sqc⟩
theorem rep_flat {α : Type} (v : α) : ∀ n, (List.replicate n [v]).flatten = List.replicate n v
  | 0 => rfl
  | n + 1 => by rw [List.replicate_succ, List.flatten_cons, rep_flat v n, List.replicate_succ]; rfl
theorem repN_dt {K : PySem.W.Frag} {H : Hp} : ∀ n, DtAll K H (List.replicate n .non) (List.replicate n .none)
  | 0 => .nil
  | n + 1 => .cons .non (repN_dt n)
def spSlot (K : PySem.W.Frag) (f : Addr → Addr → V) : Sp := fun vs H Q _ => ∃ (x dx t l y : Addr), vs = [.ref x] ∧ H x = some (.ins (He.ga K "Rule") dx (ruleFs t l y)) ∧ Q (f t l) H
def spAsks (K : PySem.W.Frag) : Sp := fun vs H Q _ => ∃ (x : Addr) (j : Nat) (ns : List Str) (ls : List Ln) (l : Ln), vs = [.ref x, .int (j : Int)] ∧ RuleIs K H x ns ls ∧ ls[j]? = some l ∧ Q (.bl l.keep.isSome) H
def spFirstX (K : PySem.W.Frag) : Sp := fun vs H Q _ => ∃ (x : Addr) (ns : List Str) (ls : List Ln), vs = [.ref x] ∧ RuleIs K H x ns ls ∧ ns.length ≤ 3 ∧ ∀ v H', Keep [] H H' → Dt K H' v (fsD (firstS ns.length)) → Q v H'
def spFileI (K : PySem.W.Frag) : Sp := fun vs H Q _ => ∃ (x dx r : Addr) (ns : List Str) (ls : List Ln), vs = [.ref x, .ref r] ∧ H x = some (.ins (He.ga K "File") dx []) ∧ RuleFull K H r ns ls ∧ ns.length ≤ 3 ∧ ∀ H', Keep [x] H H' → FileIs K H' x ns ls (firstS ns.length) → Q .non H'
/-- a getter of a file -/
def spFGet (K : PySem.W.Frag) (q : Fs → VK → Hp → Prop) : Sp := fun vs H Q _ => ∃ (x : Addr) (ns : List Str) (ls : List Ln) (s : Fs), vs = [.ref x] ∧ FileIs K H x ns ls s ∧ 1 ≤ s.cs.length ∧ q s Q H
def qHere (s : Fs) (Q : VK) (H : Hp) : Prop := Q (cV (atC s.cs 0)) H
def qAmid (s : Fs) (Q : VK) (H : Hp) : Prop := Q (.bl s.amid) H
def qChange (s : Fs) (Q : VK) (H : Hp) : Prop := if s.mark = "own" then ∀ p H', Keep [] H H' → H' p = some (.tup [cV s.mine]) → Q (.ref p) H' else Q .non H
def spItem (K : PySem.W.Frag) : Sp := fun vs H Q _ => ∃ (x : Addr) (z : Str) (ns : List Str) (ls : List Ln) (s : Fs), vs = [.ref x, .str z] ∧ FileIs K H x ns ls s ∧ s.cs.length = ns.length + 1 ∧ z ∈ ns ∧ (planWordsOf ns).Nodup ∧ ns.length ≤ 3 ∧ ∀ H', Keep [] H H' → Q (cV (atC s.cs (posOf ns z))) H'
def spEdit (K : PySem.W.Frag) : Sp := fun vs H Q _ => ∃ (x : Addr) (c : Cn) (ns : List Str) (ls : List Ln) (s : Fs), vs = [.ref x, cV c] ∧ FileIs K H x ns ls s ∧ FsOk ns s ∧ ns.length ≤ 3 ∧ okC c ∧ s.amid = false ∧ ∀ H', Keep [x] H H' → FileIs K H' x ns ls (editedS s c) → Q .non H'
section
variable {P : Program} {w : World} {K : PySem.W.Frag} {mg : Str → Option Value} {base : Heap}
abbrev s_Rule_registers : Stmt := (inClass (top 33) 1)
abbrev N_Rule_registers : List Str := ["self"]
abbrev P_Rule_registers : List Str := ["self"]
theorem sc_Rule_registers : FnScope N_Rule_registers P_Rule_registers (defScope s_Rule_registers) := ⟨rfl, rfl, rfl, by decide +kernel, rfl, by decide +kernel, by decide +kernel⟩
theorem I_registers (PP : PropAt K q_Rule_registers) (W : Cw fas fns K mg) :
    ∃ fd, FnOk P w K mg base CX0 1 (pga K "Rule" "registers") fd ["self"] (spSlot K fun t _ => .ref t) ∧ Binds K fd ["self"] [] := by
  obtain ⟨fd, F⟩ := PP.fn
  refine ⟨fd, FunD.ok F sc_Rule_registers (fun vs H Q E h => ?_) (fun cdv A outer s H vs Q E hr h => ?_), FunD.bindsN F (fun _ _ _ _ _ _ us hl => match us, hl with | [_], _ => rfl)⟩
  · obtain ⟨x, dx, t, l, y, rfl, _⟩ := h
    rfl
  · obtain ⟨x, dx, t, l, y, rfl, hx, k⟩ := h
    have CR : Cls K (He.ga K "Rule") := He.cls_ok (W.fact 83)
    have N1 : NoAttr K (He.ga K "Rule") "_registers" := He.noat_ok (W.fact 84)
    refine ⟨_, PSs.nox (pss_one (ps_ret (pe_fld (pv 0) rfl))), ?_⟩
    exact ⟨_, rfl, x, _, dx, _, _, rfl, hx, CR, N1, rfl, k⟩
abbrev s_Rule_asks : Stmt := (inClass (top 33) 5)
abbrev N_Rule_asks : List Str := ["self", "position"]
abbrev P_Rule_asks : List Str := ["self", "position"]
theorem sc_Rule_asks : FnScope N_Rule_asks P_Rule_asks (defScope s_Rule_asks) := ⟨rfl, rfl, rfl, by decide +kernel, rfl, by decide +kernel, by decide +kernel⟩
theorem I_asks (W : Cw fas fns K mg) :
    ∃ fd, FnOk P w K mg base CX0 1 (He.ma K (He.ga K "Rule") "asks") fd ["self", "position"] (spAsks K) ∧ Binds K fd ["self", "position"] [] := by
  obtain ⟨fd, F⟩ := W.says.def_ 30 (d := d_Rule_asks) rfl
  refine ⟨fd, FunD.ok F sc_Rule_asks (fun vs H Q E h => ?_) (fun cdv A outer s H vs Q E hr h => ?_), FunD.bindsN F (fun _ _ _ _ _ _ us hl => match us, hl with | [_, _], _ => rfl)⟩
  · obtain ⟨x, j, ns, ls, l, rfl, _⟩ := h
    rfl
  · obtain ⟨x, j, ns, ls, l, rfl, ⟨dx, t, la, y, xs, hx, ht, hl, dl⟩, hj, k⟩ := h
    have CR : Cls K (He.ga K "Rule") := He.cls_ok (W.fact 83)
    have N2 : NoAttr K (He.ga K "Rule") "_lines" := He.noat_ok (W.fact 85)
    refine ⟨_, PSs.nox (pss_one (ps_ret (pe_and (pe_chain op_le op_lt pe_int (pv 1) (pe_callB call_len_seq (by rfl) (W.fre 70) (by decide +kernel) (pa_cons (pe_fld (pv 0) rfl) pa_nil))) (pe_one (pe_cmpR op_eq (pe_callB call_len_seq (by rfl) (W.fre 70) (by decide +kernel) (pa_cons (pe_ix ix_seq (pe_fld (pv 0) rfl) (pv 1) (fun _ _ => rfl)) pa_nil)) pe_int (nomark _)))))), ?_⟩
    have lj : j < ls.length := (List.getElem?_eq_some_iff.mp hj).1
    have lx : xs.length = ls.length := by rw [dl.length, List.length_map]
    obtain ⟨v, hv, dv⟩ := dl.getD (i := j) (d := lnD l) (by rw [List.getElem?_map, hj]; rfl)
    obtain ⟨b, us, rfl, hb, du⟩ := dv.items
    have c0 : decide ((0 : Int) ≤ (j : Int)) = true := decide_eq_true (by omega)
    have c1 : decide ((j : Int) < (xs.length : Int)) = true := decide_eq_true (by omega)
    have len3 : decide (V.int (us.length : Int) = V.int 3) = l.keep.isSome := by
      rw [du.length]
      cases l.keep with
      | none => exact decide_eq_false fun e => absurd (V.int.inj e : ((2 : Nat) : Int) = 3) (by decide)
      | some k => exact decide_eq_true rfl
    refine ⟨_, rfl, _, _, rfl, rfl, _, rfl, ?_⟩
    rw [c0]
    refine iteT ⟨_, rfl, x, _, dx, _, _, rfl, hx, CR, N2, rfl, la, xs, rfl, .inr hl, _, _, rfl, rfl, _, rfl, ?_⟩
    rw [c1]
    refine iteT ⟨_, rfl, x, _, dx, _, _, rfl, hx, CR, N2, rfl, _, rfl, .inr (.inl ⟨la, xs, (j : Int), .ref b, rfl, rfl, hl, atI_nat hv, b, us, rfl, .inr hb, rfl, ?_⟩)⟩
    rw [len3]
    exact k
abbrev s_first_state : Stmt := (top 13)
abbrev N_first_state : List Str := ["rule"]
abbrev P_first_state : List Str := ["rule"]
theorem sc_first_state : FnScope N_first_state P_first_state (defScope s_first_state) := ⟨rfl, rfl, rfl, by decide +kernel, rfl, by decide +kernel, by decide +kernel⟩
theorem Dfirst_state (PG : PropAt K q_Rule_registers) (W : Cw fas fns K mg) : DefOk P w K mg base CX0 3 "first_state" P_first_state (spFirstX K) := by
  refine DefOk.of W 3 11 (st := s_first_state) rfl rfl sc_first_state (fun _ _ _ _ _ _ us hl => match us, hl with | [_], _ => rfl) (fun vs H Q E h => ?_) (fun cdv A outer s H vs Q E hr h => ?_)
  · obtain ⟨x, ns, ls, rfl, _⟩ := h
    rfl
  · obtain ⟨x, ns, ls, rfl, ri, n3, k⟩ := h
    have CR : Cls K (He.ga K "Rule") := He.cls_ok (W.fact 83)
    obtain ⟨fdPg, FPg, bPg⟩ := I_registers (P := P) (w := w) (base := base) PG W
    refine ⟨_, PSs.nox (pss_one (ps_ret (pe_tup (pa_cons (pe_op SM.op_repA (pe_tup (pa_cons pe_non pa_nil)) (pe_op op_add (pe_callB call_len_seq (by rfl) (W.fre 70) (by decide +kernel) (pa_cons (pe_prop (pv 0) CR PG.of FPg (hr.mono (by decide)) bPg .nil pass0 rfl) pa_nil)) pe_int)) (pa_cons pe_non (pa_cons pe_str (pa_cons pe_non (pa_cons pe_bl pa_nil)))))))), ?_⟩
    obtain ⟨dx, t, l, y, xs, ex, st, sl, dl⟩ := ri
    refine rx_ret (show tCons _ _ _ _ _ from rx_cons (rx_op ⟨(by show 1 ≤ sizeLine; decide), fun q hq => ?_⟩))
    have kq : Keep [] H (upd H q (.tup [.non])) := Keep.new hq
    refine ⟨_, rfl, x, dx, _, rfl, kq.to ex, x, dx, t, l, y, rfl, kq.to ex, t, ns.map V.str, rfl, .inr (seqT_keep kq Soft.nil st), ?_⟩
    have fin : ∀ v H', Keep [] (upd H q (.tup [.non])) H' → Dt K H' v (.tuple (List.replicate (ns.length + 1) .none)) → (5 : Nat) ≤ sizeLine ∧ ∀ p2, H' p2 = none → Q (.ref p2) (upd H' p2 (.tup [v, .non, .str "none", .non, .bl false])) := fun v H' k' dv => ⟨(by decide), fun p2 hp2 => k _ _ (kq.trans (k'.trans (Keep.new hp2))) (.tup (SqT.of upd_same) (.cons (by
      have := dv.k0 (Keep.new (o := .tup [v, .non, .str "none", .non, .bl false]) hp2)
      rw [show (firstS ns.length).cs.map cD = List.replicate (ns.length + 1) .none from List.map_replicate]
      exact this) (.cons .non (.cons (.str _) (.cons .non (.cons (.bl _) .nil))))))⟩
    have ln : ((ns.map V.str).length : Int) = ns.length := by rw [List.length_map]
    refine ⟨_, _, rfl, rfl, ?_⟩
    rw [ln]
    by_cases h0 : ns.length = 0
    · rw [h0]
      exact .inr ⟨q, [.non], rfl, rfl, SqT.of upd_same, fin _ _ Keep.refl (by rw [h0]; exact .tup (SqT.of upd_same) (.cons .non .nil))⟩
    · refine .inl ⟨q, _, [.non], rfl, rfl, SqT.of upd_same, (fun z => by cases z), by omega, by omega, (by show 1 ≤ 1000; decide), fun p hp => fin _ _ (Keep.new hp) (.tup (SqT.of upd_same) ?_)⟩
      rw [rep_flat, show ((ns.length : Int) + 1).toNat = ns.length + 1 by omega]
      exact repN_dt _
abbrev s_File___init__ : Stmt := (inClass (top 22) 0)
abbrev N_File___init__ : List Str := ["self", "rule"]
abbrev P_File___init__ : List Str := ["self", "rule"]
theorem sc_File___init__ : FnScope N_File___init__ P_File___init__ (defScope s_File___init__) := ⟨rfl, rfl, rfl, by decide +kernel, rfl, by decide +kernel, by decide +kernel⟩
theorem I_File (Df : DefOk P w K mg base CX0 3 "first_state" P_first_state (spFirstX K)) (W : Cw fas fns K mg) :
    ∃ fd, FnOk P w K mg base CX0 4 (He.ma K (He.ga K "File") "__init__") fd ["self", "rule"] (spFileI K) ∧ Binds K fd ["self", "rule"] [] := by
  obtain ⟨fd, F⟩ := W.says.def_ 15 (d := d_File___init__) rfl
  refine ⟨fd, FunD.ok F sc_File___init__ (fun vs H Q E h => ?_) (fun cdv A outer s H vs Q E hr h => ?_), FunD.bindsN F (fun _ _ _ _ _ _ us hl => match us, hl with | [_, _], _ => rfl)⟩
  · obtain ⟨x, dx, r, ns, ls, rfl, _⟩ := h
    rfl
  · obtain ⟨x, dx, r, ns, ls, rfl, hx, ri, n3, k⟩ := h
    have CF : Cls K (He.ga K "File") := He.cls_ok (W.fact 97)
    have N1 : NoAttr K (He.ga K "File") "_rule" := He.noat_ok (W.fact 98)
    have N2 : NoAttr K (He.ga K "File") "_state" := He.noat_ok (W.fact 99)
    have Dfirst_state := Df
    refine ⟨_, PSs.nox (Evl.pss_cut (ps_fld (pv 0) (pv 1) rfl) (pss_one (ps_fld (pv 0) (SM.pe_callD Dfirst_state (hr.mono (by decide)) pass0 (pa_cons (pv 1) pa_nil)) rfl))), ?_⟩
    refine ⟨fun σ' H' => σ' = [some (.ref x), some (.ref r)] ∧ H' = upd H x (.ins (He.ga K "File") dx (putF "_rule" (.ref r) [])), ⟨_, rfl, _, rfl, x, _, dx, _, rfl, hx, CF, N1, by simp, rfl, rfl⟩, ?_⟩
    rintro σ' H1 ⟨rfl, rfl⟩
    have kx : Keep [x] H (upd H x (.ins (He.ga K "File") dx (putF "_rule" (.ref r) []))) := Keep.at_ (by simp)
    have ri1 := RuleFull.kf ri kx (Far.ins hx (by show 0 < 3; decide))
    refine ⟨_, rfl, r, ns, ls, rfl, RuleFull.is_ ri1, n3, fun v H2 k2 dv => ?_⟩
    have hx2 := k2.to (upd_same (H := H) (a := x))
    have kz : Keep [x] H2 (upd H2 x (.ins (He.ga K "File") dx (fileFs r v))) := Keep.at_ (by simp)
    have fz : Far [x] H2 := Far.ins hx2 (by show 1 < 3; decide)
    exact ⟨_, rfl, x, _, dx, _, rfl, hx2, CF, N2, (by show 1 < 1000; decide), k _ (kx.trans ((Keep.of_nil k2).trans kz)) ⟨dx, r, v, upd_same, RuleFull.kf (RuleFull.kf ri1 k2 Far.nil) kz fz, dv.keep kz fz.1⟩⟩
abbrev s_File_here : Stmt := (inClass (top 22) 2)
abbrev N_File_here : List Str := ["self"]
abbrev P_File_here : List Str := ["self"]
theorem sc_File_here : FnScope N_File_here P_File_here (defScope s_File_here) := ⟨rfl, rfl, rfl, by decide +kernel, rfl, by decide +kernel, by decide +kernel⟩
theorem I_here (PP : PropAt K q_File_here) (W : Cw fas fns K mg) :
    ∃ fd, FnOk P w K mg base CX0 1 (pga K "File" "here") fd ["self"] (spFGet K qHere) ∧ Binds K fd ["self"] [] := by
  obtain ⟨fd, F⟩ := PP.fn
  refine ⟨fd, FunD.ok F sc_File_here (fun vs H Q E h => ?_) (fun cdv A outer s H vs Q E hr h => ?_), FunD.bindsN F (fun _ _ _ _ _ _ us hl => match us, hl with | [_], _ => rfl)⟩
  · obtain ⟨x, ns, ls, s, rfl, _⟩ := h
    rfl
  · obtain ⟨x, ns, ls, fs, rfl, ⟨dx, r, v, hx, _, dv⟩, l1, k⟩ := h
    have CF : Cls K (He.ga K "File") := He.cls_ok (W.fact 97)
    have N2 : NoAttr K (He.ga K "File") "_state" := He.noat_ok (W.fact 99)
    refine ⟨_, PSs.nox (pss_one (ps_ret (pe_ix ix_seq (pe_ix ix_seq (pe_fld (pv 0) rfl) pe_int (fun _ _ => rfl)) pe_int (fun _ _ => rfl)))), ?_⟩
    obtain ⟨b, c, rfl, sb, sc⟩ := fsD_parts dv
    exact ⟨_, rfl, x, _, dx, _, _, rfl, hx, CF, N2, rfl, .inr (.inl ⟨b, _, 0, _, rfl, rfl, sb, at0 _ _, .inr (.inl ⟨c, _, 0, _, rfl, rfl, sc, atC_map (i := 0) l1, k⟩)⟩)⟩
abbrev s_File_amid : Stmt := (inClass (top 22) 6)
abbrev N_File_amid : List Str := ["self"]
abbrev P_File_amid : List Str := ["self"]
theorem sc_File_amid : FnScope N_File_amid P_File_amid (defScope s_File_amid) := ⟨rfl, rfl, rfl, by decide +kernel, rfl, by decide +kernel, by decide +kernel⟩
theorem I_amid (PP : PropAt K q_File_amid) (W : Cw fas fns K mg) :
    ∃ fd, FnOk P w K mg base CX0 1 (pga K "File" "amid") fd ["self"] (spFGet K qAmid) ∧ Binds K fd ["self"] [] := by
  obtain ⟨fd, F⟩ := PP.fn
  refine ⟨fd, FunD.ok F sc_File_amid (fun vs H Q E h => ?_) (fun cdv A outer s H vs Q E hr h => ?_), FunD.bindsN F (fun _ _ _ _ _ _ us hl => match us, hl with | [_], _ => rfl)⟩
  · obtain ⟨x, ns, ls, s, rfl, _⟩ := h
    rfl
  · obtain ⟨x, ns, ls, fs, rfl, ⟨dx, r, v, hx, _, dv⟩, l1, k⟩ := h
    have CF : Cls K (He.ga K "File") := He.cls_ok (W.fact 97)
    have N2 : NoAttr K (He.ga K "File") "_state" := He.noat_ok (W.fact 99)
    refine ⟨_, PSs.nox (pss_one (ps_ret (pe_ix ix_seq (pe_fld (pv 0) rfl) pe_int (fun _ _ => rfl)))), ?_⟩
    obtain ⟨b, c, rfl, sb, sc⟩ := fsD_parts dv
    exact ⟨_, rfl, x, _, dx, _, _, rfl, hx, CF, N2, rfl, .inr (.inl ⟨b, _, 4, _, rfl, rfl, sb, rfl, k⟩)⟩
abbrev s_File_change : Stmt := (inClass (top 22) 5)
abbrev N_File_change : List Str := ["self"]
abbrev P_File_change : List Str := ["self"]
theorem sc_File_change : FnScope N_File_change P_File_change (defScope s_File_change) := ⟨rfl, rfl, rfl, by decide +kernel, rfl, by decide +kernel, by decide +kernel⟩
theorem I_change (PP : PropAt K q_File_change) (W : Cw fas fns K mg) :
    ∃ fd, FnOk P w K mg base CX0 1 (pga K "File" "change") fd ["self"] (spFGet K qChange) ∧ Binds K fd ["self"] [] := by
  obtain ⟨fd, F⟩ := PP.fn
  refine ⟨fd, FunD.ok F sc_File_change (fun vs H Q E h => ?_) (fun cdv A outer s H vs Q E hr h => ?_), FunD.bindsN F (fun _ _ _ _ _ _ us hl => match us, hl with | [_], _ => rfl)⟩
  · obtain ⟨x, ns, ls, s, rfl, _⟩ := h
    rfl
  · obtain ⟨x, ns, ls, fs, rfl, ⟨dx, r, v, hx, _, dv⟩, l1, k⟩ := h
    have CF : Cls K (He.ga K "File") := He.cls_ok (W.fact 97)
    have N2 : NoAttr K (He.ga K "File") "_state" := He.noat_ok (W.fact 99)
    refine ⟨_, PSs.nox (pss_one (ps_ret (pe_ifExp (pt_cmpR op_eq (pe_ix ix_seq (pe_fld (pv 0) rfl) pe_int (fun _ _ => rfl)) pe_str (nomark _)) (pe_tup (pa_cons (pe_ix ix_seq (pe_fld (pv 0) rfl) pe_int (fun _ _ => rfl)) pa_nil)) pe_non))), ?_⟩
    obtain ⟨b, c, rfl, sb, sc⟩ := fsD_parts dv
    refine rx_ret (rx_ife (rx_tTest ⟨_, rfl, x, _, dx, _, _, rfl, hx, CF, N2, rfl, .inr (.inl ⟨b, _, 2, _, rfl, rfl, sb, rfl, rfl, _, rfl, ?_⟩)⟩))
    rw [dec_str]
    unfold qChange at k
    refine ite2 (fun e => ?_) (fun e => ?_)
    · rw [if_pos (of_decide_eq_true e)] at k
      exact ⟨_, rfl, x, _, dx, _, _, rfl, hx, CF, N2, rfl, .inr (.inl ⟨b, _, 3, _, rfl, rfl, sb, rfl, (by show 1 ≤ sizeLine; decide), fun p hp => k p _ (Keep.new hp) upd_same⟩)⟩
    · rw [if_neg (fun z => e (decide_eq_true z))] at k
      exact k
abbrev s_File___getitem__ : Stmt := (inClass (top 22) 7)
abbrev N_File___getitem__ : List Str := ["self", "name", "place", "content"]
abbrev P_File___getitem__ : List Str := ["self", "name"]
theorem sc_File___getitem__ : FnScope N_File___getitem__ P_File___getitem__ (defScope s_File___getitem__) := ⟨rfl, rfl, rfl, by decide +kernel, rfl, by decide +kernel, by decide +kernel⟩
theorem I_item (PG : PropAt K q_Rule_registers) (W : Cw fas fns K mg) :
    ∃ fd, FnOk P w K mg base CX0 3 (He.ma K (He.ga K "File") "__getitem__") fd ["self", "name"] (spItem K) ∧ Binds K fd ["self", "name"] [] ∧ PySem.W.fnIn K (He.ma K (He.ga K "File") "__getitem__") = true := by
  obtain ⟨fd, F⟩ := W.says.def_ 16 (d := d_File___getitem__) rfl
  refine ⟨fd, FunD.ok F sc_File___getitem__ (fun vs H Q E h => ?_) (fun cdv A outer s H vs Q E hr h => ?_), FunD.bindsN F (fun _ _ _ _ _ _ us hl => match us, hl with | [_, _], _ => rfl), ?_⟩
  · obtain ⟨x, z, ns, ls, s, rfl, _⟩ := h
    rfl
  · obtain ⟨x, z, ns, ls, fs, rfl, ⟨dx, r, v, hx, hru, dv⟩, lcs, hz, nd, n3, k⟩ := h
    have CF : Cls K (He.ga K "File") := He.cls_ok (W.fact 97)
    have CR : Cls K (He.ga K "Rule") := He.cls_ok (W.fact 83)
    have N1 : NoAttr K (He.ga K "File") "_rule" := He.noat_ok (W.fact 98)
    have N2 : NoAttr K (He.ga K "File") "_state" := He.noat_ok (W.fact 99)
    obtain ⟨fdPg, FPg, bPg⟩ := I_registers (P := P) (w := w) (base := base) PG W
    refine ⟨_, PSs.nox (Evl.pss_cut (ps_for PassesOwn.never rfl (RZ.pi_zipA (by rfl) (W.fre 80) (pa_cons (pe_prop (pe_fld (pv 0) rfl) CR PG.of FPg (hr.mono (by decide)) bPg .nil pass0 rfl) (pa_cons (pe_slice SM.sl_tupA (pe_ix ix_seq (pe_fld (pv 0) rfl) pe_int (fun _ _ => rfl)) (po_some pe_int) po_none) pa_nil))) (pg_tup (by rfl) (pgs_cons (pg_name (i := 2) sc_File___getitem__.nd rfl (by first | exact Or.inl rfl | exact Or.inr rfl)) (pgs_cons (pg_name (i := 3) sc_File___getitem__.nd rfl (by first | exact Or.inl rfl | exact Or.inr rfl)) pgs_nil))) (pss_one (ps_if (pt_cmpR op_eq (pv 2) (pv 1) (nomark _)) (pss_one (ps_ret (pv 3))) pss_nil))) (pss_one SM.ps_never)), ?_⟩
    have dv0 := dv
    obtain ⟨b, c, rfl, sb, sc⟩ := fsD_parts dv
    obtain ⟨dr, t, l, y, xs, hr0, st, _⟩ := RuleFull.is_ hru
    let T : Option V → Option V → L2.St := fun x2 x3 => [some (.ref x), some (.str z), x2, x3]
    refine ⟨fun σ' H' => False, ?_, fun σ' H' f => f.elim⟩
    refine ⟨_, rfl, x, _, dx, _, _, rfl, hx, CF, N1, rfl, r, dr, _, rfl, hr0, r, dr, t, l, y, rfl, hr0, ?_⟩
    have X : LtH K (tSl (SM.rSlA K) (tOp (rIx K) (tFld K (tVar 0) "_state") (tC (.int 0))) (tPart (tC (.int 1))) tNoPart) (T none none) H (.tuple ((fs.cs.map cD).drop 1)) :=
      LtH.drop (n := 1) (fun H1 k1 Q1 q => ⟨_, rfl, x, _, dx, _, _, rfl, k1.to hx, CF, N2, rfl, .inr (.inl ⟨b, _, 0, _, rfl, rfl, seqT_keep k1 Soft.nil sb, at0 _ _, q _ _ Keep.refl (.tup (seqT_keep k1 Soft.nil sc) (cV_all _))⟩)⟩) (fun H1 Q q => ⟨1, rfl, q⟩)
    refine X _ Keep.refl _ fun v H1 k1 d1 => ?_
    rw [← List.map_drop] at d1
    obtain ⟨a2, ys, rfl, s2, dys⟩ := d1.items
    obtain rfl := cV_of dys
    have st1 := seqT_keep k1 Soft.nil st
    refine ⟨t, a2, _, _, rfl, .inr ⟨st1, s2, RZ.for_zipT (xs := ns.map V.str) (ys := (fs.cs.drop 1).map cV) (by rw [List.length_map, List.length_map, List.length_drop, lcs]; omega) (fun i σ' H' => ∃ x2 x3, σ' = T x2 x3 ∧ Keep [] H1 H' ∧ ∀ j, j < i → ns[j]? ≠ some z) ⟨none, none, rfl, Keep.refl, fun j z => absurd z (Nat.not_lt_zero _)⟩ (fun i σ' H' w => by obtain ⟨_, _, _, kk, _⟩ := w; exact ⟨seqT_keep kk Soft.nil st1, seqT_keep kk Soft.nil s2⟩) ?_ ?_⟩⟩
    · rintro i u v T0 σ' H3 hu hv ⟨x2, x3, rfl, k3, no⟩ hT0
      rw [List.getElem?_map] at hu hv
      cases en : ns[i]? with
      | none => rw [en] at hu; cases hu
      | some m =>
      rw [en] at hu
      cases hu
      cases ec : (fs.cs.drop 1)[i]? with
      | none => rw [ec] at hv; cases hv
      | some cc =>
      rw [ec] at hv
      cases hv
      refine ⟨T0, _, rfl, SqT.of upd_same, rfl, _, _, rfl, _, _, rfl, rfl, ?_⟩
      refine rx_if (rx_tTest ⟨_, rfl, _, rfl, rfl, _, rfl, ?_⟩)
      rw [dec_str]
      refine ite2 (fun e => ?_) (fun e => ⟨_, _, rfl, k3.trans (Keep.new hT0), fun j hj => ?_⟩)
      · have e' : m = z := of_decide_eq_true e
        subst e'
        have ep : posOf ns m = i + 1 := idx_of nd (by
          rw [planWordsOf, List.append_assoc]
          show (ns ++ _)[i]? = _
          rw [List.getElem?_append_left (List.getElem?_eq_some_iff.mp en).1, en])
        have ea : atC fs.cs (posOf ns m) = cc := by
          rw [ep, atC, Nat.add_comm, ← List.getElem?_drop, ec]
          rfl
        rw [ea] at k
        exact ⟨_, rfl, k _ (k1.trans (k3.trans (Keep.new hT0)))⟩
      · rcases Nat.lt_or_ge j i with q | q
        · exact no j q
        · have : j = i := by omega
          subst this
          rw [en]
          exact fun q => e (decide_eq_true (Option.some.inj q))
    · rintro σ' H3 ⟨x2, x3, rfl, k3, no⟩
      obtain ⟨i, hi, e⟩ := List.getElem_of_mem hz
      rw [List.length_map] at no
      exact no i hi (by rw [List.getElem?_eq_getElem hi, e])
  · obtain ⟨oc, od, dV, kV, doc, pm, an, cdv, ct, osl, e, lk, _⟩ := F.ex
    unfold PySem.W.fnIn
    rw [show K.lookup (He.ma K (He.ga K "File") "__getitem__") = _ from lk, e]
abbrev s_File_edit : Stmt := (inClass (top 22) 10)
abbrev N_File_edit : List Str := ["self", "content"]
abbrev P_File_edit : List Str := ["self", "content"]
theorem sc_File_edit : FnScope N_File_edit P_File_edit (defScope s_File_edit) := ⟨rfl, rfl, rfl, by decide +kernel, rfl, by decide +kernel, by decide +kernel⟩
theorem I_edit (PA : PropAt K q_File_amid) (W : Cw fas fns K mg) (Dis_content : DefOk P w K mg base CX0 2 "is_content" P_is_content (spText K isContent)) (Dedited : DefOk P w K mg base CX0 1 "edited" P_edited (spEdited K)) :
    ∃ fd, FnOk P w K mg base CX0 3 (He.ma K (He.ga K "File") "edit") fd ["self", "content"] (spEdit K) ∧ Binds K fd ["self", "content"] [] := by
  obtain ⟨fd, F⟩ := W.says.def_ 18 (d := d_File_edit) rfl
  refine ⟨fd, FunD.ok F sc_File_edit (fun vs H Q E h => ?_) (fun cdv A outer s H vs Q E hr h => ?_), FunD.bindsN F (fun _ _ _ _ _ _ us hl => match us, hl with | [_, _], _ => rfl)⟩
  · obtain ⟨x, c, ns, ls, s, rfl, _⟩ := h
    rfl
  · obtain ⟨x, c, ns, ls, fs, rfl, hf, fok, n3, okc, am, k⟩ := h
    have CF : Cls K (He.ga K "File") := He.cls_ok (W.fact 97)
    have N2 : NoAttr K (He.ga K "File") "_state" := He.noat_ok (W.fact 99)
    obtain ⟨fdAm, FAm, bAm⟩ := I_amid (P := P) (w := w) (base := base) PA W
    have PAm := PA
    refine ⟨_, PSs.nox (Evl.pss_cut (ps_if (pt_not (pt_val (SM.pe_callD Dis_content (hr.mono (by decide)) pass0 (pa_cons (pv 1) pa_nil)))) (pss_one SM.ps_never) pss_nil) (Evl.pss_cut (ps_if (pt_val (pe_prop (pv 0) CF PAm.of FAm (hr.mono (by decide)) bAm .nil pass0 rfl)) (pss_one SM.ps_never) pss_nil) (pss_one (ps_fld (pv 0) (SM.pe_callD Dedited (hr.mono (by decide)) pass0 (pa_cons (pe_fld (pv 0) rfl) (pa_cons (pv 1) pa_nil))) rfl)))), ?_⟩
    have l1 : 1 ≤ fs.cs.length := by rw [fok.len]; omega
    refine ⟨fun σ' H' => σ' = [some (.ref x), some (cV c)] ∧ Keep [] H H', ?_, ?_⟩
    · refine rx_if (rx_not ⟨_, rfl, _, _, rfl, (cV_dt c).dq, okC.short okc, fun H1 k1 => ?_⟩)
      rw [okC.content okc]
      exact ⟨_, rfl, iteF ⟨rfl, k1⟩⟩
    rintro σ' H1 ⟨rfl, k1⟩
    have hf1 := FileIs.k0 hf k1
    refine ⟨fun σ' H' => σ' = [some (.ref x), some (cV c)] ∧ H' = H1, ?_, ?_⟩
    · obtain ⟨dx, r, v, hx, hru, dv⟩ := hf1
      refine rx_if ⟨_, rfl, x, dx, _, rfl, hx, x, ns, ls, fs, rfl, ⟨dx, r, v, hx, hru, dv⟩, l1, _, rfl, ?_⟩
      rw [am]
      exact iteF ⟨rfl, rfl⟩
    rintro σ' H2 ⟨rfl, rfl⟩
    obtain ⟨dx, r, v, hx, hru, dv⟩ := hf1
    refine ⟨_, rfl, x, _, dx, _, _, rfl, hx, CF, N2, rfl, _, rfl, v, fs, c, rfl, dv, l1, by rw [fok.len]; omega, fun u H3 k3 du => ?_⟩
    have hx3 := k3.to hx
    have kz : Keep [x] H3 (upd H3 x (.ins (He.ga K "File") dx (fileFs r u))) := Keep.at_ (by simp)
    have fz : Far [x] H3 := Far.ins hx3 (by show 2 < 3; decide)
    exact ⟨_, rfl, x, _, dx, _, rfl, hx3, CF, N2, (by show 2 < 1000; decide), k _ ((Keep.of_nil (k1.trans k3)).trans kz) ⟨dx, r, u, upd_same, RuleFull.kf (RuleFull.kf hru k3 Far.nil) kz fz, du.keep kz fz.1⟩⟩
end
end La
set_option Elab.async false
set_option linter.all false
set_option maxRecDepth 100000
set_option maxHeartbeats 4000000
namespace La
open PySem PySem.Spec PyProof.Rows L2 SM
def lnAt (ls : List Ln) (i : Nat) : Ln := (ls[i]?).getD ⟨[], [], none⟩
/-- the line that is taken when c comes -/
def lineOf (ns : List Str) (ls : List Ln) (s : Fs) (c : Cn) (ren : Bool) : Ln := lnAt ls (taken (posOf ns) (heldOf (posOf ns) s c ren) ls)
theorem lnAt_of {ls : List Ln} {i : Nat} {l : Ln} (h : ls[i]? = some l) : lnAt ls i = l := by rw [lnAt, h]; rfl
theorem lineOf_at {ns : List Str} {ls : List Ln} {s : Fs} {c : Cn} {ren : Bool} (l1 : 1 ≤ ls.length) : ls[taken (posOf ns) (heldOf (posOf ns) s c ren) ls]? = some (lineOf ns ls s c ren) := by
  have tlt := taken_lt (posOf ns) (heldOf (posOf ns) s c ren) l1
  rw [lineOf, lnAt, List.getElem?_eq_getElem tlt]
  rfl
/-- troubles and the state behind an upgrade or a renaming -/
def brought (ns : List Str) (ls : List Ln) (s : Fs) (c : Cn) (ren : Bool) (reply : Option Str) (n : Option Nat) : List Str × Fs := outcomeS (posOf ns) (spotsOf ns (ns.filter isPlace)) (elderO ns) s c ren (lineOf ns ls s c ren) reply n
def okR (reply : Option Str) : Prop := reply = none ∨ reply = some "take" ∨ reply = some "keep"
/-- a rule's lines -/
structure LsOk (ns : List Str) (ls : List Ln) : Prop where
  n3 : ns.length ≤ 3
  l1 : 1 ≤ ls.length
  l8 : ls.length ≤ 8
  good : ∀ l ∈ ls, GoodL ns l
/-- what may come to a file -/
structure ComeOk (ns : List Str) (ls : List Ln) (s : Fs) (c : Cn) (ren : Bool) (reply : Option Str) (n : Option Nat) : Prop where
  ck : okC c
  rk : okR reply
  el : ren = true → ("elder" : Str) ∈ ns
  ask : reply = none → (lineOf ns ls s c ren).keep.isSome = false
  st : ∀ k, n = some k → k < (listFor (lineOf ns ls s c ren) reply).length
def spRefA (K : PySem.W.Frag) : Sp := fun vs H Q _ => ∃ (c : Cn) (reply : Option Str), vs = [cV c, cV reply] ∧ okC c ∧ okR reply ∧ ∀ H', Keep [] H H' → Q .non H'
def wantBrought (K : PySem.W.Frag) (x : Addr) (ns : List Str) (ls : List Ln) (s : Fs) (c : Cn) (ren : Bool) (reply : Option Str) (n : Option Nat) (H : Hp) (Q : VK) : Prop :=
  FileIs K H x ns ls s ∧ FsOk ns s ∧ LsOk ns ls ∧ ComeOk ns ls s c ren reply n ∧ ∀ p H', H p = none → Keep [x] H H' → H' p = some (.lst ((brought ns ls s c ren reply n).1.map V.str)) → FileIs K H' x ns ls (brought ns ls s c ren reply n).2 → Q (.ref p) H'
def spRecv (K : PySem.W.Frag) : Sp := fun vs H Q _ => ∃ (x : Addr) (c : Cn) (ren : Bool) (reply : Option Str) (n : Option Nat) (ns : List Str) (ls : List Ln) (s : Fs), vs = [.ref x, cV c, .bl ren, cV reply, nV n] ∧ wantBrought K x ns ls s c ren reply n H Q
def spUp (K : PySem.W.Frag) (ren : Bool) : Sp := fun vs H Q _ => ∃ (x : Addr) (c : Cn) (reply : Option Str) (n : Option Nat) (ns : List Str) (ls : List Ln) (s : Fs), vs = [.ref x, cV c, cV reply, nV n] ∧ wantBrought K x ns ls s c ren reply n H Q
theorem ok_take : okC (some "take") := fun s e => by cases e; exact ⟨by decide +kernel, by decide +kernel⟩
theorem ok_keep : okC (some "keep") := fun s e => by cases e; exact ⟨by decide +kernel, by decide +kernel⟩
theorem okR.okC {r : Option Str} (h : okR r) : okC r := by
  rcases h with h | h | h
  · rw [h]; exact okC_none
  · rw [h]; exact ok_take
  · rw [h]; exact ok_keep
theorem isPlace_le (ns : List Str) : (ns.filter isPlace).length ≤ ns.length := List.length_filter_le _ _
section
variable {P : Program} {w : World} {K : PySem.W.Frag} {mg : Str → Option Value} {base : Heap}
abbrev s_refuse_bad_arrival : Stmt := (top 26)
abbrev N_refuse_bad_arrival : List Str := ["content", "answer"]
abbrev P_refuse_bad_arrival : List Str := ["content", "answer"]
theorem sc_refuse_bad_arrival : FnScope N_refuse_bad_arrival P_refuse_bad_arrival (defScope s_refuse_bad_arrival) := ⟨rfl, rfl, rfl, by decide +kernel, rfl, by decide +kernel, by decide +kernel⟩
theorem Drefuse_bad_arrival (W : Cw fas fns K mg) (Dis_content : DefOk P w K mg base CX0 2 "is_content" P_is_content (spText K isContent)) : DefOk P w K mg base CX0 3 "refuse_bad_arrival" P_refuse_bad_arrival (spRefA K) := by
  refine DefOk.of W 26 23 (st := s_refuse_bad_arrival) rfl rfl sc_refuse_bad_arrival (fun _ _ _ _ _ _ us hl => match us, hl with | [_, _], _ => rfl) (fun vs H Q E h => ?_) (fun cdv A outer s H vs Q E hr h => ?_)
  · obtain ⟨c, r, rfl, _⟩ := h
    rfl
  · obtain ⟨c, r, rfl, okc, okr, k⟩ := h
    refine ⟨_, PSs.nox (Evl.pss_cut (ps_if (pt_not (pt_val (SM.pe_callD Dis_content (hr.mono (by decide)) pass0 (pa_cons (pv 0) pa_nil)))) (pss_one SM.ps_never) pss_nil) (pss_one (ps_if (pt_cmpR (SM.op_notInA (SM.units65 hr)) (pv 1) (pe_tup (pa_cons pe_non (pa_cons pe_str (pa_cons pe_str pa_nil)))) (by rfl)) (pss_one SM.ps_never) pss_nil))), ?_⟩
    refine ⟨fun σ' H' => σ' = [some (cV c), some (cV r)] ∧ Keep [] H H', ?_, ?_⟩
    · refine rx_if (rx_not ⟨_, rfl, _, _, rfl, (cV_dt c).dq, okC.short okc, fun H1 k1 => ?_⟩)
      rw [okC.content okc]
      exact ⟨_, rfl, iteF ⟨rfl, k1⟩⟩
    rintro σ' H1 ⟨rfl, k1⟩
    refine rx_if (rx_tTest (rx_op ⟨_, rfl, rx_tup ⟨(by show 3 ≤ sizeLine; decide), fun t ht => ?_⟩⟩))
    have dt : Dt K (upd H1 t (.tup [.non, .str "take", .str "keep"])) (.ref t) (.tuple (([none, some "take", some "keep"] : List Cn).map cD)) := .tup (SqT.of upd_same) (.cons .non (.cons (.str _) (.cons (.str _) .nil)))
    refine op_nin_cn (okR.okC okr) (fun z hz => ?_) dt ⟨_, rfl, ?_⟩
    · simp only [List.mem_cons, List.not_mem_nil, or_false] at hz
      exact okR.okC hz
    · have m : r ∈ ([none, some "take", some "keep"] : List Cn) := by
        simp only [List.mem_cons, List.not_mem_nil, or_false]
        exact okr
      rw [decide_eq_true m]
      exact iteF (k _ (k1.trans (Keep.new ht)))
abbrev s_File__receive : Stmt := (inClass (top 22) 13)
abbrev N_File__receive : List Str := ["self", "content", "renaming", "answer", "stop", "arrival", "troubles"]
abbrev P_File__receive : List Str := ["self", "content", "renaming", "answer", "stop"]
theorem sc_File__receive : FnScope N_File__receive P_File__receive (defScope s_File__receive) := ⟨rfl, rfl, rfl, by decide +kernel, rfl, by decide +kernel, by decide +kernel⟩
theorem I_Recv (W : Cw fas fns K mg) (IA : ∃ fd, FnOk P w K mg base CX0 2 (He.ma K (He.ga K "Arrival") "__init__") fd ["self", "rule", "state", "new", "renaming"] (spArrI K) ∧ Binds K fd ["self", "rule", "state", "new", "renaming"] [])
    (IS : ∃ fd, FnOk P w K mg base CX0 1 (He.ma K (He.ga K "Arrival") "steps") fd ["self", "answer"] (spArrSteps K) ∧ Binds K fd ["self", "answer"] [])
    (IO : ∃ fd, FnOk P w K mg base CX0 3 (He.ma K (He.ga K "Arrival") "outcome") fd ["self", "answer", "stop"] (spOutcome K) ∧ Binds K fd ["self", "answer", "stop"] [])
    (Dis_index : DefOk P w K mg base CX0 1 "is_index" P_is_index (spIndex K)) :
    ∃ fd, FnOk P w K mg base CX0 4 (He.ma K (He.ga K "File") "_receive") fd ["self", "content", "renaming", "answer", "stop"] (spRecv K) ∧ Binds K fd ["self", "content", "renaming", "answer", "stop"] [] := by
  obtain ⟨fd, F⟩ := W.says.def_ 21 (d := d_File__receive) rfl
  refine ⟨fd, FunD.ok F sc_File__receive (fun vs H Q E h => ?_) (fun cdv A outer s H vs Q E hr h => ?_), FunD.bindsN F (fun _ _ _ _ _ _ us hl => match us, hl with | [_, _, _, _, _], _ => rfl)⟩
  · obtain ⟨x, c, ren, reply, n, ns, ls, s, rfl, _⟩ := h
    rfl
  · obtain ⟨x, c, ren, reply, n, ns, ls, fs, rfl, hf, fok, lok, cok, k⟩ := h
    have CF : Cls K (He.ga K "File") := He.cls_ok (W.fact 97)
    have CR : Cls K (He.ga K "Rule") := He.cls_ok (W.fact 83)
    have CA : Cls K (He.ga K "Arrival") := He.cls_ok (W.fact 106)
    have MA : Mk K (He.ga K "Arrival") (He.ma K (He.ga K "Arrival") "__init__") := He.mkr_ok (W.fact 112)
    have gA := W.glo 13
    obtain ⟨fdA, FA, bA⟩ := IA
    obtain ⟨fdS, FS, bS⟩ := IS
    obtain ⟨fdO, FO, bO⟩ := IO
    obtain ⟨fdK, FK, bK⟩ := I_asks (P := P) (w := w) (base := base) W
    have MK := He.meth_ok (W.fact 88)
    have MS := He.meth_ok (W.fact 113)
    have MO := He.meth_ok (W.fact 114)
    have N1 : NoAttr K (He.ga K "File") "_rule" := He.noat_ok (W.fact 98)
    have N2 : NoAttr K (He.ga K "File") "_state" := He.noat_ok (W.fact 99)
    have N4 : NoAttr K (He.ga K "Arrival") "position" := He.noat_ok (W.fact 110)
    refine ⟨_, PSs.nox (Evl.pss_cut (ps_set (i := 5) sc_File__receive.nd rfl (by first | exact Or.inl rfl | exact Or.inr rfl) (pe_make MA FA (hr.mono (by decide)) (by rfl) gA bA .nil pass0 (pa_cons (pe_fld (pv 0) rfl) (pa_cons (pe_fld (pv 0) rfl) (pa_cons (pv 1) (pa_cons (pv 2) pa_nil)))))) (Evl.pss_cut (ps_if (PW.pt (pw_and (pt_cmpR op_isN (pv 3) pe_non (nomark _)) (pw_and1 (pt_val (pe_meth (pe_fld (pv 0) rfl) CR MK FK (hr.mono (by decide)) bK .nil pass0 (pa_cons (pe_fld (pv 5) rfl) pa_nil)))))) (pss_one SM.ps_never) pss_nil) (Evl.pss_cut (ps_if (PW.pt (pw_and (pt_cmpR op_notN (pv 4) pe_non (nomark _)) (pw_and1 (pt_not (pt_val (SM.pe_callD Dis_index (hr.mono (by decide)) pass0 (pa_cons (pv 4) (pa_cons (pe_callB call_len_seq (by rfl) (W.fre 70) (by decide +kernel) (pa_cons (pe_meth (pv 5) CA MS FS (hr.mono (by decide)) bS .nil pass0 (pa_cons (pv 3) pa_nil)) pa_nil)) pa_nil)))))))) (pss_one SM.ps_never) pss_nil) (Evl.pss_cut (ps_asg (pe_meth (pv 5) CA MO FO (hr.mono (by decide)) bO .nil pass0 (pa_cons (pv 3) (pa_cons (pv 4) pa_nil))) (pg_tup (by rfl) (pgs_cons (pg_name (i := 6) sc_File__receive.nd rfl (by first | exact Or.inl rfl | exact Or.inr rfl)) (pgs_cons (SM.pg_fld (pv 0)) pgs_nil)))) (pss_one (ps_ret (pv 6))))))), ?_⟩
    let l := lineOf ns ls fs c ren
    have hl : ls[taken (posOf ns) (heldOf (posOf ns) fs c ren) ls]? = some l := lineOf_at lok.l1
    have gl : GoodL ns l := lok.good l (List.mem_of_getElem? hl)
    let T : Option V → Option V → L2.St := fun x5 x6 => [some (.ref x), some (cV c), some (.bl ren), some (cV reply), some (nV n), x5, x6]
    obtain ⟨dx, r, v, hx, hru, dv⟩ := hf
    refine ⟨fun σ' H' => ∃ a, σ' = T (some (.ref a)) none ∧ Keep [] H H' ∧ ArrIs K H' a ns (ns.filter isPlace) ls fs c ren l, ?_, ?_⟩
    · refine ⟨_, rfl, x, _, dx, _, _, rfl, hx, CF, N1, rfl, _, rfl, x, _, dx, _, _, rfl, hx, CF, N2, rfl, _, rfl, _, rfl, fun a da na nda ne => ?_⟩
      have ka : Keep [] H (upd H da (.own a)) := Keep.new nda
      have kb : Keep [] (upd H da (.own a)) (upd (upd H da (.own a)) a (.ins (He.ga K "Arrival") da [])) := Keep.new (by rw [upd_ne ne.symm]; exact na)
      have kab := ka.trans kb
      refine ⟨a, da, r, v, c, ren, ns, ls, fs, rfl, upd_same, RuleFull.kf hru kab Far.nil, lok.n3, dv.k0 kab, fok.len, lok.l1, lok.l8, lok.good, cok.el, fun H' l' k' hl' har => ⟨rfl, a, rfl, kab.offNew k' na, ?_⟩⟩
      rw [hl] at hl'
      cases hl'
      exact har
    rintro σ' H1 ⟨a, rfl, k1, har⟩
    have hx1 := k1.to hx
    have hru1 := RuleFull.kf hru k1 Far.nil
    -- no question that is not answered
    refine ⟨fun σ' H' => σ' = T (some (.ref a)) none ∧ H' = H1, ?_, ?_⟩
    · refine rx_if (rx_and (rx_tTest (rx_op ⟨_, rfl, rfl, _, rfl, ?_⟩)))
      rw [non_cn]
      refine ite2 (fun e => ?_) (fun e => iteF ⟨rfl, rfl⟩)
      obtain ⟨da, y, vst, aa, vl, ha, _⟩ := har
      obtain ⟨dr, t, la, yy, xs, hr0, st, sl, dl⟩ := RuleFull.is_ hru1
      refine ⟨_, rfl, x, _, dx, _, _, rfl, hx1, CF, N1, rfl, r, dr, _, rfl, hr0, rfl, _, rfl, a, _, da, _, _, rfl, ha, CA, N4, rfl, ?_⟩
      refine ⟨r, _, ns, ls, l, rfl, ⟨dr, t, la, yy, xs, hr0, st, sl, dl⟩, hl, ?_⟩
      rw [show l.keep.isSome = false from cok.ask (of_decide_eq_true e)]
      exact ⟨_, rfl, iteF ⟨rfl, rfl⟩⟩
    rintro σ' H2 ⟨rfl, rfl⟩
    -- no stop that is none
    refine ⟨fun σ' H' => σ' = T (some (.ref a)) none ∧ H' = H2, ?_, ?_⟩
    · refine rx_if (rx_and (rx_tTest (rx_op ⟨_, rfl, rfl, _, rfl, ?_⟩)))
      cases n with
      | none => exact iteF (iteF ⟨rfl, rfl⟩)
      | some n0 =>
        have har' := har
        obtain ⟨da, y, vst, aa, vl, ha, _⟩ := har'
        refine iteT (rx_not ⟨_, rfl, _, rfl, a, da, _, rfl, ha, rfl, _, rfl, a, reply, ns, _, ls, fs, c, ren, l, rfl, har, fun u du => ?_⟩)
        obtain ⟨b, us, rfl, sb, dus⟩ := du.items
        refine ⟨b, us, rfl, .inr sb, .int (n0 : Int), .int (n0 : Int), (us.length : Int), rfl, .int _, ?_⟩
        have lu : us.length = (listFor l reply).length := by rw [dus.length, List.length_map]
        have lt := cok.st n0 rfl
        rw [show isIdx (us.length : Int) (.int (n0 : Int)) = true by
          rw [isIdx, decide_eq_true (show (0 : Int) ≤ (n0 : Int) by omega), decide_eq_true (show (n0 : Int) < (us.length : Int) by rw [lu]; exact Int.ofNat_lt.mpr lt)]; rfl]
        exact ⟨_, rfl, iteF ⟨rfl, rfl⟩⟩
    rintro σ' H3 ⟨rfl, rfl⟩
    -- the outcome
    let o := brought ns ls fs c ren reply n
    refine ⟨fun σ' H' => ∃ p, σ' = T (some (.ref a)) (some (.ref p)) ∧ H p = none ∧ Keep [x] H H' ∧ H' p = some (.lst (o.1.map V.str)) ∧ FileIs K H' x ns ls o.2, ?_, ?_⟩
    · have har' := har
      obtain ⟨da, y, vst, aa, vl, ha, _⟩ := har'
      refine ⟨_, rfl, a, da, _, rfl, ha, rfl, _, rfl, _, rfl, a, reply, n, ns, ns.filter isPlace, ls, fs, c, ren, l, rfl, har, fok, cok.ck, lok.n3, Nat.le_trans (isPlace_le ns) lok.n3, fun p hp => (List.mem_filter.mp hp).1, gl, cok.el, fun p t vt H' np k' ep dvt st => ?_⟩
      have hx' := k'.to hx1
      refine ⟨t, _, rfl, st, rfl, _, _, rfl, _, _, rfl, ⟨_, rfl, x, _, dx, _, rfl, hx', CF, N2, (by show 2 < 1000; decide), rfl, p, rfl, k1.free (by simp) np, ?_, ?_, ?_⟩⟩
      · exact (Keep.of_nil (k1.trans k')).trans (Keep.at_ (by simp))
      · have npx : p ≠ x := fun z => by
          rw [z, hx1] at np
          cases np
        rw [upd_ne npx]
        exact ep
      · have kz : Keep [x] H' (upd H' x (.ins (He.ga K "File") dx (fileFs r vt))) := Keep.at_ (by simp)
        have fz : Far [x] H' := Far.ins hx' (by show 2 < 3; decide)
        exact ⟨dx, r, vt, upd_same, RuleFull.kf (RuleFull.kf hru1 k' Far.nil) kz fz, dvt.keep kz fz.1⟩
    rintro σ' H4 ⟨p, rfl, np, k4, ep, hf4⟩
    exact ⟨_, rfl, k p H4 np k4 ep hf4⟩
abbrev s_File_upgrade : Stmt := (inClass (top 22) 11)
abbrev N_File_upgrade : List Str := ["self", "content", "answer", "stop"]
abbrev P_File_upgrade : List Str := ["self", "content", "answer", "stop"]
theorem sc_File_upgrade : FnScope N_File_upgrade P_File_upgrade (defScope s_File_upgrade) := ⟨rfl, rfl, rfl, by decide +kernel, rfl, by decide +kernel, by decide +kernel⟩
theorem I_Upgrade (W : Cw fas fns K mg) (Drefuse_bad_arrival : DefOk P w K mg base CX0 3 "refuse_bad_arrival" P_refuse_bad_arrival (spRefA K)) (IV : ∃ fd, FnOk P w K mg base CX0 4 (He.ma K (He.ga K "File") "_receive") fd ["self", "content", "renaming", "answer", "stop"] (spRecv K) ∧ Binds K fd ["self", "content", "renaming", "answer", "stop"] []) :
    ∃ (fd : FuncData) (g : List Value → List Value → List Value), FnOk P w K mg base CX0 5 (He.ma K (He.ga K "File") "upgrade") fd ["self", "content", "answer", "stop"] (spUp K false) ∧ KBn K fd ["self", "content", "answer", "stop"] 2 ["answer", "stop"] g (fun vs zs => vs ++ zs) := by
  obtain ⟨fd, F⟩ := W.says.def_ 19 (d := d_File_upgrade) rfl
  obtain ⟨mv, kb⟩ := FunD.kbinds0 (ps := ["self", "content", "answer", "stop"]) F 2 ["answer", "stop"] [] (fun vs _ zs => vs ++ zs) (fun z => by cases z) (fun q z => by cases z) (fun r1 _ r3 => r1.append r3) (fun D doc pm an cdv ct us mv ws l1 l2 l3 => match us, l1, mv, l2, ws, l3 with | [_, _], _, [], _, [_, _], _ => rfl)
  refine ⟨fd, _, FunD.ok F sc_File_upgrade (fun vs H Q E h => ?_) (fun cdv A outer s H vs Q E hr h => ?_), kb⟩
  · obtain ⟨x, c, reply, n, ns, ls, s, rfl, _⟩ := h
    rfl
  · obtain ⟨x, c, reply, n, ns, ls, fs, rfl, hf, fok, lok, cok, k⟩ := h
    have CF : Cls K (He.ga K "File") := He.cls_ok (W.fact 97)
    have MV := He.meth_ok (W.fact 104)
    obtain ⟨fdV, FV, bV⟩ := IV
    refine ⟨_, PSs.nox (Evl.pss_cut (ps_expr (SM.pe_callD Drefuse_bad_arrival (hr.mono (by decide)) pass0 (pa_cons (pv 1) (pa_cons (pv 2) pa_nil)))) (pss_one (ps_ret (pe_meth (pv 0) CF MV FV (hr.mono (by decide)) bV .nil pass0 (pa_cons (pv 1) (pa_cons pe_bl (pa_cons (pv 2) (pa_cons (pv 3) pa_nil)))))))), ?_⟩
    refine ⟨fun σ' H' => σ' = [some (.ref x), some (cV c), some (cV reply), some (nV n)] ∧ Keep [] H H', ⟨_, rfl, _, rfl, c, reply, rfl, cok.ck, cok.rk, fun H' k' => ⟨rfl, k'⟩⟩, ?_⟩
    rintro σ' H1 ⟨rfl, k1⟩
    obtain ⟨dx, r, v, hx, hru, dv⟩ := hf
    refine ⟨_, rfl, x, dx, _, rfl, k1.to hx, rfl, _, rfl, _, rfl, _, rfl, x, c, false, reply, n, ns, ls, fs, rfl, FileIs.k0 ⟨dx, r, v, hx, hru, dv⟩ k1, fok, lok, cok, fun p H' np k' ep hf' => ?_⟩
    exact k p H' (k1.free (by simp) np) ((Keep.of_nil k1).trans k') ep hf'
abbrev s_File_renamed : Stmt := (inClass (top 22) 12)
abbrev N_File_renamed : List Str := ["self", "content", "answer", "stop"]
abbrev P_File_renamed : List Str := ["self", "content", "answer", "stop"]
theorem sc_File_renamed : FnScope N_File_renamed P_File_renamed (defScope s_File_renamed) := ⟨rfl, rfl, rfl, by decide +kernel, rfl, by decide +kernel, by decide +kernel⟩
theorem I_Renamed (W : Cw fas fns K mg) (PG : PropAt K q_Rule_registers) (Drefuse_bad_arrival : DefOk P w K mg base CX0 3 "refuse_bad_arrival" P_refuse_bad_arrival (spRefA K)) (IV : ∃ fd, FnOk P w K mg base CX0 4 (He.ma K (He.ga K "File") "_receive") fd ["self", "content", "renaming", "answer", "stop"] (spRecv K) ∧ Binds K fd ["self", "content", "renaming", "answer", "stop"] []) :
    ∃ (fd : FuncData) (g : List Value → List Value → List Value), FnOk P w K mg base CX0 5 (He.ma K (He.ga K "File") "renamed") fd ["self", "content", "answer", "stop"] (fun vs H Q E => spUp K true vs H Q E ∧ ∃ x ns ls s, vs.head? = some (.ref x) ∧ FileIs K H x ns ls s ∧ ("elder" : Str) ∈ ns ∧ OkN ns) ∧ KBn K fd ["self", "content", "answer", "stop"] 2 ["answer", "stop"] g (fun vs zs => vs ++ zs) := by
  obtain ⟨fd, F⟩ := W.says.def_ 20 (d := d_File_renamed) rfl
  obtain ⟨mv, kb⟩ := FunD.kbinds0 (ps := ["self", "content", "answer", "stop"]) F 2 ["answer", "stop"] [] (fun vs _ zs => vs ++ zs) (fun z => by cases z) (fun q z => by cases z) (fun r1 _ r3 => r1.append r3) (fun D doc pm an cdv ct us mv ws l1 l2 l3 => match us, l1, mv, l2, ws, l3 with | [_, _], _, [], _, [_, _], _ => rfl)
  refine ⟨fd, _, FunD.ok F sc_File_renamed (fun vs H Q E h => ?_) (fun cdv A outer s H vs Q E hr h => ?_), kb⟩
  · obtain ⟨⟨x, c, reply, n, ns, ls, s, rfl, _⟩, _⟩ := h
    rfl
  · obtain ⟨⟨x, c, reply, n, ns, ls, fs, rfl, hf, fok, lok, cok, k⟩, x2, ns2, ls2, fs2, hx2, hf2, el2, ok2⟩ := h
    cases hx2
    have CF : Cls K (He.ga K "File") := He.cls_ok (W.fact 97)
    have CR : Cls K (He.ga K "Rule") := He.cls_ok (W.fact 83)
    have N1 : NoAttr K (He.ga K "File") "_rule" := He.noat_ok (W.fact 98)
    have MV := He.meth_ok (W.fact 104)
    obtain ⟨fdV, FV, bV⟩ := IV
    obtain ⟨fdPg, FPg, bPg⟩ := I_registers (P := P) (w := w) (base := base) PG W
    refine ⟨_, PSs.nox (Evl.pss_cut (ps_expr (SM.pe_callD Drefuse_bad_arrival (hr.mono (by decide)) pass0 (pa_cons (pv 1) (pa_cons (pv 2) pa_nil)))) (Evl.pss_cut (ps_if (pt_cmpR (SM.op_notInA (SM.units65 hr)) pe_str (pe_prop (pe_fld (pv 0) rfl) CR PG.of FPg (hr.mono (by decide)) bPg .nil pass0 rfl) (by rfl)) (pss_one SM.ps_never) pss_nil) (pss_one (ps_ret (pe_meth (pv 0) CF MV FV (hr.mono (by decide)) bV .nil pass0 (pa_cons (pv 1) (pa_cons pe_bl (pa_cons (pv 2) (pa_cons (pv 3) pa_nil))))))))), ?_⟩
    refine ⟨fun σ' H' => σ' = [some (.ref x), some (cV c), some (cV reply), some (nV n)] ∧ Keep [] H H', ⟨_, rfl, _, rfl, c, reply, rfl, cok.ck, cok.rk, fun H' k' => ⟨rfl, k'⟩⟩, ?_⟩
    rintro σ' H1 ⟨rfl, k1⟩
    refine ⟨fun σ' H' => σ' = [some (.ref x), some (cV c), some (cV reply), some (nV n)] ∧ H' = H1, ?_, ?_⟩
    · obtain ⟨dx, r, v, hx, hru, dv⟩ := FileIs.k0 hf2 k1
      obtain ⟨dr, t, la, yy, xs, hr0, st, sl, dl⟩ := RuleFull.is_ hru
      refine rx_if (rx_tTest (rx_op (rx_c ⟨_, rfl, x, _, dx, _, _, rfl, hx, CF, N1, rfl, r, dr, _, rfl, hr0, r, dr, t, la, yy, rfl, hr0, ?_⟩)))
      refine .inr ⟨.str "elder", ns2.map .str, .str _, .tup st (dpStrs ns2), by decide +kernel, (Lay.tuple (n := 0) fun d z => ?_).shaped (by decide), _, rfl, ?_⟩
      · obtain ⟨s, hs, rfl⟩ := List.mem_map.mp z
        exact .str (ok2 s hs)
      · rw [any_str, decide_eq_true el2]
        exact iteF ⟨rfl, rfl⟩
    rintro σ' H2 ⟨rfl, rfl⟩
    obtain ⟨dx, r, v, hx, hru, dv⟩ := hf
    refine ⟨_, rfl, x, dx, _, rfl, k1.to hx, rfl, _, rfl, _, rfl, _, rfl, x, c, true, reply, n, ns, ls, fs, rfl, FileIs.k0 ⟨dx, r, v, hx, hru, dv⟩ k1, fok, lok, cok, fun p H' np k' ep hf' => ?_⟩
    exact k p H' (k1.free (by simp) np) ((Keep.of_nil k1).trans k') ep hf'
end
end La
set_option Elab.async false
set_option linter.all false
set_option maxRecDepth 100000
set_option maxHeartbeats 4000000
namespace La
open PySem PySem.Spec PyProof.Rows L2 SM
/-- names and lines of a rule that may be made -/
structure VRule (ns : List Str) (ls : List Ln) : Prop where
  regs : regsD (ns.map .str) = true
  few : 1 ≤ ls.length ∧ ls.length ≤ 8
  good : ∀ z ∈ ls, GoodL ns z
  last : ∀ z, ls[ls.length - 1]? = some z → z.tests = []
theorem VRule.okN {ns : List Str} {ls : List Ln} (h : VRule ns ls) : ns.length ≤ 3 ∧ OkN ns ∧ ∀ s ∈ ns, s.length ≤ 8 := by
  have hd := h.regs
  rw [regsD, Bool.and_eq_true, Bool.and_eq_true, decide_eq_true_eq, List.length_map] at hd
  have w : ∀ s ∈ ns, isWord (.str s) = true := fun s hs => by
    have := List.all_eq_true.mp hd.2.1 _ (List.mem_map_of_mem hs)
    rw [isName, Bool.and_eq_true] at this
    exact this.1
  refine ⟨hd.1, fun s hs => word_ok (w s hs), fun s hs => ?_⟩
  have := w s hs
  rw [isWord, Bool.and_eq_true, Bool.and_eq_true, decide_eq_true_eq, decide_eq_true_eq] at this
  exact this.1.2
theorem strsOf_map : ∀ ns : List Str, strsOf (ns.map .str) = ns
  | [] => rfl
  | n :: ns => by rw [List.map_cons, strsOf, strsOf_map ns]
theorem memS_of {ns : List Str} {s : Str} (h : s ∈ ns) : memS ns (.str s) = true := by
  exact (any_str s ns).trans (decide_eq_true h)
theorem good_isStep {ns : List Str} {s : Str × Str} (h : GoodS ns s) : isStep ns (stepD s) = true := by
  show (memS ("here" :: ns) (.str s.1) && (memS ("here" :: ns) (.str s.2) || memS ["new", "nothing"] (.str s.2))) = true
  rw [Bool.and_eq_true, Bool.or_eq_true]
  refine ⟨memS_of (by rcases h.1 with e | e; · rw [e]; exact List.mem_cons_self
                      · exact List.mem_cons_of_mem _ e), ?_⟩
  rcases h.2 with e | e | e | e
  · exact .inr (memS_of (by rw [e]; exact List.mem_cons_self))
  · exact .inl (memS_of (by rw [e]; exact List.mem_cons_self))
  · exact .inr (memS_of (by rw [e]; exact List.mem_cons_of_mem _ List.mem_cons_self))
  · exact .inl (memS_of (List.mem_cons_of_mem _ e))
theorem good_isTest {ns : List Str} {s : Str × Str × Bool} (h : GoodT ns s) : isTest ns (testD s) = true := by
  show (memS ("here" :: "new" :: ns) (.str s.1) && ((memS ("here" :: "new" :: ns) (.str s.2.1) || PyData.eqv (.str s.2.1) (.str "nothing")) && true)) = true
  rw [Bool.and_true, Bool.and_eq_true, Bool.or_eq_true]
  refine ⟨memS_of (by rcases h.1 with e | e | e; · rw [e]; exact List.mem_cons_self
                      · rw [e]; exact List.mem_cons_of_mem _ List.mem_cons_self
                      · exact List.mem_cons_of_mem _ (List.mem_cons_of_mem _ e)), ?_⟩
  rcases h.2 with e | e | e | e
  · exact .inl (memS_of (by rw [e]; exact List.mem_cons_of_mem _ List.mem_cons_self))
  · exact .inl (memS_of (by rw [e]; exact List.mem_cons_self))
  · refine .inr ?_
    rw [e, PyData.eqv]
    exact beq_self_eq_true _
  · exact .inl (memS_of (List.mem_cons_of_mem _ (List.mem_cons_of_mem _ e)))
theorem good_isSteps {ns : List Str} {l : List (Str × Str)} (h : l.length ≤ 4 ∧ ∀ s ∈ l, GoodS ns s) : isSteps ns (stepsD l) = true := by
  show (decide ((l.map stepD).length ≤ 4) && (l.map stepD).all (isStep ns)) = true
  rw [Bool.and_eq_true, decide_eq_true_eq, List.length_map, List.all_eq_true]
  refine ⟨h.1, fun d z => ?_⟩
  obtain ⟨s, hs, rfl⟩ := List.mem_map.mp z
  exact good_isStep (h.2 s hs)
theorem good_isTests {ns : List Str} {l : List (Str × Str × Bool)} (h : l.length ≤ 4 ∧ ∀ s ∈ l, GoodT ns s) : isTests ns (testsD l) = true := by
  show (decide ((l.map testD).length ≤ 4) && (l.map testD).all (isTest ns)) = true
  rw [Bool.and_eq_true, decide_eq_true_eq, List.length_map, List.all_eq_true]
  refine ⟨h.1, fun d z => ?_⟩
  obtain ⟨s, hs, rfl⟩ := List.mem_map.mp z
  exact good_isTest (h.2 s hs)
theorem good_isLine {ns : List Str} {l : Ln} (h : GoodL ns l) : isLine ns (lnD l) = true := by
  obtain ⟨t, s, k⟩ := l
  have ht := good_isTests h.tests
  have hs := good_isSteps h.steps
  cases k with
  | none =>
    show ((decide ([stepsD s].length = 1) || decide ([stepsD s].length = 2)) && (isTests ns (testsD t) && [stepsD s].all (isSteps ns))) = true
    rw [show isTests ns (testsD t) = true from ht]
    simp only [List.all_cons, List.all_nil, show isSteps ns (stepsD s) = true from hs]
    rfl
  | some k =>
    have hk := good_isSteps (h.keep k rfl)
    show ((decide ([stepsD s, stepsD k].length = 1) || decide ([stepsD s, stepsD k].length = 2)) && (isTests ns (testsD t) && [stepsD s, stepsD k].all (isSteps ns))) = true
    rw [show isTests ns (testsD t) = true from ht]
    simp only [List.all_cons, List.all_nil, show isSteps ns (stepsD s) = true from hs, hk]
    rfl
theorem VRule.noBad {ns : List Str} {ls : List Ln} (h : VRule ns ls) : firstBad ns (ls.map lnD) = none := by
  refine find_none_to _ fun j hj => ?_
  rw [badAt, List.getElem?_map]
  cases e : ls[j]? with
  | none => rfl
  | some z =>
    show (!isLine ns (lnD z) || (decide (j + 1 = (ls.map lnD).length) && notNil (lnD z))) = false
    rw [good_isLine (h.good z (List.mem_of_getElem? e)), Bool.not_true, Bool.false_or, Bool.and_eq_false_iff, List.length_map]
    by_cases q : j + 1 = ls.length
    · refine .inr ?_
      have ez := h.last z (by rw [← e]; congr 1; omega)
      show (!PyData.eqv (testsD z.tests) (.tuple [])) = false
      rw [ez]
      show (!PyData.eqv (.tuple []) (.tuple [])) = false
      rw [eqv_tnil]
      rfl
    · exact .inl (decide_eq_false q)
theorem goodL_more {ns ms : List Str} {l : Ln} (h : GoodL ns l) (k : ∀ s ∈ ns, s ∈ ms) : GoodL ms l :=
  ⟨⟨h.tests.1, fun t z => ⟨(h.tests.2 t z).1.imp id (Or.imp id (k _)), (h.tests.2 t z).2.imp id (Or.imp id (Or.imp id (k _)))⟩⟩,
   ⟨h.steps.1, fun t z => ⟨(h.steps.2 t z).1.imp id (k _), (h.steps.2 t z).2.imp id (Or.imp id (Or.imp id (k _)))⟩⟩,
   fun q z => ⟨(h.keep q z).1, fun t z' => ⟨((h.keep q z).2 t z').1.imp id (k _), ((h.keep q z).2 t z').2.imp id (Or.imp id (Or.imp id (k _)))⟩⟩⟩
def nmOk (ns : List Str) : Bool := regsD (ns.map .str) && (regsD (ns.reverse.map .str) && ((decide (ns.length ≤ 1) || !decide (ns.reverse = ns)) && (decide (3 ≤ ns.length) || regsD ((ns ++ (["more"] : List Str)).map .str))))
theorem nm_all : (planNames.all fun ns => planWords.all fun wd => nmOk (ns.map (ren wd))) = true := by decide +kernel
theorem PlanOk.nm {ns : List Str} {ls : List Ln} (h : PlanOk ns ls) : nmOk ns = true := by
  obtain ⟨n0, h0, wd, hw, rfl⟩ := h.names
  exact List.all_eq_true.mp (List.all_eq_true.mp nm_all n0 h0) wd hw
theorem PlanOk.nms {ns : List Str} {ls : List Ln} (h : PlanOk ns ls) : regsD (ns.map .str) = true ∧ regsD (ns.reverse.map .str) = true ∧ (1 < ns.length → ns.reverse ≠ ns) ∧ (ns.length < 3 → regsD ((ns ++ (["more"] : List Str)).map .str) = true) := by
  have := h.nm
  rw [nmOk, Bool.and_eq_true, Bool.and_eq_true, Bool.and_eq_true, Bool.or_eq_true, Bool.or_eq_true, decide_eq_true_eq, decide_eq_true_eq, Bool.not_eq_true', decide_eq_false_iff_not] at this
  obtain ⟨a, b, c, d⟩ := this
  exact ⟨a, b, fun q => c.resolve_left (by omega), fun q => d.resolve_left (by omega)⟩
theorem PlanOk.v {ns : List Str} {ls : List Ln} (h : PlanOk ns ls) : VRule ns ls := by
  refine ⟨h.nms.1, ⟨h.few.1, Nat.le_trans h.few.2 (by decide)⟩, h.good, fun z hz => ?_⟩
  obtain ⟨is, e, rfl, he⟩ := h.last
  rw [List.length_append, List.length_singleton, Nat.add_sub_cancel, List.getElem?_append_right (Nat.le_refl _), Nat.sub_self] at hz
  cases hz
  exact he
theorem VRule.lastAt {ns : List Str} {ls : List Ln} {j : Nat} {z : Ln} (h : VRule ns ls) (e : ls[j]? = some z) (l : j + 1 = ls.length) : z.tests = [] :=
  h.last z (by rw [← e]; congr 1; omega)
/-- one line changed -/
theorem VRule.put {ns : List Str} {ls : List Ln} {j : Nat} {z z' : Ln} (h : VRule ns ls) (e : ls[j]? = some z) (g : GoodL ns z') (t : z.tests = [] → z'.tests = []) : VRule ns (ls.set j z') := by
  refine ⟨h.regs, by rw [List.length_set]; exact h.few, fun y hy => ?_, fun y hy => ?_⟩
  · rcases List.mem_or_eq_of_mem_set hy with q | q
    · exact h.good y q
    · rw [q]; exact g
  · rw [List.length_set, List.getElem?_set] at hy
    split at hy
    · rename_i q
      split at hy
      · cases hy
        exact t (h.last z (by rw [← q]; exact e))
      · cases hy
    · exact h.last y hy
/-- two lines changed about -/
theorem VRule.swap {ns : List Str} {ls : List Ln} {j : Nat} {z z2 : Ln} (h : VRule ns ls) (e : ls[j]? = some z) (e2 : ls[j + 1]? = some z2) (hj : j + 2 < ls.length) : VRule ns (ls.take j ++ [z2, z] ++ ls.drop (j + 2)) := by
  have ll : (ls.take j ++ [z2, z] ++ ls.drop (j + 2)).length = ls.length := by
    simp only [List.length_append, List.length_take, List.length_drop, List.length_cons, List.length_nil]
    omega
  refine ⟨h.regs, by rw [ll]; exact h.few, fun y hy => ?_, fun y hy => ?_⟩
  · rcases List.mem_append.mp hy with q | q
    · rcases List.mem_append.mp q with q | q
      · exact h.good y (List.mem_of_mem_take q)
      · simp only [List.mem_cons, List.not_mem_nil, or_false] at q
        rcases q with rfl | rfl
        · exact h.good _ (List.mem_of_getElem? e2)
        · exact h.good _ (List.mem_of_getElem? e)
    · exact h.good y (List.mem_of_mem_drop q)
  · have l1 : (ls.take j ++ [z2, z]).length = j + 2 := by
      simp only [List.length_append, List.length_take, List.length_cons, List.length_nil]
      omega
    rw [ll, List.getElem?_append_right (by omega), l1, List.getElem?_drop] at hy
    exact h.last y (by rw [← hy]; congr 1; omega)
theorem swap_ne {ls : List Ln} {j : Nat} {z z2 : Ln} (e : ls[j]? = some z) (n : z2 ≠ z) : ls.take j ++ [z2, z] ++ ls.drop (j + 2) ≠ ls := by
  intro q
  have hj : j < ls.length := by
    rcases Nat.lt_or_ge j ls.length with a | a
    · exact a
    · rw [List.getElem?_eq_none a] at e
      cases e
  have l : (ls.take j).length = j := by rw [List.length_take]; omega
  have := congrArg (·[j]?) q
  simp only [e] at this
  rw [List.append_assoc, List.getElem?_append_right (by omega), l, Nat.sub_self] at this
  injection this with this
  exact n this
theorem put_ne {ls : List Ln} {j : Nat} {z z' : Ln} (e : ls[j]? = some z) (n : z' ≠ z) : ls.set j z' ≠ ls := by
  intro q
  have := congrArg (·[j]?) q
  simp only [e, List.getElem?_set] at this
  have hj : j < ls.length := by
    rcases Nat.lt_or_ge j ls.length with a | a
    · exact a
    · rw [List.getElem?_eq_none a] at e
      cases e
  simp [hj] at this
  exact n this
theorem set_cut {ls : List Ln} {j : Nat} (z' : Ln) (h : j < ls.length) : ls.take j ++ [z'] ++ ls.drop (j + 1) = ls.set j z' := by
  rw [List.set_eq_take_append_cons_drop, if_pos h, List.append_assoc]
  rfl
theorem goodL_lay {ns : List Str} {l : Ln} (o : OkN ns) (h : GoodL ns l) : LayL (lnD l) := .of ((h.lay (n := 0) o).mono (by decide))
/-! ### the law's model of a file: a dict -/
def metaKeys : List Str := ["(last)", "(mark)", "(mine)", "(amid)"]
/-- the words of a plan: each once, none a word of the model's own -/
structure NmOk (ns : List Str) : Prop where
  nd : (planWordsOf ns).Nodup
  no : ∀ x ∈ planWordsOf ns, x ∉ metaKeys
  ok : OkN ns
  n3 : ns.length ≤ 3
theorem nm_meta : (planNames.all fun ns => planWords.all fun wd => (planWordsOf (ns.map (ren wd))).all fun x => !metaKeys.contains x) = true := by decide +kernel
theorem PlanOk.nmOk {ns : List Str} {ls : List Ln} (h : PlanOk ns ls) : NmOk ns := by
  refine ⟨words_nodup h.v.regs, ?_, h.v.okN.2.1, h.v.okN.1⟩
  obtain ⟨n0, h0, wd, hw, rfl⟩ := h.names
  intro x hx hm
  have := List.all_eq_true.mp (List.all_eq_true.mp (List.all_eq_true.mp nm_meta n0 h0) wd hw) x hx
  rw [Bool.not_eq_true', List.contains_eq_mem, decide_eq_false_iff_not] at this
  exact this hm
theorem NmOk.ne {ns : List Str} (n : NmOk ns) {x k : Str} (hx : x = "here" ∨ x ∈ ns) (hk : k ∈ metaKeys) : x ≠ k := fun e => by
  subst e
  refine n.no x (words_in ?_) hk
  rcases hx with e | e
  · exact .inl e
  · exact .inr (.inr (.inr e))
theorem pos_inj {ns : List Str} {x y : Str} (hx : x ∈ planWordsOf ns) (hy : y ∈ planWordsOf ns) (e : posOf ns x = posOf ns y) : x = y := by
  have h1 := List.getElem_idxOf (x := x) (xs := planWordsOf ns) (List.idxOf_lt_length_of_mem hx)
  have h2 := List.getElem_idxOf (x := y) (xs := planWordsOf ns) (List.idxOf_lt_length_of_mem hy)
  rw [← h1, ← h2]
  congr 1
theorem valP (kvs : List (Key × V)) (x y : Str) (v : V) : valV (putK kvs (.inr x) v) (.inr y) = if y = x then some v else valV kvs (.inr y) := by
  rw [valV_put]
  by_cases h : y = x
  · subst h
    rw [if_pos rfl, if_pos rfl]
  · rw [if_neg h, if_neg (fun e => h (Sum.inr.inj e))]
theorem len_put {kvs : List (Key × V)} {x : Str} {u v : V} (h : valV kvs (.inr x) = some u) : (putK kvs (.inr x) v).length = kvs.length := by
  unfold putK
  rw [if_pos (by rw [valV_any, h]; rfl), List.length_map]
theorem dg {H : Hp} {a : Addr} {kvs : List (Key × V)} {x : Str} {v : V} (e : H a = some (.dK kvs)) (h : valV kvs (.inr x) = some v) : DGet H a (.str x) (some v) := by
  rw [← h]
  exact DGet.k (k := .inr x) e
theorem dpu {H : Hp} {a : Addr} {kvs : List (Key × V)} {x : Str} {v : V} (e : H a = some (.dK kvs)) (l : kvs.length ≤ 100) : DPut H a (.str x) v (upd H a (.dK (putK kvs (.inr x) v))) := DPut.k (k := .inr x) e (Nat.lt_of_le_of_lt l (by decide))
/-- the model's keys, in the order they come -/
def keysL (ns : List Str) : List Key := ((("here" : Str) :: ns) ++ metaKeys).map Sum.inr
theorem keys_put {kvs : List (Key × V)} {x : Str} {u v : V} (h : valV kvs (.inr x) = some u) : (putK kvs (.inr x) v).map (·.1) = kvs.map (·.1) := by
  unfold putK
  rw [if_pos (by rw [valV_any, h]; rfl), List.map_map]
  refine List.map_congr_left fun p hp => ?_
  show (if p.1 = Sum.inr x then (p.1, v) else p).1 = p.1
  split <;> rfl
theorem keys_new {kvs : List (Key × V)} {x : Str} {v : V} (h : valV kvs (.inr x) = none) : (putK kvs (.inr x) v).map (·.1) = kvs.map (·.1) ++ [.inr x] := by
  rw [putK_new v h, List.map_append]
  rfl
structure Md (kvs : List (Key × V)) (ns : List Str) (s : Fs) : Prop where
  at_ : ∀ x : Str, (x = "here" ∨ x ∈ ns) → valV kvs (.inr x) = some (cV (atC s.cs (posOf ns x)))
  last : valV kvs (.inr "(last)") = some (cV s.last)
  mark : valV kvs (.inr "(mark)") = some (.str s.mark)
  mine : valV kvs (.inr "(mine)") = some (cV s.mine)
  amid : valV kvs (.inr "(amid)") = some (.bl s.amid)
  noel : ("elder" : Str) ∉ ns → valV kvs (.inr "elder") = none
  small : kvs.length ≤ 8
  len : s.cs.length = ns.length + 1
  keys : kvs.map (·.1) = keysL ns
theorem ne_str {x y : Str} (h : decide (x = y) = false) : x ≠ y := of_decide_eq_false h
theorem pos_here {ns : List Str} : posOf ns "here" = 0 := by
  rw [posOf, planWordsOf, List.append_assoc]
  show List.idxOf (Str.ofString "here") (Str.ofString "here" :: _) = 0
  rw [List.idxOf_cons_self]
theorem Md.here {kvs : List (Key × V)} {ns : List Str} {s : Fs} (m : Md kvs ns s) : valV kvs (.inr "here") = some (cV (atC s.cs 0)) := by
  have := m.at_ "here" (.inl rfl)
  rw [pos_here] at this
  exact this
theorem Md.putLast {kvs : List (Key × V)} {ns : List Str} {s : Fs} (n : NmOk ns) (m : Md kvs ns s) (c : Cn) : Md (putK kvs (.inr "(last)") (cV c)) ns { s with last := c } where
  at_ x hx := by rw [valP, if_neg (n.ne hx (by decide +kernel))]; exact m.at_ x hx
  last := by rw [valP, if_pos rfl]
  mark := by rw [valP, if_neg (ne_str (by decide +kernel))]; exact m.mark
  mine := by rw [valP, if_neg (ne_str (by decide +kernel))]; exact m.mine
  amid := by rw [valP, if_neg (ne_str (by decide +kernel))]; exact m.amid
  noel e := by rw [valP, if_neg (ne_str (by decide +kernel))]; exact m.noel e
  small := by rw [len_put m.last]; exact m.small
  len := m.len
  keys := by rw [keys_put m.last]; exact m.keys
theorem Md.putMark {kvs : List (Key × V)} {ns : List Str} {s : Fs} (n : NmOk ns) (m : Md kvs ns s) (c : Str) : Md (putK kvs (.inr "(mark)") (.str c)) ns { s with mark := c } where
  at_ x hx := by rw [valP, if_neg (n.ne hx (by decide +kernel))]; exact m.at_ x hx
  last := by rw [valP, if_neg (ne_str (by decide +kernel))]; exact m.last
  mark := by rw [valP, if_pos rfl]
  mine := by rw [valP, if_neg (ne_str (by decide +kernel))]; exact m.mine
  amid := by rw [valP, if_neg (ne_str (by decide +kernel))]; exact m.amid
  noel e := by rw [valP, if_neg (ne_str (by decide +kernel))]; exact m.noel e
  small := by rw [len_put m.mark]; exact m.small
  len := m.len
  keys := by rw [keys_put m.mark]; exact m.keys
theorem Md.putMine {kvs : List (Key × V)} {ns : List Str} {s : Fs} (n : NmOk ns) (m : Md kvs ns s) (c : Cn) : Md (putK kvs (.inr "(mine)") (cV c)) ns { s with mine := c } where
  at_ x hx := by rw [valP, if_neg (n.ne hx (by decide +kernel))]; exact m.at_ x hx
  last := by rw [valP, if_neg (ne_str (by decide +kernel))]; exact m.last
  mark := by rw [valP, if_neg (ne_str (by decide +kernel))]; exact m.mark
  mine := by rw [valP, if_pos rfl]
  amid := by rw [valP, if_neg (ne_str (by decide +kernel))]; exact m.amid
  noel e := by rw [valP, if_neg (ne_str (by decide +kernel))]; exact m.noel e
  small := by rw [len_put m.mine]; exact m.small
  len := m.len
  keys := by rw [keys_put m.mine]; exact m.keys
theorem Md.putAmid {kvs : List (Key × V)} {ns : List Str} {s : Fs} (n : NmOk ns) (m : Md kvs ns s) (b : Bool) : Md (putK kvs (.inr "(amid)") (.bl b)) ns { s with amid := b } where
  at_ x hx := by rw [valP, if_neg (n.ne hx (by decide +kernel))]; exact m.at_ x hx
  last := by rw [valP, if_neg (ne_str (by decide +kernel))]; exact m.last
  mark := by rw [valP, if_neg (ne_str (by decide +kernel))]; exact m.mark
  mine := by rw [valP, if_neg (ne_str (by decide +kernel))]; exact m.mine
  amid := by rw [valP, if_pos rfl]
  noel e := by rw [valP, if_neg (ne_str (by decide +kernel))]; exact m.noel e
  small := by rw [len_put m.amid]; exact m.small
  len := m.len
  keys := by rw [keys_put m.amid]; exact m.keys
theorem hw {ns : List Str} {x : Str} (hx : x = "here" ∨ x ∈ ns) : x ∈ planWordsOf ns := words_in (hx.elim .inl fun e => .inr (.inr (.inr e)))
theorem Md.putAt {kvs : List (Key × V)} {ns : List Str} {s : Fs} (n : NmOk ns) (m : Md kvs ns s) {x : Str} (hx : x = "here" ∨ x ∈ ns) (c : Cn) : Md (putK kvs (.inr x) (cV c)) ns { s with cs := s.cs.set (posOf ns x) c } where
  at_ y hy := by
    rw [valP]
    by_cases e : y = x
    · subst e
      rw [if_pos rfl]
      show _ = some (cV (atC (s.cs.set _ c) _))
      rw [atC_set_eq (by rw [m.len]; exact pos_low hy)]
    · rw [if_neg e, m.at_ y hy]
      show _ = some (cV (atC (s.cs.set _ c) _))
      rw [atC_set_ne (fun z => e (pos_inj (hw hy) (hw hx) z.symm))]
  last := by rw [valP, if_neg (n.ne hx (by decide +kernel)).symm]; exact m.last
  mark := by rw [valP, if_neg (n.ne hx (by decide +kernel)).symm]; exact m.mark
  mine := by rw [valP, if_neg (n.ne hx (by decide +kernel)).symm]; exact m.mine
  amid := by rw [valP, if_neg (n.ne hx (by decide +kernel)).symm]; exact m.amid
  noel e := by
    rw [valP, if_neg (fun z => by
      rcases hx with h | h
      · rw [h] at z
        exact absurd z (ne_str (by decide +kernel))
      · rw [← z] at h
        exact e h)]
    exact m.noel e
  small := by rw [len_put (m.at_ x hx)]; exact m.small
  len := by show (s.cs.set _ c).length = _; rw [List.length_set]; exact m.len
  keys := by rw [keys_put (m.at_ x hx)]; exact m.keys
/-- what a rule sees, by its words -/
structure Hd (kvs : List (Key × V)) (ns : List Str) (h : List Cn) : Prop where
  at_ : ∀ x ∈ planWordsOf ns, valV kvs (.inr x) = some (cV (atC h (posOf ns x)))
  small : kvs.length ≤ 10
  len : h.length = ns.length + 3
theorem Hd.put {kvs : List (Key × V)} {ns : List Str} {h : List Cn} (d : Hd kvs ns h) {x : Str} (hx : x ∈ planWordsOf ns) (c : Cn) : Hd (putK kvs (.inr x) (cV c)) ns (h.set (posOf ns x) c) where
  at_ y hy := by
    rw [valP]
    by_cases e : y = x
    · subst e
      rw [if_pos rfl, atC_set_eq (by rw [d.len]; exact pos_lt hy)]
    · rw [if_neg e, d.at_ y hy, atC_set_ne (fun z => e (pos_inj hy hx z.symm))]
  small := by rw [len_put (d.at_ x hx)]; exact d.small
  len := by rw [List.length_set]; exact d.len
theorem pos_new {ns : List Str} (n : NmOk ns) : posOf ns "new" = ns.length + 1 := idx_of n.nd (by
  rw [planWordsOf, List.getElem?_append_right (by rw [List.length_append]; show 1 + ns.length ≤ _; omega), List.length_append]
  rw [show ns.length + 1 - ((["here"] : List Str).length + ns.length) = 0 by show ns.length + 1 - (1 + ns.length) = 0; omega]
  rfl)
theorem pos_nothing {ns : List Str} (n : NmOk ns) : posOf ns "nothing" = ns.length + 2 := idx_of n.nd (by
  rw [planWordsOf, List.getElem?_append_right (by rw [List.length_append]; show 1 + ns.length ≤ _; omega), List.length_append]
  rw [show ns.length + 2 - ((["here"] : List Str).length + ns.length) = 1 by show ns.length + 2 - (1 + ns.length) = 1; omega]
  rfl)
theorem Md.held {kvs : List (Key × V)} {ns : List Str} {s : Fs} (n : NmOk ns) (m : Md kvs ns s) (c : Cn) : Hd (putK (putK kvs (.inr "new") (cV c)) (.inr "nothing") .non) ns (s.cs ++ [c, none]) where
  at_ y hy := by
    rw [valP, valP]
    by_cases e1 : y = "nothing"
    · rw [if_pos e1, e1, pos_nothing n, atC, List.getElem?_append_right (by rw [m.len]; omega), m.len]
      rw [show ns.length + 2 - (ns.length + 1) = 1 by omega]
      rfl
    · by_cases e2 : y = "new"
      · rw [if_neg e1, if_pos e2, e2, pos_new n, atC, List.getElem?_append_right (by rw [m.len]; omega), m.len, Nat.sub_self]
        rfl
      · have hy' : y = "here" ∨ y ∈ ns := by
          unfold planWordsOf at hy
          rcases List.mem_append.mp hy with hy | hy
          · rcases List.mem_append.mp hy with hy | hy
            · exact .inl (List.mem_singleton.mp hy)
            · exact .inr hy
          · simp only [List.mem_cons, List.not_mem_nil, or_false] at hy
            rcases hy with e | e
            · exact absurd e e2
            · exact absurd e e1
        rw [if_neg e1, if_neg e2, m.at_ y hy', atC, atC, List.getElem?_append_left (by rw [m.len]; exact pos_low hy')]
  small := by
    refine Nat.le_trans (length_putK _ _ _) ?_
    have := length_putK kvs (.inr "new") (cV c)
    have := m.small
    omega
  len := by rw [List.length_append, m.len]; rfl
end La
set_option Elab.async false
set_option linter.all false
set_option maxRecDepth 100000
set_option maxHeartbeats 4000000
namespace La
open PySem PySem.Spec PyProof.Rows L2 SM
theorem atC_rep (n i : Nat) : atC (List.replicate n none) i = none := by
  rw [atC, List.getElem?_replicate]
  split <;> rfl
def spNew (K : PySem.W.Frag) : Sp := fun vs H Q _ => ∃ (v : V) (ns : List Str) (ls : List Ln), vs = [v] ∧ Dt K H v (planD ns ls) ∧ NmOk ns ∧ ∀ p H' kvs, H p = none → Keep [] H H' → H' p = some (.dK kvs) → Md kvs ns (firstS ns.length) → Q (.ref p) H'
theorem plan_parts {K : PySem.W.Frag} {H : Hp} {v : V} {ns : List Str} {ls : List Ln} (h : Dt K H v (planD ns ls)) : ∃ a b c xs, v = .ref a ∧ SqT K H a [.ref b, .ref c] ∧ SqT K H b (ns.map V.str) ∧ SqT K H c xs ∧ DtAll K H xs (ls.map lnD) := by
  obtain ⟨a, us, rfl, sq, dus⟩ := h.items
  cases dus with
  | @cons u0 _ _ _ d0 dus =>
  cases dus with
  | @cons u1 _ _ _ d1 dus =>
  cases dus
  obtain ⟨b, xb, rfl, sb, db⟩ := d0.items
  obtain ⟨c, xc, rfl, sc, dc⟩ := d1.items
  obtain rfl := strs_of db
  exact ⟨a, b, c, xc, rfl, sq, sb, sc, dc⟩
theorem new_take {ns : List Str} (nd : ns.Nodup) {i : Nat} {m : Str} (h : ns[i]? = some m) : m ∉ ns.take i := fun z => by
  obtain ⟨j, hj, e⟩ := List.getElem_of_mem z
  rw [List.length_take] at hj
  rw [List.getElem_take] at e
  have a := idx_of nd h
  have b := idx_of nd (List.getElem?_eq_some_iff.mpr ⟨by omega, e⟩)
  omega
section
variable {P : Program} {w : World} {K : PySem.W.Frag} {mg : Str → Option Value} {base : Heap}
abbrev s__law_new : Stmt := (top 53)
abbrev N__law_new : List Str := ["plan", "found", "name"]
abbrev P__law_new : List Str := ["plan"]
theorem sc__law_new : FnScope N__law_new P__law_new (defScope s__law_new) := ⟨rfl, rfl, rfl, by decide +kernel, rfl, by decide +kernel, by decide +kernel⟩
theorem D_law_new (W : Cw fas fns K mg) : DefOk P w K mg base CX0 1 "_law_new" P__law_new (spNew K) := by
  refine DefOk.of W 50 45 (st := s__law_new) rfl rfl sc__law_new (fun _ _ _ _ _ _ us hl => match us, hl with | [_], _ => rfl) (fun vs H Q E h => ?_) (fun cdv A outer s H vs Q E hr h => ?_)
  · obtain ⟨v, ns, ls, rfl, _⟩ := h
    rfl
  · obtain ⟨v, ns, ls, rfl, dp, nm, k⟩ := h
    refine ⟨_, PSs.nox (Evl.pss_cut (ps_set (i := 1) sc__law_new.nd rfl (by first | exact Or.inl rfl | exact Or.inr rfl) (pe_disp (pps_cons pe_str pe_non pps_nil) (by rfl) (by rfl) (fun z => by cases z) (by decide))) (Evl.pss_cut (ps_for PassesOwn.never rfl (pi_tup (pe_ix ix_seq (pv 0) pe_int (fun _ _ => rfl))) (pg_name (i := 2) sc__law_new.nd rfl (by first | exact Or.inl rfl | exact Or.inr rfl)) (pss_one (ps_asg pe_non (pg_sub (pv 1) (pv 2) (SM.set_dict (hu_of hr)))))) (Evl.pss_cut (ps_asg (pe_tup (pa_cons pe_non (pa_cons pe_str (pa_cons pe_non (pa_cons pe_bl pa_nil))))) (pg_tup (by rfl) (pgs_cons (pg_sub (pv 1) pe_str (SM.set_dict (hu_of hr))) (pgs_cons (pg_sub (pv 1) pe_str (SM.set_dict (hu_of hr))) (pgs_cons (pg_sub (pv 1) pe_str (SM.set_dict (hu_of hr))) (pgs_cons (pg_sub (pv 1) pe_str (SM.set_dict (hu_of hr))) pgs_nil)))))) (pss_one (ps_ret (pv 1)))))), ?_⟩
    obtain ⟨a, b, c, xs, rfl, sa, sb, sc, dc⟩ := plan_parts dp
    let T : Option V → Option V → L2.St := fun x1 x2 => [some (.ref a), x1, x2]
    have nd := nm.nd
    rw [planWordsOf, List.append_assoc] at nd
    have nd : (("here" : Str) :: (ns ++ (["new", "nothing"] : List Str))).Nodup := nd
    have nd0 : ∀ m ∈ ns, m ≠ "here" := fun m hm e => (List.nodup_cons.mp nd).1 (List.mem_append_left _ (e ▸ hm))
    have nd1 : ns.Nodup := (List.nodup_append.mp (List.nodup_cons.mp nd).2).1
    refine ⟨fun σ' H' => ∃ p, σ' = T (some (.ref p)) none ∧ H p = none ∧ Keep [] H H' ∧ H' p = some (.dK [(.inr "here", .non)]), ?_, ?_⟩
    · exact fun p hp => ⟨upd_same, [(.inr "here", .non)], rfl, (by decide), p, rfl, hp, Keep.own (Keep.new hp) hp, upd_same⟩
    rintro σ' H1 ⟨p, rfl, hp, k1, e1⟩
    refine ⟨fun σ' H' => ∃ x2 kvs, σ' = T (some (.ref p)) x2 ∧ Keep [] H H' ∧ H' p = some (.dK kvs) ∧ kvs.length ≤ 1 + ns.length ∧ kvs.map (·.1) = (("here" : Str) :: ns).map Sum.inr ∧ ∀ y : Str, valV kvs (.inr y) = if y = "here" ∨ y ∈ ns then some .non else none, ?_, ?_⟩
    · refine ⟨_, rfl, .inr (.inl ⟨a, _, 0, _, rfl, rfl, seqT_keep k1 Soft.nil sa, at0 _ _, b, rfl, ⟨_, seqT_keep k1 Soft.nil sb⟩, ?_⟩)⟩
      refine for_tup (xs := ns.map V.str) (fun i σ' H' => ∃ x2 kvs, σ' = T (some (.ref p)) x2 ∧ Keep [] H H' ∧ H' p = some (.dK kvs) ∧ kvs.length ≤ 1 + i ∧ kvs.map (·.1) = (("here" : Str) :: ns.take i).map Sum.inr ∧ ∀ y : Str, valV kvs (.inr y) = if y = "here" ∨ y ∈ ns.take i then some .non else none) ⟨none, _, rfl, k1, e1, Nat.le_refl _, rfl, fun y => ?_⟩ (fun i σ' H' _ z => by obtain ⟨_, _, _, kk, _⟩ := z; exact seqT_keep kk Soft.nil sb) ?_ ?_
      · rw [List.take_zero]
        by_cases e : y = "here"
        · rw [if_pos (.inl e), e]
          rfl
        · rw [if_neg (fun z => z.elim e fun z => by cases z), valV_neg (fun z => e (Sum.inr.inj z).symm)]
          rfl
      · rintro i y σ' H3 hy ⟨x2, kvs, rfl, k3, e3, l3, y3, f3⟩
        rw [List.getElem?_map] at hy
        cases es : ns[i]? with
        | none => rw [es] at hy; cases hy
        | some m =>
        rw [es] at hy
        cases hy
        have hi : i < ns.length := (List.getElem?_eq_some_iff.mp es).1
        have n3 := nm.n3
        refine rx_asg (rx_c ⟨_, rfl, _, rfl, p, _, rfl, dpu e3 (by omega), _, _, rfl, Keep.own k3 hp, upd_same, Nat.le_trans (length_putK _ _ _) (by omega), ?_, fun y => ?_⟩)
        · rw [keys_new (v := .non) (by rw [f3, if_neg (fun z => z.elim (fun z => absurd (nd0 m (List.mem_of_getElem? es)) (by rw [z]; exact fun q => q rfl)) (fun z => new_take nd1 es z))]), y3, List.take_succ, es, Option.toList_some, ← List.cons_append, List.map_append]
          rfl
        rw [valP, f3 y, List.take_succ, es, Option.toList_some]
        by_cases e : y = m
        · rw [if_pos e, if_pos (.inr (by rw [e]; simp))]
        · rw [if_neg e]
          by_cases q : y = "here" ∨ y ∈ ns.take i
          · rw [if_pos q, if_pos (q.imp id fun z => List.mem_append_left _ z)]
          · rw [if_neg q, if_neg (fun z => q (z.imp id fun z => (List.mem_append.mp z).resolve_right fun z => e (List.mem_singleton.mp z)))]
      · rintro σ' H3 ⟨x2, kvs, rfl, k3, e3, l3, y3, f3⟩
        rw [List.length_map] at l3 f3 y3
        rw [List.take_length] at f3 y3
        exact ⟨_, _, rfl, k3, e3, l3, y3, f3⟩
    rintro σ' H2 ⟨x2, kvs, rfl, k2, e2, l2, y2, f2⟩
    have n3 := nm.n3
    have lp := fun (x : Str) (v : V) (q : List (Key × V)) => length_putK q (.inr x) v
    let kv4 := putK (putK (putK (putK kvs (.inr "(last)") .non) (.inr "(mark)") (.str "none")) (.inr "(mine)") .non) (.inr "(amid)") (.bl false)
    have h1 := lp "(last)" .non kvs
    have h2 := lp "(mark)" (.str "none") (putK kvs (.inr "(last)") .non)
    have h3 := lp "(mine)" .non (putK (putK kvs (.inr "(last)") .non) (.inr "(mark)") (.str "none"))
    have h4 := lp "(amid)" (.bl false) (putK (putK (putK kvs (.inr "(last)") .non) (.inr "(mark)") (.str "none")) (.inr "(mine)") .non)
    refine ⟨fun σ' H' => σ' = T (some (.ref p)) x2 ∧ Keep [] H H' ∧ H' p = some (.dK kv4), ?_, ?_⟩
    · refine rx_asg (rx_tup ⟨(by show 4 ≤ sizeLine; decide), fun t ht => ?_⟩)
      have e0 := (Keep.new (m := []) (o := .tup [.non, .str "none", .non, .bl false]) ht).to e2
      refine ⟨t, _, rfl, SqT.of upd_same, rfl, _, _, rfl, ⟨_, rfl, p, _, rfl, dpu e0 (by omega), ?_⟩⟩
      refine ⟨_, _, rfl, ⟨_, rfl, p, _, rfl, dpu upd_same (by omega), ?_⟩⟩
      refine ⟨_, _, rfl, ⟨_, rfl, p, _, rfl, dpu upd_same (by omega), ?_⟩⟩
      refine ⟨_, _, rfl, ⟨_, rfl, p, _, rfl, dpu upd_same (by omega), rfl, rfl, ?_, upd_same⟩⟩
      exact Keep.own (Keep.own (Keep.own (Keep.own (k2.trans (Keep.new ht)) hp) hp) hp) hp
    rintro σ' H3 ⟨rfl, k3, e3⟩
    refine ⟨_, rfl, k p H3 kv4 hp k3 e3 ?_⟩
    have gets : ∀ y : Str, valV kv4 (.inr y) = if y = "(amid)" then some (.bl false) else if y = "(mine)" then some .non else if y = "(mark)" then some (.str "none") else if y = "(last)" then some .non else valV kvs (.inr y) := fun y => by
      rw [valP, valP, valP, valP]
    refine ⟨fun x hx => ?_, ?_, ?_, ?_, ?_, fun e => ?_, by show (putK (putK (putK (putK kvs _ _) _ _) _ _) _ _).length ≤ 8; omega, by show (List.replicate _ _).length = _; rw [List.length_replicate], ?_⟩
    · rw [gets, if_neg (nm.ne hx (by decide +kernel)), if_neg (nm.ne hx (by decide +kernel)), if_neg (nm.ne hx (by decide +kernel)), if_neg (nm.ne hx (by decide +kernel)), f2, if_pos hx]
      show _ = some (cV (atC (List.replicate _ none) _))
      rw [atC_rep]
      rfl
    · rw [gets, if_neg (ne_str (by decide +kernel)), if_neg (ne_str (by decide +kernel)), if_neg (ne_str (by decide +kernel)), if_pos rfl]; rfl
    · rw [gets, if_neg (ne_str (by decide +kernel)), if_neg (ne_str (by decide +kernel)), if_pos rfl]; rfl
    · rw [gets, if_neg (ne_str (by decide +kernel)), if_pos rfl]; rfl
    · rw [gets, if_pos rfl]; rfl
    · rw [gets, if_neg (ne_str (by decide +kernel)), if_neg (ne_str (by decide +kernel)), if_neg (ne_str (by decide +kernel)), if_neg (ne_str (by decide +kernel)), f2, if_neg (fun z => z.elim (fun z => absurd z (ne_str (by decide +kernel))) e)]
    · have no : ∀ k ∈ metaKeys, valV kvs (.inr k) = none := fun k hk => by
        rw [f2, if_neg (fun z => nm.ne z hk rfl)]
      show (putK (putK (putK (putK kvs _ _) _ _) _ _) _ _).map (·.1) = _
      rw [keys_new (by rw [valP, valP, valP, if_neg (ne_str (by decide +kernel)), if_neg (ne_str (by decide +kernel)), if_neg (ne_str (by decide +kernel))]; exact no _ (by decide +kernel)),
        keys_new (by rw [valP, valP, if_neg (ne_str (by decide +kernel)), if_neg (ne_str (by decide +kernel))]; exact no _ (by decide +kernel)),
        keys_new (by rw [valP, if_neg (ne_str (by decide +kernel))]; exact no _ (by decide +kernel)), keys_new (no _ (by decide +kernel)), y2]
      rw [keysL, List.map_append, List.append_assoc, List.append_assoc, List.append_assoc]
      rfl
end
end La
set_option Elab.async false
set_option linter.all false
set_option maxRecDepth 100000
set_option maxHeartbeats 4000000
namespace La
open PySem PySem.Spec PyProof.Rows L2 SM
def spLTaken (K : PySem.W.Frag) : Sp := fun vs H Q _ => ∃ (v : V) (d : Addr) (kvs : List (Key × V)) (h : List Cn) (ns : List Str) (ls : List Ln), vs = [v, .ref d] ∧ Dt K H v (planD ns ls) ∧ H d = some (.dK kvs) ∧ Hd kvs ns h ∧ NmOk ns ∧ LsOk ns ls ∧ ∀ H', Keep [] H H' → Q (.int (taken (posOf ns) h ls : Nat)) H'
def spLHeld (K : PySem.W.Frag) : Sp := fun vs H Q _ => ∃ (d : Addr) (kvs : List (Key × V)) (c : Cn) (ren : Bool) (ns : List Str) (s : Fs), vs = [.ref d, cV c, .bl ren] ∧ H d = some (.dK kvs) ∧ Md kvs ns s ∧ NmOk ns ∧ (ren = true → ("elder" : Str) ∈ ns) ∧ ∀ p H' kvs', H p = none → Keep [] H H' → H' p = some (.dK kvs') → Hd kvs' ns (heldOf (posOf ns) s c ren) → Q (.ref p) H'
theorem failed_nil {f : Str → Nat} {h : List Cn} {l : Ln} : (l.tests.filter fun t => !testOk f h t).isEmpty = lineOk f h l := by
  rw [lineOk, Bool.eq_iff_iff, List.isEmpty_iff, List.filter_eq_nil_iff, List.all_eq_true]
  exact ⟨fun z t ht => by have := z t ht; simpa using this, fun z t ht => by rw [z t ht]; simp⟩
theorem zip_filter {α β : Type} (p : β → Bool) : ∀ (us : List α) (ts : List β), us.length = ts.length → ((us.zip ts).filter fun q => p q.2).map (·.2) = ts.filter p
  | [], [], _ => rfl
  | u :: us, t :: ts, h => by
    rw [List.zip_cons_cons, List.filter_cons, List.filter_cons]
    have ih := zip_filter p us ts (by simpa using h)
    cases e : p t with
    | true => rw [if_pos rfl, if_pos rfl, List.map_cons, ih]
    | false => rw [if_neg Bool.false_ne_true, if_neg Bool.false_ne_true, ih]
  | [], _ :: _, h => by cases h
  | _ :: _, [], h => by cases h
theorem zip_dt {K : PySem.W.Frag} {H : Hp} {β : Type} (g : β → PyData) (p : V × β → Bool) : ∀ {us : List V} {ts : List β}, DtAll K H us (ts.map g) → DtAll K H (((us.zip ts).filter p).map (·.1)) ((((us.zip ts).filter p).map (·.2)).map g)
  | [], [], _ => .nil
  | u :: us, t :: ts, .cons h d => by
    have ih := zip_dt g p d
    rw [List.zip_cons_cons, List.filter_cons]
    split
    · exact .cons h ih
    · exact ih
section
variable {P : Program} {w : World} {K : PySem.W.Frag} {mg : Str → Option Value} {base : Heap}
abbrev s__law_taken : Stmt := (top 54)
abbrev N__law_taken : List Str := ["plan", "held", "position", "line", "failed", "test"]
abbrev P__law_taken : List Str := ["plan", "held"]
theorem sc__law_taken : FnScope N__law_taken P__law_taken (defScope s__law_taken) := ⟨rfl, rfl, rfl, by decide +kernel, rfl, by decide +kernel, by decide +kernel⟩
theorem D_law_taken (W : Cw fas fns K mg) : DefOk P w K mg base CX0 1 "_law_taken" P__law_taken (spLTaken K) := by
  refine DefOk.of W 51 46 (st := s__law_taken) rfl rfl sc__law_taken (fun _ _ _ _ _ _ us hl => match us, hl with | [_, _], _ => rfl) (fun vs H Q E h => ?_) (fun cdv A outer s H vs Q E hr h => ?_)
  · obtain ⟨v, d, kvs, h, ns, ls, rfl, _⟩ := h
    rfl
  · obtain ⟨v, d, kvs, h, ns, ls, rfl, dp, ed, hd, nm, lok, k⟩ := h
    refine ⟨_, PSs.nox (Evl.pss_cut (ps_for PassesOwn.never rfl (SM.pi_enumA (by rfl) (W.fre 67) (pa_cons (pe_ix ix_seq (pv 0) pe_int (fun _ _ => rfl)) pa_nil)) (pg_tup (by rfl) (pgs_cons (pg_name (i := 2) sc__law_taken.nd rfl (by first | exact Or.inl rfl | exact Or.inr rfl)) (pgs_cons (pg_name (i := 3) sc__law_taken.nd rfl (by first | exact Or.inl rfl | exact Or.inr rfl)) pgs_nil))) (Evl.pss_cut (ps_setLc (i := 4) (own := [("test", 5)]) (g := gName 5) (tt := tTest (tOp rNe (tOp rEq (tDGet (tVar 1) (tOp (rIx K) (tVar 5) (tC (.int 0)))) (tDGet (tVar 1) (tOp (rIx K) (tVar 5) (tC (.int 1))))) (tOp (rIx K) (tVar 5) (tC (.int 2))))) (by rfl) sc__law_taken.nd rfl rfl (sw_true rfl rfl rfl (by decide +kernel)) (pi_tup (pe_ix ix_seq (pv 3) pe_int (fun _ _ => rfl))) (blkOk_by (own := [("test", 5)]) (N := N__law_taken) (sc := defScope s__law_taken) (by decide +kernel)) (fun _ _ _ _ _ => pg_name (i := 5) sc__law_taken.nd rfl (Or.inl rfl)) (fun _ _ _ _ _ => pts_one (pt_cmpR op_ne (pe_cmpR op_eq (pe_dget (hu_of hr) (pv 1) (pe_ix ix_seq (pv 5) pe_int (fun _ _ => rfl)) (fun _ _ => rfl)) (pe_dget (hu_of hr) (pv 1) (pe_ix ix_seq (pv 5) pe_int (fun _ _ => rfl)) (fun _ _ => rfl)) (nomark _)) (pe_ix ix_seq (pv 5) pe_int (fun _ _ => rfl)) (nomark _))) (fun _ _ _ _ _ => (pv 5))) (pss_one (ps_if (pt_cmpR (op_eqD hr.units) (pv 4) (pe_lst pa_nil) (nomark _)) (pss_one (ps_ret (pv 2))) pss_nil)))) (pss_one (ps_ret (pe_op op_sub (pe_callB call_len_seq (by rfl) (W.fre 70) (by decide +kernel) (pa_cons (pe_ix ix_seq (pv 0) pe_int (fun _ _ => rfl)) pa_nil)) pe_int)))), ?_⟩
    obtain ⟨a, b, c, xs, rfl, sa, sb, sc, dc⟩ := plan_parts dp
    have lx : xs.length = ls.length := by rw [dc.length, List.length_map]
    let f := posOf ns
    let T : Option V → Option V → Option V → L2.St := fun x2 x3 x4 => [some (.ref a), some (.ref d), x2, x3, x4, none]
    refine ⟨fun σ' H' => ∃ x2 x3 x4, σ' = T x2 x3 x4 ∧ Keep [] H H' ∧ ∀ j, j < ls.length → ∀ l, ls[j]? = some l → lineOk f h l = false, ?_, ?_⟩
    · refine ⟨_, rfl, .inr (.inl ⟨a, _, 1, _, rfl, rfl, sa, at1 _ _ _, c, xs, rfl, for_enumA (fun i σ' H' => ∃ x2 x3 x4, σ' = T x2 x3 x4 ∧ Keep [] H H' ∧ ∀ j, j < i → ∀ l, ls[j]? = some l → lineOk f h l = false) (.inr sc) ⟨none, none, none, rfl, Keep.refl, fun j z => absurd z (Nat.not_lt_zero _)⟩ (fun i σ' H' z => by obtain ⟨_, _, _, _, kk, _⟩ := z; exact kk) ?_ ?_⟩)⟩
      · rintro i x T0 σ' H3 hx ⟨x2, x3, x4, rfl, k3, no⟩ hT0
        have kT : Keep [] H3 (upd H3 T0 (.tup [.int (i : Int), x])) := Keep.new hT0
        have k03 := k3.trans kT
        obtain ⟨dd, hdd, dx⟩ := dc.get hx
        rw [List.getElem?_map] at hdd
        cases hl : ls[i]? with
        | none => rw [hl] at hdd; cases hdd
        | some l =>
        rw [hl] at hdd
        cases hdd
        have hi : i < ls.length := (List.getElem?_eq_some_iff.mp hl).1
        have gl := lok.good l (List.mem_of_getElem? hl)
        obtain ⟨la, us, rfl, sl, du⟩ := (dx.k0 k03).items
        cases du with
        | @cons u0 _ _ _ g0 du =>
        obtain ⟨ta, txs, rfl, st, dt⟩ := g0.items
        have ltx : txs.length = l.tests.length := by rw [dt.length, List.length_map]
        refine ⟨T0, _, rfl, SqT.of upd_same, rfl, _, _, rfl, _, _, rfl, rfl, ?_⟩
        -- the tests that fail
        let L := txs.zip l.tests
        have Lx : L.map (·.1) = txs := by rw [List.map_fst_zip (by omega)]
        have Lt : L.map (·.2) = l.tests := by rw [List.map_snd_zip (by omega)]
        let fl := L.filter fun q => !testOk f h q.2
        let HT := upd H3 T0 (.tup [.int (i : Int), .ref la])
        refine ⟨fun σ' H' => ∃ D, σ' = T (some (.int (i : Int))) (some (.ref la)) (some (.ref D)) ∧ Keep [] HT H' ∧ H' D = some (.lst (fl.map (·.1))), ?_, ?_⟩
        · refine rx_asg ?_
          refine lcTP (l := L) (e := fun q => q.1) (p := fun q => !testOk f h q.2) (by show 5 < 6; decide) (by rw [List.length_zip, ltx, Nat.min_self]; exact Nat.le_trans gl.tests.1 (by decide)) (fun Q' q => ⟨_, rfl, .inr (.inl ⟨la, _, 0, _, rfl, rfl, sl, at0 _ _, q ta _ Keep.refl (by rw [Lx]; exact st)⟩)⟩) (fun j q H4 hq k4 Q' q' => ?_) fun D H4 nD k4 eD => ⟨D, rfl, k4, eD⟩
          have h1 : txs[j]? = some q.1 := by rw [← Lx, List.getElem?_map, hq]; rfl
          have h2 : l.tests[j]? = some q.2 := by rw [← Lt, List.getElem?_map, hq]; rfl
          obtain ⟨d2, hd2, dz⟩ := dt.get h1
          rw [List.getElem?_map, h2] at hd2
          cases hd2
          obtain ⟨z1, t0⟩ := q
          obtain ⟨e, us, ee, se, du⟩ := (dz.k0 k4).items
          have ee : z1 = .ref e := ee
          subst ee
          cases du with
          | @cons w0 _ _ _ e0 du =>
          cases du with
          | @cons w1 _ _ _ e1 du =>
          cases du with
          | @cons w2 _ _ _ e2 du =>
          cases du
          cases e0
          cases e1
          cases e2
          have gt := gl.tests.2 t0 (List.mem_of_getElem? h2)
          have m1 : t0.1 ∈ planWordsOf ns := words_in (gt.1.elim .inl fun z => z.elim (fun z => .inr (.inl z)) fun z => .inr (.inr (.inr z)))
          have m2 : t0.2.1 ∈ planWordsOf ns := words_in (gt.2.elim (fun z => .inr (.inl z)) fun z => z.elim .inl fun z => z.elim (fun z => .inr (.inr (.inl z))) fun z => .inr (.inr (.inr z)))
          have ed4 := (k03.trans k4).to ed
          refine rx_tTest (rx_op (rx_op (rx_dget ⟨_, rfl, _, rfl, .inr (.inl ⟨e, _, 0, _, rfl, rfl, se, at0 _ _, d, _, rfl, dg ed4 (hd.at_ _ m1), rx_dget ⟨_, rfl, _, rfl, .inr (.inl ⟨e, _, 1, _, rfl, rfl, se, at1 _ _ _, d, _, rfl, dg ed4 (hd.at_ _ m2), fl_cn _ _, _, rfl, .inr (.inl ⟨e, _, 2, _, rfl, rfl, se, rfl, rfl, _, rfl, ?_⟩)⟩)⟩⟩)⟩)))
          have et : (!decide (V.bl (decide (cV (atC h (f t0.1)) = cV (atC h (f t0.2.1)))) = V.bl t0.2.2)) = !testOk f h t0 := by
            rw [testOk, dec_cn]
            cases decide (atC h (f t0.1) = atC h (f t0.2.1)) <;> cases t0.2.2 <;> rfl
          rw [et]
          exact q' _ Keep.refl
        rintro σ' H4 ⟨D, rfl, k4, eD⟩
        have dfl : DtAll K H4 (fl.map (·.1)) ((fl.map (·.2)).map testD) := zip_dt testD _ (dt.k0 k4)
        have efl : fl.map (·.2) = l.tests.filter fun t => !testOk f h t := zip_filter (fun t => !testOk f h t) txs l.tests ltx
        refine rx_if (rx_tTest (rx_op ⟨_, rfl, rx_lst ⟨(by show 0 ≤ sizeLine; decide), fun q nq => ?_⟩⟩))
        have kq : Keep [] H4 (upd H4 q (.lst [])) := Keep.new nq
        have dfl2 : Dp K (upd H4 q (.lst [])) (.ref D) (.list ((fl.map (·.2)).map testD)) := .lst (SqL.of (kq.to eD)) (dfl.k0 kq).dp
        refine ⟨_, .list [], dfl2, .lst (SqL.of upd_same) .nil, (Lay.list (n := 1) fun d hd => ?_).shaped (by decide), by decide +kernel, _, rfl, ?_⟩
        · obtain ⟨t, ht, rfl⟩ := List.mem_map.mp hd
          rw [efl] at ht
          exact (gl.tests.2 t (List.mem_filter.mp ht).1).lay nm.ok
        · rw [eqv_nil, efl, show ((l.tests.filter fun t => !testOk f h t).map testD).isEmpty = (l.tests.filter fun t => !testOk f h t).isEmpty by cases (l.tests.filter fun t => !testOk f h t) <;> rfl, failed_nil]
          have k5 : Keep [] H (upd H4 q (.lst [])) := (k03.trans k4).trans kq
          cases c : lineOk f h l with
          | true =>
            refine iteT ⟨_, rfl, ?_⟩
            have tk := taken_go f h ls i hi no (.inr ⟨l, hl, c⟩)
            have := k _ k5
            rw [show taken (posOf ns) h ls = i from tk] at this
            exact this
          | false =>
            refine iteF ⟨_, _, _, rfl, k5, fun j hj l' hl' => ?_⟩
            rcases Nat.lt_or_ge j i with z | z
            · exact no j z l' hl'
            · have : j = i := by omega
              subst this
              rw [hl] at hl'
              cases hl'
              exact c
      · rintro σ' H3 ⟨x2, x3, x4, rfl, k3, no⟩
        rw [lx] at no
        exact ⟨_, _, _, rfl, k3, no⟩
    rintro σ' H3 ⟨x2, x3, x4, rfl, k3, no⟩
    have l1 := lok.l1
    have tk := taken_go f h ls (ls.length - 1) (by omega) (fun j hj l hl => no j (by omega) l hl) (.inl (by omega))
    have := k H3 k3
    rw [show taken (posOf ns) h ls = ls.length - 1 from tk] at this
    refine rx_ret (rx_op (rx_cb1 ⟨_, rfl, .inr (.inl ⟨a, _, 1, _, rfl, rfl, seqT_keep k3 Soft.nil sa, at1 _ _ _, c, xs, rfl, .inr (seqT_keep k3 Soft.nil sc), _, _, rfl, rfl, ?_⟩)⟩))
    rw [lx]
    rw [show ((ls.length - 1 : Nat) : Int) = (ls.length : Int) - 1 by omega] at this
    exact this
abbrev s__law_held : Stmt := (top 56)
abbrev N__law_held : List Str := ["file", "new", "is_moved", "found"]
abbrev P__law_held : List Str := ["file", "new", "is_moved"]
theorem sc__law_held : FnScope N__law_held P__law_held (defScope s__law_held) := ⟨rfl, rfl, rfl, by decide +kernel, rfl, by decide +kernel, by decide +kernel⟩
theorem D_law_held (W : Cw fas fns K mg) : DefOk P w K mg base CX0 1 "_law_held" P__law_held (spLHeld K) := by
  refine DefOk.of W 53 48 (st := s__law_held) rfl rfl sc__law_held (fun _ _ _ _ _ _ us hl => match us, hl with | [_, _, _], _ => rfl) (fun vs H Q E h => ?_) (fun cdv A outer s H vs Q E hr h => ?_)
  · obtain ⟨d, kvs, c, ren, ns, s, rfl, _⟩ := h
    rfl
  · obtain ⟨d, kvs, c, ren, ns, fs, rfl, ed, md, nm, el, k⟩ := h
    refine ⟨_, PSs.nox (Evl.pss_cut (ps_set (i := 3) sc__law_held.nd rfl (by first | exact Or.inl rfl | exact Or.inr rfl) (pe_callTy SM.call_dictC (by rfl) (W.fre 66) (by decide +kernel) (pa_cons (pv 0) pa_nil))) (Evl.pss_cut (ps_if (pt_val (pv 2)) (pss_one (ps_asg (pe_tup (pa_cons (pe_dget (hu_of hr) (pv 0) pe_str (fun _ _ => rfl)) (pa_cons pe_non pa_nil))) (pg_tup (by rfl) (pgs_cons (pg_sub (pv 3) pe_str (SM.set_dict (hu_of hr))) (pgs_cons (pg_sub (pv 3) pe_str (SM.set_dict (hu_of hr))) pgs_nil))))) pss_nil) (Evl.pss_cut (ps_asg (pe_tup (pa_cons (pv 1) (pa_cons pe_non pa_nil))) (pg_tup (by rfl) (pgs_cons (pg_sub (pv 3) pe_str (SM.set_dict (hu_of hr))) (pgs_cons (pg_sub (pv 3) pe_str (SM.set_dict (hu_of hr))) pgs_nil)))) (pss_one (ps_ret (pv 3)))))), ?_⟩
    let T : Option V → L2.St := fun x3 => [some (.ref d), some (cV c), some (.bl ren), x3]
    refine ⟨fun σ' H' => ∃ p, σ' = T (some (.ref p)) ∧ H p = none ∧ H' = upd H p (.dK kvs), ⟨_, rfl, d, kvs, rfl, ed, fun p hp => ⟨p, rfl, hp, rfl⟩⟩, ?_⟩
    rintro σ' H1 ⟨p, rfl, hp, rfl⟩
    have k1 : Keep [] H (upd H p (.dK kvs)) := Keep.new hp
    let s2 : Fs := if ren = true then { fs with cs := (fs.cs.set (posOf ns "elder") (atC fs.cs 0)).set 0 none } else fs
    refine ⟨fun σ' H' => ∃ kv, σ' = T (some (.ref p)) ∧ Keep [] H H' ∧ H' p = some (.dK kv) ∧ Md kv ns s2, ?_, ?_⟩
    · refine rx_if ⟨_, rfl, _, rfl, ?_⟩
      cases ren with
      | false => exact iteF ⟨kvs, rfl, k1, upd_same, md⟩
      | true =>
        have hel := el rfl
        refine iteT (rx_asg (rx_tup ⟨_, rfl, d, _, rfl, dg (k1.to ed) md.here, (by show 2 ≤ sizeLine; decide), fun t ht => ?_⟩))
        have kt : Keep [] (upd H p (.dK kvs)) (upd (upd H p (.dK kvs)) t (.tup [cV (atC fs.cs 0), .non])) := Keep.new ht
        have m1 := Md.putAt nm md (.inr hel) (atC fs.cs 0)
        have m2 := Md.putAt nm m1 (x := "here") (.inl rfl) none
        rw [pos_here] at m2
        refine ⟨t, _, rfl, SqT.of upd_same, rfl, _, _, rfl, ⟨_, rfl, p, _, rfl, dpu (kt.to upd_same) (Nat.le_trans md.small (by decide)), ?_⟩⟩
        refine ⟨_, _, rfl, ⟨_, rfl, p, _, rfl, dpu upd_same (Nat.le_trans m1.small (by decide)), rfl, _, rfl, ?_, upd_same, m2⟩⟩
        exact Keep.own (Keep.own (k1.trans kt) hp) hp
    rintro σ' H2 ⟨kv, rfl, k2, e2, m2⟩
    refine ⟨fun σ' H' => σ' = T (some (.ref p)) ∧ Keep [] H H' ∧ H' p = some (.dK (putK (putK kv (.inr "new") (cV c)) (.inr "nothing") .non)), ?_, ?_⟩
    · refine rx_asg (rx_tup ⟨_, rfl, (by show 2 ≤ sizeLine; decide), fun t ht => ?_⟩)
      have kt : Keep [] H2 (upd H2 t (.tup [cV c, .non])) := Keep.new ht
      have h1 := length_putK kv (.inr "new") (cV c)
      have := m2.small
      refine ⟨t, _, rfl, SqT.of upd_same, rfl, _, _, rfl, ⟨_, rfl, p, _, rfl, dpu (kt.to e2) (by omega), ?_⟩⟩
      refine ⟨_, _, rfl, ⟨_, rfl, p, _, rfl, dpu upd_same (by omega), rfl, rfl, ?_, upd_same⟩⟩
      exact Keep.own (Keep.own (k2.trans kt) hp) hp
    rintro σ' H3 ⟨rfl, k3, e3⟩
    refine ⟨_, rfl, k p H3 _ hp k3 e3 ?_⟩
    have := Md.held nm m2 c
    have eh : s2.cs ++ [c, none] = heldOf (posOf ns) fs c ren := by
      cases ren with
      | false => rfl
      | true =>
        show ((fs.cs.set _ _).set 0 none) ++ [c, none] = ((fs.cs ++ [c, none]).set _ _).set 0 none
        have lo := pos_low (ns := ns) (.inr (el rfl))
        rw [List.set_append_left _ _ (by rw [md.len]; exact lo), List.set_append_left _ _ (by rw [List.length_set, md.len]; exact Nat.succ_pos _)]
    rw [eh] at this
    exact this
end
end La
set_option Elab.async false
set_option linter.all false
set_option maxRecDepth 100000
set_option maxHeartbeats 4000000
namespace La
open PySem PySem.Spec PyProof.Rows L2 SM
def spLList (K : PySem.W.Frag) : Sp := fun vs H Q _ => ∃ (v : V) (d : Addr) (kvs : List (Key × V)) (c : Cn) (reply : Option Str) (ren : Bool) (ns : List Str) (ls : List Ln) (s : Fs), vs = [v, .ref d, cV c, cV reply, .bl ren] ∧ Dt K H v (planD ns ls) ∧ H d = some (.dK kvs) ∧ Md kvs ns s ∧ NmOk ns ∧ LsOk ns ls ∧ (ren = true → ("elder" : Str) ∈ ns) ∧
  ∀ u H', Keep [] H H' → Dt K H' u (stepsD (listFor (lineOf ns ls s c ren) reply)) → Q u H'
def spLAsked (K : PySem.W.Frag) : Sp := fun vs H Q _ => ∃ (v : V) (d : Addr) (kvs : List (Key × V)) (c : Cn) (ren : Bool) (ns : List Str) (ls : List Ln) (s : Fs), vs = [v, .ref d, cV c, .bl ren] ∧ Dt K H v (planD ns ls) ∧ H d = some (.dK kvs) ∧ Md kvs ns s ∧ NmOk ns ∧ LsOk ns ls ∧ (ren = true → ("elder" : Str) ∈ ns) ∧
  ∀ H', Keep [] H H' → Q (.bl (lineOf ns ls s c ren).keep.isSome) H'
def spLEdited (K : PySem.W.Frag) : Sp := fun vs H Q _ => ∃ (d : Addr) (kvs : List (Key × V)) (c : Cn) (ns : List Str) (s : Fs), vs = [.ref d, cV c] ∧ H d = some (.dK kvs) ∧ Md kvs ns s ∧ NmOk ns ∧ ∀ p H' kvs', H p = none → Keep [] H H' → H' p = some (.dK kvs') → Md kvs' ns (editedS s c) → Q (.ref p) H'
/-- [a new list of words, a new model] -/
def Pair2 (K : PySem.W.Frag) (H : Hp) (Q : VK) (ns : List Str) (ws : List Str) (s : Fs) : Prop := ∀ r pw pd H' kvs, H r = none → H pw = none → H pd = none → Keep [] H H' → H' r = some (.lst [.ref pw, .ref pd]) → H' pw = some (.lst (ws.map V.str)) → H' pd = some (.dK kvs) → Md kvs ns s → Q (.ref r) H'
def spLAns (K : PySem.W.Frag) : Sp := fun vs H Q _ => ∃ (d : Addr) (kvs : List (Key × V)) (c : Cn) (reply : Option Str) (ns : List Str) (s : Fs), vs = [.ref d, cV c, cV reply] ∧ H d = some (.dK kvs) ∧ Md kvs ns s ∧ NmOk ns ∧
  Pair2 K H Q ns (questionS s c true reply).1 { s with mark := (questionS s c true reply).2.1, mine := (questionS s c true reply).2.2 }
theorem needlessS_eq (s : Fs) (c : Cn) : needlessS s c = ((decide (s.mark = "none") || (decide (s.mark = "own") && !decide (atC s.cs 0 = s.mine))) || (decide (atC s.cs 0 = c) || (decide (s.last = c) && !s.amid))) := by
  unfold needlessS
  by_cases a : s.mark = "none"
  · rw [if_pos (.inl a), decide_eq_true a]; rfl
  · rw [decide_eq_false a, Bool.false_or]
    by_cases b : s.mark = "own"
    · rw [decide_eq_true b, Bool.true_and]
      by_cases e : atC s.cs 0 = s.mine
      · rw [if_neg (fun z => z.elim a fun z => z.2 e), decide_eq_true e]; rfl
      · rw [if_pos (.inr ⟨b, e⟩), decide_eq_false e]; rfl
    · rw [if_neg (fun z => z.elim a fun z => b z.1), decide_eq_false b]; rfl
section
variable {P : Program} {w : World} {K : PySem.W.Frag} {mg : Str → Option Value} {base : Heap}
abbrev s__law_list : Stmt := (top 57)
abbrev N__law_list : List Str := ["plan", "file", "new", "reply", "is_moved", "line"]
abbrev P__law_list : List Str := ["plan", "file", "new", "reply", "is_moved"]
theorem sc__law_list : FnScope N__law_list P__law_list (defScope s__law_list) := ⟨rfl, rfl, rfl, by decide +kernel, rfl, by decide +kernel, by decide +kernel⟩
theorem D_law_list (W : Cw fas fns K mg) (D_law_taken : DefOk P w K mg base CX0 1 "_law_taken" P__law_taken (spLTaken K)) (D_law_held : DefOk P w K mg base CX0 1 "_law_held" P__law_held (spLHeld K)) : DefOk P w K mg base CX0 2 "_law_list" P__law_list (spLList K) := by
  refine DefOk.of W 54 49 (st := s__law_list) rfl rfl sc__law_list (fun _ _ _ _ _ _ us hl => match us, hl with | [_, _, _, _, _], _ => rfl) (fun vs H Q E h => ?_) (fun cdv A outer s H vs Q E hr h => ?_)
  · obtain ⟨v, d, kvs, c, reply, ren, ns, ls, s, rfl, _⟩ := h
    rfl
  · obtain ⟨v, d, kvs, c, reply, ren, ns, ls, fs, rfl, dp, ed, md, nm, lok, el, k⟩ := h
    refine ⟨_, PSs.nox (Evl.pss_cut (ps_set (i := 5) sc__law_list.nd rfl (by first | exact Or.inl rfl | exact Or.inr rfl) (pe_ix ix_seq (pe_ix ix_seq (pv 0) pe_int (fun _ _ => rfl)) (SM.pe_callD D_law_taken (hr.mono (by decide)) pass0 (pa_cons (pv 0) (pa_cons (SM.pe_callD D_law_held (hr.mono (by decide)) pass0 (pa_cons (pv 1) (pa_cons (pv 2) (pa_cons (pv 4) pa_nil)))) pa_nil))) (fun _ _ => rfl))) (pss_one (ps_ret (pe_ifExp (PW.pt (pw_and (pt_cmpR op_eq (pe_callB call_len_seq (by rfl) (W.fre 70) (by decide +kernel) (pa_cons (pv 5) pa_nil)) pe_int (nomark _)) (pw_and1 (pt_cmpR op_eq (pv 3) pe_str (nomark _))))) (pe_ix ix_seq (pv 5) pe_int (fun _ _ => rfl)) (pe_ix ix_seq (pv 5) pe_int (fun _ _ => rfl)))))), ?_⟩
    have hl : ls[taken (posOf ns) (heldOf (posOf ns) fs c ren) ls]? = some (lineOf ns ls fs c ren) := lineOf_at lok.l1
    obtain ⟨a, b, cc, xs, rfl, sa, sb, sc, dc⟩ := plan_parts dp
    refine ⟨fun σ' H' => ∃ u, σ' = [some (.ref a), some (.ref d), some (cV c), some (cV reply), some (.bl ren), some u] ∧ Keep [] H H' ∧ Dt K H' u (lnD (lineOf ns ls fs c ren)), ?_, ?_⟩
    · refine rx_op ⟨_, rfl, .inr (.inl ⟨a, _, 1, _, rfl, rfl, sa, at1 _ _ _, rx_call (rx_cons ⟨_, rfl, rx_cons (rx_call ⟨_, rfl, _, rfl, _, rfl, d, kvs, c, ren, ns, fs, rfl, ed, md, nm, el, fun p H1 kv1 np k1 e1 hd1 => ?_⟩)⟩)⟩)⟩
      refine ⟨_, p, kv1, _, ns, ls, rfl, dp.k0 k1, e1, hd1, nm, lok, fun H2 k2 => ?_⟩
      obtain ⟨u, hu, du⟩ := dc.getD (i := taken (posOf ns) (heldOf (posOf ns) fs c ren) ls) (d := lnD (lineOf ns ls fs c ren)) (by rw [List.getElem?_map, hl]; rfl)
      exact .inr (.inl ⟨cc, _, _, _, rfl, rfl, seqT_keep (k1.trans k2) Soft.nil sc, atI_n hu, u, rfl, k1.trans k2, du.k0 (k1.trans k2)⟩)
    rintro σ' H1 ⟨u, rfl, k1, du⟩
    generalize lineOf ns ls fs c ren = l at du k
    obtain ⟨lt, lst, lk⟩ := l
    obtain ⟨e, us, rfl, se, dus⟩ := du.items
    have le : us.length = 2 + (keepD lk).length := by rw [dus.length]; show (keepD lk).length + 1 + 1 = _; omega
    cases dus with
    | @cons u0 _ _ _ g0 dus =>
    cases dus with
    | @cons u1 _ _ _ g1 dus =>
    refine rx_ret (rx_ife (rx_and (rx_tTest (rx_op (rx_cb1 ⟨_, rfl, e, _, rfl, .inr se, rfl, _, rfl, ?_⟩)))))
    rw [le]
    cases lk with
    | none => exact iteF (iteF ⟨_, rfl, .inr (.inl ⟨e, _, 1, _, rfl, rfl, se, at1 _ _ _, k _ _ k1 g1⟩)⟩)
    | some kk =>
      cases dus with
      | @cons u2 _ _ _ g2 dus =>
      cases dus
      refine iteT (rx_tTest (rx_op ⟨_, rfl, by cases reply <;> rfl, _, rfl, ?_⟩))
      rw [show decide (cV reply = .str "keep") = decide (reply = some "keep") from dec_cn reply (some "keep")]
      have k' : ∀ u H', Keep [] H H' → Dt K H' u (stepsD (if reply = some "keep" then kk else lst)) → Q u H' := k
      refine ite2 (fun z => ?_) (fun z => ?_)
      · rw [if_pos (of_decide_eq_true z)] at k'
        exact ⟨_, rfl, .inr (.inl ⟨e, _, 2, u2, rfl, rfl, se, rfl, k' _ _ k1 g2⟩)⟩
      · rw [if_neg (fun q => z (decide_eq_true q))] at k'
        exact ⟨_, rfl, .inr (.inl ⟨e, _, 1, _, rfl, rfl, se, at1 _ _ _, k' _ _ k1 g1⟩)⟩
abbrev s__law_is_asked : Stmt := (top 58)
abbrev N__law_is_asked : List Str := ["plan", "file", "new", "is_moved"]
abbrev P__law_is_asked : List Str := ["plan", "file", "new", "is_moved"]
theorem sc__law_is_asked : FnScope N__law_is_asked P__law_is_asked (defScope s__law_is_asked) := ⟨rfl, rfl, rfl, by decide +kernel, rfl, by decide +kernel, by decide +kernel⟩
theorem D_law_is_asked (W : Cw fas fns K mg) (D_law_taken : DefOk P w K mg base CX0 1 "_law_taken" P__law_taken (spLTaken K)) (D_law_held : DefOk P w K mg base CX0 1 "_law_held" P__law_held (spLHeld K)) : DefOk P w K mg base CX0 2 "_law_is_asked" P__law_is_asked (spLAsked K) := by
  refine DefOk.of W 55 50 (st := s__law_is_asked) rfl rfl sc__law_is_asked (fun _ _ _ _ _ _ us hl => match us, hl with | [_, _, _, _], _ => rfl) (fun vs H Q E h => ?_) (fun cdv A outer s H vs Q E hr h => ?_)
  · obtain ⟨v, d, kvs, c, ren, ns, ls, s, rfl, _⟩ := h
    rfl
  · obtain ⟨v, d, kvs, c, ren, ns, ls, fs, rfl, dp, ed, md, nm, lok, el, k⟩ := h
    refine ⟨_, PSs.nox (pss_one (ps_ret (pe_cmpR op_eq (pe_callB call_len_seq (by rfl) (W.fre 70) (by decide +kernel) (pa_cons (pe_ix ix_seq (pe_ix ix_seq (pv 0) pe_int (fun _ _ => rfl)) (SM.pe_callD D_law_taken (hr.mono (by decide)) pass0 (pa_cons (pv 0) (pa_cons (SM.pe_callD D_law_held (hr.mono (by decide)) pass0 (pa_cons (pv 1) (pa_cons (pv 2) (pa_cons (pv 3) pa_nil)))) pa_nil))) (fun _ _ => rfl)) pa_nil)) pe_int (nomark _)))), ?_⟩
    have hl : ls[taken (posOf ns) (heldOf (posOf ns) fs c ren) ls]? = some (lineOf ns ls fs c ren) := lineOf_at lok.l1
    obtain ⟨a, b, cc, xs, rfl, sa, sb, sc, dc⟩ := plan_parts dp
    refine rx_ret (rx_op (rx_cb1 (rx_op ⟨_, rfl, .inr (.inl ⟨a, _, 1, _, rfl, rfl, sa, at1 _ _ _, rx_call (rx_cons ⟨_, rfl, rx_cons (rx_call ⟨_, rfl, _, rfl, _, rfl, d, kvs, c, ren, ns, fs, rfl, ed, md, nm, el, fun p H1 kv1 np k1 e1 hd1 => ?_⟩)⟩)⟩)⟩)))
    refine ⟨_, p, kv1, _, ns, ls, rfl, dp.k0 k1, e1, hd1, nm, lok, fun H2 k2 => ?_⟩
    obtain ⟨u, hu, du⟩ := dc.getD (i := taken (posOf ns) (heldOf (posOf ns) fs c ren) ls) (d := lnD (lineOf ns ls fs c ren)) (by rw [List.getElem?_map, hl]; rfl)
    refine .inr (.inl ⟨cc, _, _, _, rfl, rfl, seqT_keep (k1.trans k2) Soft.nil sc, atI_n hu, ?_⟩)
    have := k H2 (k1.trans k2)
    generalize lineOf ns ls fs c ren = l at du this
    obtain ⟨e, us, rfl, se, dus⟩ := (du.k0 (k1.trans k2)).items
    refine ⟨e, us, rfl, .inr se, rfl, ?_⟩
    have eq : decide (V.int (us.length : Int) = V.int 3) = l.keep.isSome := by
      rw [dus.length]
      cases l.keep with
      | none => exact decide_eq_false fun e => absurd (V.int.inj e : ((2 : Nat) : Int) = 3) (by decide)
      | some k => exact decide_eq_true rfl
    rw [eq]
    exact this
abbrev s__law_edited : Stmt := (top 55)
abbrev N__law_edited : List Str := ["file", "content", "found"]
abbrev P__law_edited : List Str := ["file", "content"]
theorem sc__law_edited : FnScope N__law_edited P__law_edited (defScope s__law_edited) := ⟨rfl, rfl, rfl, by decide +kernel, rfl, by decide +kernel, by decide +kernel⟩
theorem D_law_edited (W : Cw fas fns K mg) : DefOk P w K mg base CX0 1 "_law_edited" P__law_edited (spLEdited K) := by
  refine DefOk.of W 52 47 (st := s__law_edited) rfl rfl sc__law_edited (fun _ _ _ _ _ _ us hl => match us, hl with | [_, _], _ => rfl) (fun vs H Q E h => ?_) (fun cdv A outer s H vs Q E hr h => ?_)
  · obtain ⟨d, kvs, c, ns, s, rfl, _⟩ := h
    rfl
  · obtain ⟨d, kvs, c, ns, fs, rfl, ed, md, nm, k⟩ := h
    refine ⟨_, PSs.nox (Evl.pss_cut (ps_set (i := 2) sc__law_edited.nd rfl (by first | exact Or.inl rfl | exact Or.inr rfl) (pe_callTy SM.call_dictC (by rfl) (W.fre 66) (by decide +kernel) (pa_cons (pv 0) pa_nil))) (Evl.pss_cut (ps_if (pt_cmpR op_ne (pv 1) (pe_dget (hu_of hr) (pv 0) pe_str (fun _ _ => rfl)) (nomark _)) (Evl.pss_cut (ps_asg (pv 1) (pg_sub (pv 2) pe_str (SM.set_dict (hu_of hr)))) (Evl.pss_cut (ps_asg (pe_ifExp (pt_cmpR op_eq (pv 1) (pe_dget (hu_of hr) (pv 0) pe_str (fun _ _ => rfl)) (nomark _)) pe_str pe_str) (pg_sub (pv 2) pe_str (SM.set_dict (hu_of hr)))) (pss_one (ps_asg (pe_ifExp (pt_cmpR op_eq (pv 1) (pe_dget (hu_of hr) (pv 0) pe_str (fun _ _ => rfl)) (nomark _)) pe_non (pv 1)) (pg_sub (pv 2) pe_str (SM.set_dict (hu_of hr))))))) pss_nil) (pss_one (ps_ret (pv 2))))), ?_⟩
    let T : Option V → L2.St := fun x2 => [some (.ref d), some (cV c), x2]
    refine ⟨fun σ' H' => ∃ p, σ' = T (some (.ref p)) ∧ H p = none ∧ H' = upd H p (.dK kvs), ⟨_, rfl, d, kvs, rfl, ed, fun p hp => ⟨p, rfl, hp, rfl⟩⟩, ?_⟩
    rintro σ' H1 ⟨p, rfl, hp, rfl⟩
    have k1 : Keep [] H (upd H p (.dK kvs)) := Keep.new hp
    have ed1 := k1.to ed
    refine ⟨fun σ' H' => ∃ kv, σ' = T (some (.ref p)) ∧ Keep [] H H' ∧ H' p = some (.dK kv) ∧ Md kv ns (editedS fs c), ?_, ?_⟩
    · refine rx_if (rx_tTest (rx_op ⟨_, rfl, rx_dget ⟨_, rfl, d, _, rfl, dg ed1 md.here, fl_cn _ _, _, rfl, ?_⟩⟩))
      rw [dec_cn]
      by_cases e0 : c = atC fs.cs 0
      · rw [decide_eq_true e0]
        refine iteF ⟨kvs, rfl, k1, upd_same, ?_⟩
        rw [editedS, if_pos e0]
        exact md
      · rw [decide_eq_false e0]
        have m1 := Md.putAt nm md (x := "here") (.inl rfl) c
        rw [pos_here] at m1
        let e := editedS fs c
        have ee : e = { fs with cs := fs.cs.set 0 c, mark := if c = fs.last then "none" else "own", mine := if c = fs.last then none else c } := by
          show editedS fs c = _
          rw [editedS, if_neg e0]
          by_cases q : c = fs.last
          · rw [if_pos q, if_pos q, if_pos q]
          · rw [if_neg q, if_neg q, if_neg q]
        have m2 := Md.putMark nm m1 (if c = fs.last then "none" else "own")
        have m3 := Md.putMine nm m2 (if c = fs.last then none else c)
        refine iteT ?_
        have ne : d ≠ p := fun z => by
          rw [z, hp] at ed
          cases ed
        refine ⟨fun σ' H' => σ' = T (some (.ref p)) ∧ H' = upd (upd H p (.dK kvs)) p (.dK (putK kvs (.inr "here") (cV c))), ?_, ?_⟩
        · exact rx_asg ⟨_, rfl, _, rfl, p, _, rfl, dpu upd_same (Nat.le_trans md.small (by decide)), rfl, rfl⟩
        rintro σ' H2 ⟨rfl, rfl⟩
        have ed2 : upd (upd H p (.dK kvs)) p (.dK (putK kvs (.inr "here") (cV c))) d = some (.dK kvs) := by rw [upd_ne ne]; exact ed1
        refine ⟨fun σ' H' => σ' = T (some (.ref p)) ∧ H' = upd (upd (upd H p (.dK kvs)) p (.dK (putK kvs (.inr "here") (cV c)))) p (.dK (putK (putK kvs (.inr "here") (cV c)) (.inr "(mark)") (.str (if c = fs.last then "none" else "own")))), ?_, ?_⟩
        · refine rx_asg (rx_ife (rx_tTest (rx_op ⟨_, rfl, rx_dget ⟨_, rfl, d, _, rfl, dg ed2 md.last, fl_cn _ _, _, rfl, ?_⟩⟩)))
          rw [dec_cn]
          by_cases q : c = fs.last
          · rw [decide_eq_true q, if_pos q]
            exact iteT ⟨_, rfl, p, _, rfl, dpu upd_same (Nat.le_trans m1.small (by decide)), rfl, rfl⟩
          · rw [decide_eq_false q, if_neg q]
            exact iteF ⟨_, rfl, p, _, rfl, dpu upd_same (Nat.le_trans m1.small (by decide)), rfl, rfl⟩
        rintro σ' H3 ⟨rfl, rfl⟩
        have ed3 : upd (upd (upd H p (.dK kvs)) p (.dK (putK kvs (.inr "here") (cV c)))) p (.dK (putK (putK kvs (.inr "here") (cV c)) (.inr "(mark)") (.str (if c = fs.last then "none" else "own")))) d = some (.dK kvs) := by rw [upd_ne ne]; exact ed2
        refine rx_asg (rx_ife (rx_tTest (rx_op ⟨_, rfl, rx_dget ⟨_, rfl, d, _, rfl, dg ed3 md.last, fl_cn _ _, _, rfl, ?_⟩⟩)))
        rw [dec_cn]
        have fin : ∀ H4, H4 = upd (upd (upd (upd H p (.dK kvs)) p (.dK (putK kvs (.inr "here") (cV c)))) p (.dK (putK (putK kvs (.inr "here") (cV c)) (.inr "(mark)") (.str (if c = fs.last then "none" else "own"))))) p (.dK (putK (putK (putK kvs (.inr "here") (cV c)) (.inr "(mark)") (.str (if c = fs.last then "none" else "own"))) (.inr "(mine)") (cV (if c = fs.last then none else c)))) → ∃ kv, T (some (.ref p)) = T (some (.ref p)) ∧ Keep [] H H4 ∧ H4 p = some (.dK kv) ∧ Md kv ns (editedS fs c) := by
          rintro H4 rfl
          refine ⟨_, rfl, Keep.own (Keep.own (Keep.own k1 hp) hp) hp, upd_same, ?_⟩
          rw [show editedS fs c = _ from ee]
          exact m3
        by_cases q : c = fs.last
        · rw [decide_eq_true q]
          refine iteT ⟨_, rfl, p, _, rfl, dpu upd_same (Nat.le_trans m2.small (by decide)), fin _ ?_⟩
          rw [if_pos q, if_pos q]
          rfl
        · rw [decide_eq_false q]
          refine iteF ⟨_, rfl, _, rfl, p, _, rfl, dpu upd_same (Nat.le_trans m2.small (by decide)), fin _ ?_⟩
          rw [if_neg q, if_neg q]
    rintro σ' H2 ⟨kv, rfl, k2, e2, m2⟩
    exact ⟨_, rfl, k p H2 kv hp k2 e2 m2⟩
end
end La
set_option Elab.async false
set_option linter.all false
set_option maxRecDepth 100000
set_option maxHeartbeats 4000000
namespace La
open PySem PySem.Spec PyProof.Rows L2 SM
theorem elder_in {ns : List Str} : ("elder" : Str) ∈ planWordsOf ns ↔ ("elder" : Str) ∈ ns := by
  refine ⟨fun h => ?_, fun h => words_in (.inr (.inr (.inr h)))⟩
  unfold planWordsOf at h
  rcases List.mem_append.mp h with h | h
  · rcases List.mem_append.mp h with h | h
    · exact absurd (List.mem_singleton.mp h) (ne_str (by decide +kernel))
    · exact h
  · simp only [List.mem_cons, List.not_mem_nil, or_false] at h
    rcases h with h | h
    · exact absurd h (ne_str (by decide +kernel))
    · exact absurd h (ne_str (by decide +kernel))
/-- what a whole upgrade makes of the mark -/
def endMark (s : Fs) (c : Cn) : Str × Cn := if s.mark = "free" ∨ (s.mark = "own" ∧ s.mine = c) then ("none", none) else (s.mark, s.mine)
def endOwn (s : Fs) (c : Cn) : List Cn := if (endMark s c).1 = "own" then [(endMark s c).2] else []
def endS (s : Fs) (c : Cn) : Fs := { s with mark := (endMark s c).1, mine := (endMark s c).2, last := c }
def spLEnded (K : PySem.W.Frag) : Sp := fun vs H Q _ => ∃ (pw d : Addr) (ws : List Str) (kvs : List (Key × V)) (c : Cn) (ns : List Str) (s : Fs), vs = [.ref pw, .ref d, cV c] ∧ H pw = some (.lst (ws.map V.str)) ∧ ws.length ≤ 10 ∧ H d = some (.dK kvs) ∧ Md kvs ns s ∧ FsOk ns s ∧ okC c ∧ NmOk ns ∧
  Pair2 K H Q ns (ws ++ remainsS (elderO ns) s.cs c (endOwn s c)) (endS s c)
section
variable {P : Program} {w : World} {K : PySem.W.Frag} {mg : Str → Option Value} {base : Heap}
abbrev s__law_answered : Stmt := (top 59)
abbrev N__law_answered : List Str := ["file", "new", "reply", "found", "label", "came", "is_free", "words"]
abbrev P__law_answered : List Str := ["file", "new", "reply"]
theorem sc__law_answered : FnScope N__law_answered P__law_answered (defScope s__law_answered) := ⟨rfl, rfl, rfl, by decide +kernel, rfl, by decide +kernel, by decide +kernel⟩
theorem D_law_answered (W : Cw fas fns K mg) : DefOk P w K mg base CX0 1 "_law_answered" P__law_answered (spLAns K) := by
  refine DefOk.of W 56 51 (st := s__law_answered) rfl rfl sc__law_answered (fun _ _ _ _ _ _ us hl => match us, hl with | [_, _, _], _ => rfl) (fun vs H Q E h => ?_) (fun cdv A outer s H vs Q E hr h => ?_)
  · obtain ⟨d, kvs, c, reply, ns, s, rfl, _⟩ := h
    rfl
  · obtain ⟨d, kvs, c, reply, ns, fs, rfl, ed, md, nm, k⟩ := h
    refine ⟨_, PSs.nox (Evl.pss_cut (ps_par (i := 3) (j := 4) (by rfl) sc__law_answered.nd rfl rfl (by decide) rfl rfl (pa_cons (pe_callTy SM.call_dictC (by rfl) (W.fre 66) (by decide +kernel) (pa_cons (pv 0) pa_nil)) (pa_cons (pe_dget (hu_of hr) (pv 0) pe_str (fun _ _ => rfl)) pa_nil)) (by rfl)) (Evl.pss_cut (ps_set (i := 5) sc__law_answered.nd rfl (by first | exact Or.inl rfl | exact Or.inr rfl) (pe_and (pe_cmpR op_eq (pe_dget (hu_of hr) (pv 0) pe_str (fun _ _ => rfl)) (pv 1) (nomark _)) (pe_one (pe_not (pe_dget (hu_of hr) (pv 0) pe_str (fun _ _ => rfl)))))) (Evl.pss_cut (ps_set (i := 6) sc__law_answered.nd rfl (by first | exact Or.inl rfl | exact Or.inr rfl) (pe_or (pe_cmpR op_eq (pv 4) pe_str (nomark _)) (pe_one (pe_and (pe_cmpR op_eq (pv 4) pe_str (nomark _)) (pe_one (pe_cmpR op_ne (pe_dget (hu_of hr) (pv 0) pe_str (fun _ _ => rfl)) (pe_dget (hu_of hr) (pv 0) pe_str (fun _ _ => rfl)) (nomark _))))))) (Evl.pss_cut (ps_set (i := 7) sc__law_answered.nd rfl (by first | exact Or.inl rfl | exact Or.inr rfl) (pe_ifExp (PW.pt (pw_or (pt_val (pv 6)) (pw_or (pt_cmpR op_eq (pe_dget (hu_of hr) (pv 0) pe_str (fun _ _ => rfl)) (pv 1) (nomark _)) (pw_or1 (pt_val (pv 5)))))) (pe_lst (pa_cons pe_str pa_nil)) (pe_lst pa_nil))) (Evl.pss_cut (ps_if (PW.pt (pw_and (pt_cmpR op_eq (pv 2) pe_str (nomark _)) (pw_and1 (pt_cmpR op_ne (pv 4) pe_str (nomark _))))) (pss_one (ps_asg (pe_tup (pa_cons pe_str (pa_cons (pe_dget (hu_of hr) (pv 0) pe_str (fun _ _ => rfl)) pa_nil))) (pg_tup (by rfl) (pgs_cons (pg_sub (pv 3) pe_str (SM.set_dict (hu_of hr))) (pgs_cons (pg_sub (pv 3) pe_str (SM.set_dict (hu_of hr))) pgs_nil))))) pss_nil) (Evl.pss_cut (ps_if (PW.pt (pw_and (pt_cmpR op_eq (pv 2) pe_str (nomark _)) (pw_and1 (pt_cmpR op_eq (pv 4) pe_str (nomark _))))) (pss_one (ps_asg (pe_tup (pa_cons pe_str (pa_cons pe_non pa_nil))) (pg_tup (by rfl) (pgs_cons (pg_sub (pv 3) pe_str (SM.set_dict (hu_of hr))) (pgs_cons (pg_sub (pv 3) pe_str (SM.set_dict (hu_of hr))) pgs_nil))))) pss_nil) (pss_one (ps_ret (pe_lst (pa_cons (pv 7) (pa_cons (pv 3) pa_nil))))))))))), ?_⟩
    let T : Addr → Option V → Option V → Option V → Option V → L2.St := fun p x4 x5 x6 x7 => [some (.ref d), some (cV c), some (cV reply), some (.ref p), x4, x5, x6, x7]
    let lb : Option V := some (.str fs.mark)
    refine ⟨fun σ' H' => ∃ p, σ' = T p lb none none none ∧ H p = none ∧ H' = upd H p (.dK kvs), ?_, ?_⟩
    · refine rx_cons (rx_cb1 ⟨_, rfl, d, kvs, rfl, ed, fun p hp => ?_⟩)
      exact ⟨_, rfl, d, _, rfl, dg ((Keep.new (m := []) hp).to ed) md.mark, _, _, rfl, p, rfl, hp, rfl⟩
    rintro σ' H1 ⟨p, rfl, hp, rfl⟩
    have k1 : Keep [] H (upd H p (.dK kvs)) := Keep.new hp
    have ed1 := k1.to ed
    let b1 : Bool := decide (fs.last = c) && !fs.amid
    let b2 : Bool := decide (fs.mark = "none") || (decide (fs.mark = "own") && !decide (atC fs.cs 0 = fs.mine))
    -- came
    refine ⟨fun σ' H' => σ' = T p lb (some (.bl b1)) none none ∧ H' = upd H p (.dK kvs), ?_, ?_⟩
    · refine rx_op ⟨_, rfl, d, _, rfl, dg ed1 md.last, _, rfl, fl_cn _ _, _, rfl, ?_⟩
      rw [dec_cn]
      refine ite2 (fun e => ?_) (fun e => ⟨?_, rfl⟩)
      · refine ⟨_, rfl, d, _, rfl, dg ed1 md.amid, _, rfl, ?_, rfl⟩
        show T p lb (some (.bl (!fs.amid))) none none = T p lb (some (.bl b1)) none none
        rw [show b1 = !fs.amid by show (decide (fs.last = c) && !fs.amid) = _; rw [show decide (fs.last = c) = true from e, Bool.true_and]]
      · show T p lb (some (.bl false)) none none = T p lb (some (.bl b1)) none none
        rw [show b1 = false by show (decide (fs.last = c) && !fs.amid) = _; rw [show decide (fs.last = c) = false from Bool.eq_false_iff.mpr e, Bool.false_and]]
    rintro σ' H2 ⟨rfl, rfl⟩
    -- is_free
    refine ⟨fun σ' H' => σ' = T p lb (some (.bl b1)) (some (.bl b2)) none ∧ H' = upd H p (.dK kvs), ?_, ?_⟩
    · refine rx_op ⟨_, rfl, rfl, _, rfl, ?_⟩
      rw [dec_str]
      have st : ∀ b : Bool, b2 = b → (T p lb (some (.bl b1)) (some (.bl b)) none = T p lb (some (.bl b1)) (some (.bl b2)) none) := fun b e => by rw [e]
      by_cases a : fs.mark = "none"
      · have eb : b2 = true := by show (decide (fs.mark = "none") || _) = _; rw [decide_eq_true a, Bool.true_or]
        rw [decide_eq_true a]
        exact iteT ⟨st true eb, rfl⟩
      · have eb : b2 = (decide (fs.mark = "own") && !decide (atC fs.cs 0 = fs.mine)) := by show (decide (fs.mark = "none") || _) = _; rw [decide_eq_false a, Bool.false_or]
        rw [decide_eq_false a]
        refine iteF (rx_op ⟨_, rfl, rfl, _, rfl, ?_⟩)
        rw [dec_str]
        by_cases b : fs.mark = "own"
        · rw [decide_eq_true b]
          rw [decide_eq_true b, Bool.true_and] at eb
          refine iteT (rx_op (rx_dget ⟨_, rfl, d, _, rfl, dg ed1 md.here, rx_dget ⟨_, rfl, d, _, rfl, dg ed1 md.mine, fl_cn _ _, ?_⟩⟩))
          rw [dec_cn]
          exact ⟨st _ eb, rfl⟩
        · rw [decide_eq_false b]
          rw [decide_eq_false b, Bool.false_and] at eb
          exact iteF ⟨st false eb, rfl⟩
    rintro σ' H3 ⟨rfl, rfl⟩
    let w : List Str := if needlessS fs c then ["needless"] else []
    -- words
    refine ⟨fun σ' H' => ∃ q, σ' = T p lb (some (.bl b1)) (some (.bl b2)) (some (.ref q)) ∧ H q = none ∧ q ≠ p ∧ Keep [] (upd H p (.dK kvs)) H' ∧ H' q = some (.lst (w.map V.str)), ?_, ?_⟩
    · have ne := needlessS_eq fs c
      have yes : needlessS fs c = true → ∀ H4 (_ : H4 = upd H p (.dK kvs)), tLst (tCons (tC (.str "needless")) tNil) (T p lb (some (.bl b1)) (some (.bl b2)) none) H4 (fun v H' => ∃ q, T p lb (some (.bl b1)) (some (.bl b2)) (some v) = T p lb (some (.bl b1)) (some (.bl b2)) (some (.ref q)) ∧ H q = none ∧ q ≠ p ∧ Keep [] (upd H p (.dK kvs)) H' ∧ H' q = some (.lst (w.map V.str))) := by
        rintro e H4 rfl
        refine rx_lst ⟨(by show 1 ≤ sizeLine; decide), fun q nq => ⟨q, rfl, k1.free (by simp) nq, (fun z => by rw [z, upd_same] at nq; cases nq), Keep.new nq, ?_⟩⟩
        rw [show w = (["needless"] : List Str) from if_pos e]
        exact upd_same
      refine rx_ife (rx_or ⟨_, rfl, _, rfl, ?_⟩)
      refine ite2 (fun e => ?_) (fun e => ?_)
      · exact iteT (yes (by rw [ne, show (decide (fs.mark = "none") || (decide (fs.mark = "own") && !decide (atC fs.cs 0 = fs.mine))) = true from e, Bool.true_or]) _ rfl)
      · refine rx_or (rx_tTest (rx_op (rx_dget ⟨_, rfl, d, _, rfl, dg ed1 md.here, _, rfl, fl_cn _ _, _, rfl, ?_⟩)))
        rw [dec_cn]
        refine ite2 (fun e1 => ?_) (fun e1 => ⟨_, rfl, _, rfl, ?_⟩)
        · exact iteT (yes (by rw [ne, show decide (atC fs.cs 0 = c) = true from e1, Bool.true_or, Bool.or_true]) _ rfl)
        · have e' : (decide (fs.mark = "none") || (decide (fs.mark = "own") && !decide (atC fs.cs 0 = fs.mine))) = false := Bool.eq_false_iff.mpr e
          have e1' : decide (atC fs.cs 0 = c) = false := Bool.eq_false_iff.mpr e1
          have nb : needlessS fs c = b1 := by rw [ne, e', e1', Bool.false_or, Bool.false_or]
          refine ite2 (fun e2 => yes (by rw [nb]; exact e2) _ rfl) (fun e2 => ?_)
          refine rx_lst ⟨(by show 0 ≤ sizeLine; decide), fun q nq => ⟨q, rfl, k1.free (by simp) nq, (fun z => by rw [z, upd_same] at nq; cases nq), Keep.new nq, ?_⟩⟩
          rw [show w = ([] : List Str) from if_neg (by rw [nb]; exact e2)]
          exact upd_same
    rintro σ' H4 ⟨q, rfl, nq, qp, k4, eq⟩
    have ep4 : H4 p = some (.dK kvs) := k4.to upd_same
    have k04 := k1.trans k4
    have ed4 := k4.to ed1
    let r := questionS fs c true reply
    have er : r = if reply = some "take" ∧ fs.mark = "own" then (w, ("free" : Str), (none : Cn)) else if reply = some "keep" ∧ fs.mark ≠ "own" then (w, ("own" : Str), atC fs.cs 0) else (w, fs.mark, fs.mine) := if_neg (by decide)
    have two : reply = some "take" → reply ≠ some "keep" := fun a b => by
      rw [a] at b
      exact absurd (Option.some.inj b) (ne_str (by decide +kernel))
    -- keep, then take: at most one of them
    let M : Str × Cn → L2.St → Hp → Prop := fun m σ' H' => ∃ kv, σ' = T p lb (some (.bl b1)) (some (.bl b2)) (some (.ref q)) ∧ Keep [] H H' ∧ H' p = some (.dK kv) ∧ Md kv ns { fs with mark := m.1, mine := m.2 } ∧ H' q = some (.lst (w.map V.str)) ∧ H' d = some (.dK kvs)
    let m1 : Str × Cn := if reply = some "keep" ∧ fs.mark ≠ "own" then (("own" : Str), atC fs.cs 0) else (fs.mark, fs.mine)
    have npd : d ≠ p := fun z => by
      rw [z, hp] at ed
      cases ed
    have put2 : ∀ (σ : L2.St) (H5 : Hp) (kv : List (Key × V)) (m : Str × Cn) (n1 : Str) (n2 : Cn) (te : TE) (m' : Str × Cn), m' = (n1, n2) → σ = T p lb (some (.bl b1)) (some (.bl b2)) (some (.ref q)) → Keep [] H H5 → H5 p = some (.dK kv) → Md kv ns { fs with mark := m.1, mine := m.2 } → H5 q = some (.lst (w.map V.str)) → H5 d = some (.dK kvs) → (∀ Q : VK, Q (cV n2) H5 → te σ H5 Q) →
        tAsg (tTup (tCons (tC (.str n1)) (tCons te tNil))) (gTup K 2 (gCons (gSub (tVar 3) (tC (.str "(mark)")) rSetD) (gCons (gSub (tVar 3) (tC (.str "(mine)")) rSetD) gNil))) { nx := M m', rt := Q } σ H5 := by
      intro σ H5 kv m n1 n2 te m' em es k5 e5 d5 q5 ed5 ht
      subst es em
      refine rx_asg (rx_tup (rx_cons (rx_c (rx_cons (ht _ ⟨(by show 2 ≤ sizeLine; decide), fun t nt => ?_⟩)))))
      have kt : Keep [] H5 (upd H5 t (.tup [.str n1, cV n2])) := Keep.new nt
      have a1 := Md.putMark nm d5 n1
      have a2 := Md.putMine nm a1 n2
      refine ⟨t, _, rfl, SqT.of upd_same, rfl, _, _, rfl, ⟨_, rfl, p, _, rfl, dpu (kt.to e5) (Nat.le_trans d5.small (by decide)), ?_⟩⟩
      refine ⟨_, _, rfl, ⟨_, rfl, p, _, rfl, dpu upd_same (Nat.le_trans a1.small (by decide)), rfl, _, rfl, ?_, upd_same, a2, ?_, ?_⟩⟩
      · exact Keep.own (Keep.own (k5.trans kt) hp) hp
      · rw [upd_ne qp, upd_ne qp]
        exact kt.to q5
      · rw [upd_ne npd, upd_ne npd]
        exact kt.to ed5
    refine ⟨M m1, ?_, ?_⟩
    · refine rx_if (rx_and (rx_tTest (rx_op ⟨_, rfl, by cases reply <;> rfl, _, rfl, ?_⟩)))
      rw [show decide (cV reply = .str "keep") = decide (reply = some "keep") from dec_cn reply (some "keep")]
      refine ite2 (fun e => ?_) (fun e => iteF ⟨kvs, rfl, k04, ep4, ?_, eq, ed4⟩)
      · refine rx_tTest (rx_op ⟨_, rfl, rfl, _, rfl, ?_⟩)
        rw [dec_str]
        by_cases em : fs.mark = "own"
        · rw [decide_eq_true em]
          refine iteF ⟨kvs, rfl, k04, ep4, ?_, eq, ed4⟩
          rw [show m1 = (fs.mark, fs.mine) from if_neg (fun z => z.2 em)]
          exact md
        · rw [decide_eq_false em]
          refine iteT (put2 _ H4 kvs (fs.mark, fs.mine) "own" (atC fs.cs 0) _ _ (if_pos ⟨of_decide_eq_true e, em⟩) rfl k04 ep4 md eq ed4 fun Q q => ⟨_, rfl, d, _, rfl, dg ed4 md.here, q⟩)
      · rw [show m1 = (fs.mark, fs.mine) from if_neg (fun z => e (decide_eq_true z.1))]
        exact md
    rintro σ' H5 ⟨kv5, rfl, k5, e5, d5, q5, ed5⟩
    refine ⟨M (r.2.1, r.2.2), ?_, ?_⟩
    · refine rx_if (rx_and (rx_tTest (rx_op ⟨_, rfl, by cases reply <;> rfl, _, rfl, ?_⟩)))
      rw [show decide (cV reply = .str "take") = decide (reply = some "take") from dec_cn reply (some "take")]
      have same : ¬ (reply = some "take" ∧ fs.mark = "own") → (r.2.1, r.2.2) = m1 := fun no => by
        rw [er, if_neg no]
        show _ = (if reply = some "keep" ∧ fs.mark ≠ "own" then (("own" : Str), atC fs.cs 0) else (fs.mark, fs.mine))
        by_cases z : reply = some "keep" ∧ fs.mark ≠ "own"
        · rw [if_pos z, if_pos z]
        · rw [if_neg z, if_neg z]
      refine ite2 (fun e => ?_) (fun e => iteF ⟨kv5, rfl, k5, e5, ?_, q5, ed5⟩)
      · refine rx_tTest (rx_op ⟨_, rfl, rfl, _, rfl, ?_⟩)
        rw [dec_str]
        refine ite2 (fun em => ?_) (fun em => ⟨kv5, rfl, k5, e5, ?_, q5, ed5⟩)
        · refine put2 _ H5 kv5 m1 "free" none _ _ ?_ rfl k5 e5 d5 q5 ed5 fun Q q => q
          rw [er, if_pos ⟨of_decide_eq_true e, of_decide_eq_true em⟩]
        · rw [same (fun z => em (decide_eq_true z.2))]
          exact d5
      · rw [same (fun z => e (decide_eq_true z.1))]
        exact d5
    rintro σ' H6 ⟨kv6, rfl, k6, e6, d6, q6, ed6⟩
    have ew : r.1 = w := by
      rw [er]
      split
      · rfl
      · split <;> rfl
    refine rx_ret (rx_lst ⟨_, rfl, _, rfl, (by show 2 ≤ sizeLine; decide), fun l nl => ?_⟩)
    have kl : Keep [] H6 (upd H6 l (.lst [.ref q, .ref p])) := Keep.new nl
    refine k l q p _ kv6 (k6.free (by simp) nl) nq hp (k6.trans kl) upd_same ?_ (kl.to e6) d6
    rw [show (questionS fs c true reply).1 = w from ew]
    exact kl.to q6
end
end La
set_option Elab.async false
set_option linter.all false
set_option maxRecDepth 100000
set_option maxHeartbeats 4000000
namespace La
open PySem PySem.Spec PyProof.Rows L2 SM
theorem rd_more {H : Hp} {pw l1 : Addr} {ws : List Str} {x : Str} {b : Bool} {Q : VK} (hw : H pw = some (.lst (ws.map V.str))) (h1 : H l1 = some (.lst [.str x])) (z : ws.length ≤ 100) (k : ∀ p H', H p = none → Keep [] H H' → H' p = some (.lst ((ws ++ if b = true then [x] else []).map V.str)) → Q (.ref p) H') :
    rRep (.ref l1) (.int (if b = true then 1 else 0)) H fun v H2 => rCat (.ref pw) v H2 Q := by
  cases b with
  | true =>
    refine rd_rep h1 (by decide) (by decide) (by show 1 ≤ 1000; decide) fun p H1 np k1 e1 => ?_
    refine rd_cat (k1.to hw) e1 (by rw [List.length_map]; show ws.length + 1 ≤ 1000; omega) fun q H2 nq k2 e2 => k q H2 (k1.free (by simp) nq) (k1.trans k2) ?_
    rw [e2, List.map_append]
    rfl
  | false =>
    refine rd_rep h1 (by decide) (by decide) (by show 0 ≤ 1000; decide) fun p H1 np k1 e1 => ?_
    refine rd_cat (k1.to hw) e1 (by rw [List.length_map]; show ws.length + 0 ≤ 1000; omega) fun q H2 nq k2 e2 => k q H2 (k1.free (by simp) nq) (k1.trans k2) ?_
    rw [e2, List.map_append]
    rfl
theorem endOwn_ok {s : Fs} {c : Cn} (h : okC s.mine) : (∀ z ∈ endOwn s c, okC z) ∧ (endOwn s c).length ≤ 1 := by
  unfold endOwn
  split
  · refine ⟨fun z hz => ?_, Nat.le_refl _⟩
    rw [List.mem_singleton.mp hz, endMark]
    split
    · exact okC_none
    · exact h
  · exact ⟨fun z hz => (by cases hz), Nat.zero_le _⟩
section
variable {P : Program} {w : World} {K : PySem.W.Frag} {mg : Str → Option Value} {base : Heap}
abbrev s__law_ended : Stmt := (top 61)
abbrev N__law_ended : List Str := ["words", "file", "new", "found", "kept"]
abbrev P__law_ended : List Str := ["words", "file", "new"]
theorem sc__law_ended : FnScope N__law_ended P__law_ended (defScope s__law_ended) := ⟨rfl, rfl, rfl, by decide +kernel, rfl, by decide +kernel, by decide +kernel⟩
theorem D_law_ended (W : Cw fas fns K mg) : DefOk P w K mg base CX0 1 "_law_ended" P__law_ended (spLEnded K) := by
  refine DefOk.of W 58 53 (st := s__law_ended) rfl rfl sc__law_ended (fun _ _ _ _ _ _ us hl => match us, hl with | [_, _, _], _ => rfl) (fun vs H Q E h => ?_) (fun cdv A outer s H vs Q E hr h => ?_)
  · obtain ⟨pw, d, ws, kvs, c, ns, s, rfl, _⟩ := h
    rfl
  · obtain ⟨pw, d, ws, kvs, c, ns, fs, rfl, ew, w10, ed, md, fok, okc, nm, k⟩ := h
    refine ⟨_, PSs.nox (Evl.pss_cut (ps_set (i := 3) sc__law_ended.nd rfl (by first | exact Or.inl rfl | exact Or.inr rfl) (pe_callTy SM.call_dictC (by rfl) (W.fre 66) (by decide +kernel) (pa_cons (pv 1) pa_nil))) (Evl.pss_cut (ps_if (PW.pt (pw_or (pt_cmpR op_eq (pe_dget (hu_of hr) (pv 3) pe_str (fun _ _ => rfl)) pe_str (nomark _)) (pw_or1 (PW.pt (pw_and (pt_cmpR op_eq (pe_dget (hu_of hr) (pv 3) pe_str (fun _ _ => rfl)) pe_str (nomark _)) (pw_and1 (pt_cmpR op_eq (pe_dget (hu_of hr) (pv 3) pe_str (fun _ _ => rfl)) (pv 2) (nomark _)))))))) (pss_one (ps_asg (pe_tup (pa_cons pe_str (pa_cons pe_non pa_nil))) (pg_tup (by rfl) (pgs_cons (pg_sub (pv 3) pe_str (SM.set_dict (hu_of hr))) (pgs_cons (pg_sub (pv 3) pe_str (SM.set_dict (hu_of hr))) pgs_nil))))) pss_nil) (Evl.pss_cut (ps_asg (pv 2) (pg_sub (pv 3) pe_str (SM.set_dict (hu_of hr)))) (Evl.pss_cut (ps_set (i := 4) sc__law_ended.nd rfl (by first | exact Or.inl rfl | exact Or.inr rfl) (pe_ifExp (pt_cmpR op_eq (pe_dget (hu_of hr) (pv 3) pe_str (fun _ _ => rfl)) pe_str (nomark _)) (pe_lst (pa_cons (pe_dget (hu_of hr) (pv 3) pe_str (fun _ _ => rfl)) pa_nil)) (pe_lst pa_nil))) (Evl.pss_cut (ps_set (i := 0) sc__law_ended.nd rfl (by first | exact Or.inl rfl | exact Or.inr rfl) (pe_op op_cat (pv 0) (pe_op op_rep (pe_lst (pa_cons pe_str pa_nil)) (pe_callTy call_int1 (by rfl) (W.fre 68) (by decide +kernel) (pa_cons (pe_cmpR (SM.op_notInA (SM.units65 hr)) (pe_dget (hu_of hr) (pv 3) pe_str (fun _ _ => rfl)) (pe_op op_cat (pe_lst (pa_cons (pv 2) pa_nil)) (pv 4)) (by rfl)) pa_nil))))) (Evl.pss_cut (ps_set (i := 0) sc__law_ended.nd rfl (by first | exact Or.inl rfl | exact Or.inr rfl) (pe_op op_cat (pv 0) (pe_op op_rep (pe_lst (pa_cons pe_str pa_nil)) (pe_callTy call_int1 (by rfl) (W.fre 68) (by decide +kernel) (pa_cons (pe_cmpR (SM.op_notInA (SM.units65 hr)) (pe_dget1 (hu_of hr) (pv 3) pe_str ⟨by rfl, by rfl, by rfl, by rfl⟩) (pe_op op_cat (pe_lst (pa_cons pe_non pa_nil)) (pv 4)) (by rfl)) pa_nil))))) (pss_one (ps_ret (pe_lst (pa_cons (pv 0) (pa_cons (pv 3) pa_nil))))))))))), ?_⟩
    let T : Addr → Addr → Option V → L2.St := fun pw p x4 => [some (.ref pw), some (.ref d), some (cV c), some (.ref p), x4]
    let em := endMark fs c
    let own := endOwn fs c
    obtain ⟨owok, owl⟩ := endOwn_ok (c := c) fok.mine
    refine ⟨fun σ' H' => ∃ p, σ' = T pw p none ∧ H p = none ∧ H' = upd H p (.dK kvs), ⟨_, rfl, d, kvs, rfl, ed, fun p hp => ⟨p, rfl, hp, rfl⟩⟩, ?_⟩
    rintro σ' H1 ⟨p, rfl, hp, rfl⟩
    have k1 : Keep [] H (upd H p (.dK kvs)) := Keep.new hp
    have npw : pw ≠ p := fun z => by
      rw [z, hp] at ew
      cases ew
    let M : L2.St → Hp → Prop := fun σ' H' => ∃ kv, σ' = T pw p none ∧ Keep [] H H' ∧ H' p = some (.dK kv) ∧ Md kv ns { fs with mark := em.1, mine := em.2 }
    refine ⟨M, ?_, ?_⟩
    · have yes : (fs.mark = "free" ∨ (fs.mark = "own" ∧ fs.mine = c)) → ∀ H4, H4 = upd H p (.dK kvs) → tAsg (tTup (tCons (tC (.str "none")) (tCons (tC .non) tNil))) (gTup K 2 (gCons (gSub (tVar 3) (tC (.str "(mark)")) rSetD) (gCons (gSub (tVar 3) (tC (.str "(mine)")) rSetD) gNil))) { nx := M, rt := Q } (T pw p none) H4 := by
        rintro e H4 rfl
        have ee : em = (("none" : Str), (none : Cn)) := if_pos e
        have a1 := Md.putMark nm md "none"
        have a2 := Md.putMine nm a1 none
        refine rx_asg (rx_tup ⟨(by show 2 ≤ sizeLine; decide), fun t nt => ?_⟩)
        have kt : Keep [] (upd H p (.dK kvs)) (upd (upd H p (.dK kvs)) t (.tup [.str "none", .non])) := Keep.new nt
        refine ⟨t, _, rfl, SqT.of upd_same, rfl, _, _, rfl, ⟨_, rfl, p, _, rfl, dpu (kt.to upd_same) (Nat.le_trans md.small (by decide)), ?_⟩⟩
        refine ⟨_, _, rfl, ⟨_, rfl, p, _, rfl, dpu upd_same (Nat.le_trans a1.small (by decide)), rfl, _, rfl, ?_, upd_same, ?_⟩⟩
        · exact Keep.own (Keep.own (k1.trans kt) hp) hp
        · rw [ee]
          exact a2
      have no : ¬ (fs.mark = "free" ∨ (fs.mark = "own" ∧ fs.mine = c)) → M (T pw p none) (upd H p (.dK kvs)) := fun e => by
        have ee : em = (fs.mark, fs.mine) := if_neg e
        refine ⟨kvs, rfl, k1, upd_same, ?_⟩
        rw [ee]
        exact md
      refine rx_if (rx_or (rx_tTest (rx_op (rx_dget ⟨_, rfl, p, _, rfl, dg upd_same md.mark, rfl, _, rfl, ?_⟩))))
      rw [dec_str]
      by_cases e1 : fs.mark = "free"
      · rw [decide_eq_true e1]
        exact iteT (iteT (yes (.inl e1) _ rfl))
      · rw [decide_eq_false e1]
        refine iteF (rx_and (rx_tTest (rx_op (rx_dget ⟨_, rfl, p, _, rfl, dg upd_same md.mark, rfl, _, rfl, ?_⟩))))
        rw [dec_str]
        by_cases e2 : fs.mark = "own"
        · rw [decide_eq_true e2]
          refine iteT (rx_tTest (rx_op (rx_dget ⟨_, rfl, p, _, rfl, dg upd_same md.mine, _, rfl, fl_cn _ _, _, rfl, ?_⟩)))
          rw [dec_cn]
          by_cases e3 : fs.mine = c
          · rw [decide_eq_true e3]
            exact iteT (yes (.inr ⟨e2, e3⟩) _ rfl)
          · rw [decide_eq_false e3]
            exact iteF (no fun z => z.elim e1 fun z => e3 z.2)
        · rw [decide_eq_false e2]
          exact iteF (iteF (no fun z => z.elim e1 fun z => e2 z.1))
    rintro σ' H2 ⟨kv, rfl, k2, e2, m2⟩
    -- last
    have m3 : Md (putK kv (.inr "(last)") (cV c)) ns (endS fs c) := Md.putLast nm m2 c
    refine ⟨fun σ' H' => σ' = T pw p none ∧ H' = upd H2 p (.dK (putK kv (.inr "(last)") (cV c))), ?_, ?_⟩
    · exact rx_asg ⟨_, rfl, _, rfl, p, _, rfl, dpu e2 (Nat.le_trans m2.small (by decide)), rfl, rfl⟩
    rintro σ' H3 ⟨rfl, rfl⟩
    generalize putK kv (.inr "(last)") (cV c) = kv3 at m3
    have k3 : Keep [] H (upd H2 p (.dK kv3)) := Keep.own k2 hp
    -- kept
    refine ⟨fun σ' H' => ∃ q, σ' = T pw p (some (.ref q)) ∧ Keep [] (upd H2 p (.dK kv3)) H' ∧ H' q = some (.lst (own.map cV)), ?_, ?_⟩
    · refine rx_ife (rx_tTest (rx_op (rx_dget ⟨_, rfl, p, _, rfl, dg upd_same m3.mark, rfl, _, rfl, ?_⟩)))
      rw [dec_str]
      by_cases e : em.1 = "own"
      · rw [show decide ((endS fs c).mark = "own") = true from decide_eq_true e]
        refine iteT (rx_lst (rx_cons (rx_dget ⟨_, rfl, p, _, rfl, dg upd_same m3.mine, (by show 1 ≤ sizeLine; decide), fun q nq => ⟨q, rfl, Keep.new nq, ?_⟩⟩)))
        rw [show own = [em.2] from if_pos e]
        exact upd_same
      · rw [show decide ((endS fs c).mark = "own") = false from decide_eq_false e]
        refine iteF ⟨(by show 0 ≤ sizeLine; decide), fun q nq => ⟨q, rfl, Keep.new nq, ?_⟩⟩
        rw [show own = [] from if_neg e]
        exact upd_same
    rintro σ' H4 ⟨q, rfl, k4, e4⟩
    have k04 := k3.trans k4
    have ep4 := k4.to (upd_same (H := H2) (a := p) (o := .dK kv3))
    let w1 : List Str := if atC fs.cs 0 = c ∨ atC fs.cs 0 ∈ own then [] else ["stale"]
    -- a list of one content, and what is kept
    have one : ∀ (z : Cn) (te : TE) (σ : L2.St) (H5 : Hp) (Q5 : VK), σ[4]? = some (some (.ref q)) → H5 q = some (.lst (own.map cV)) → (∀ Q : VK, Q (cV z) H5 → te σ H5 Q) → (∀ a H6, Keep [] H5 H6 → H6 a = some (.lst ((z :: own).map cV)) → Q5 (.ref a) H6) → tOp rCat (tLst (tCons te tNil)) (tVar 4) σ H5 Q5 := by
      intro z te σ H5 Q5 hs e5 ht q5
      refine rx_op (rx_lst (rx_cons (ht _ ⟨(by show 1 ≤ sizeLine; decide), fun a na => ⟨_, hs, ?_⟩⟩)))
      have ka : Keep [] H5 (upd H5 a (.lst [cV z])) := Keep.new na
      refine rd_cat upd_same (ka.to e5) (by rw [List.length_map]; show 1 + own.length ≤ 1000; have : own.length ≤ 1 := owl; omega) fun b H6 nb k6 e6 => q5 b H6 (ka.trans k6) ?_
      rw [e6]
      rfl
    refine ⟨fun σ' H' => ∃ pw1, σ' = T pw1 p (some (.ref q)) ∧ Keep [] H4 H' ∧ H' pw1 = some (.lst ((ws ++ w1).map V.str)) ∧ H4 pw1 = none, ?_, ?_⟩
    · refine rx_op ⟨_, rfl, rx_op ⟨(by show 1 ≤ sizeLine; decide), fun l1 nl1 => rx_cb1 (rx_op (rx_dget ⟨_, rfl, p, _, rfl, dg ((Keep.new (m := []) nl1).to ep4) m3.here, ?_⟩))⟩⟩
      have kl : Keep [] H4 (upd H4 l1 (.lst [.str "stale"])) := Keep.new nl1
      refine one c _ _ _ _ rfl (kl.to e4) (fun Q q => ⟨_, rfl, q⟩) fun a H6 k6 e6 => ?_
      refine op_nin_cnL (atC_ok fok.cs 0) (fun z hz => ?_) (SqL.of e6) (.inr ⟨_, rfl, ?_⟩)
      · rcases List.mem_cons.mp hz with rfl | hz
        · exact okc
        · exact owok z hz
      · have k46 := kl.trans k6
        refine rd_more ((k04.trans k46).to ew) (k6.to upd_same) (by omega) fun pw1 H7 n7 k7 e7 => ⟨pw1, rfl, k46.trans k7, ?_, k46.free (by simp) n7⟩
        rw [e7]
        have : (if (!decide (atC fs.cs 0 ∈ c :: own)) = true then (["stale"] : List Str) else []) = w1 := by
          show _ = if atC fs.cs 0 = c ∨ atC fs.cs 0 ∈ own then ([] : List Str) else ["stale"]
          by_cases z : atC fs.cs 0 = c ∨ atC fs.cs 0 ∈ own
          · rw [if_pos z, if_neg (by rw [decide_eq_true (List.mem_cons.mpr z)]; decide)]
          · rw [if_neg z, if_pos (by rw [decide_eq_false (fun y => z (List.mem_cons.mp y))]; decide)]
        rw [← this]
        rfl
    rintro σ' H5 ⟨pw1, rfl, k5, e5, n5⟩
    have k05 := k04.trans k5
    have ep5 := k5.to ep4
    have w1l : w1.length ≤ 1 := by
      show (if _ then _ else _ : List Str).length ≤ 1
      split <;> decide
    let ec : Cn := if ("elder" : Str) ∈ ns then atC fs.cs (posOf ns "elder") else none
    let w2 : List Str := if ec = none ∨ ec ∈ own then [] else ["left"]
    have er : remainsS (elderO ns) fs.cs c own = w1 ++ w2 := by
      show w1 ++ _ = w1 ++ w2
      congr 1
      show (match elderO ns with | none => [] | some e => if atC fs.cs e = none ∨ atC fs.cs e ∈ own then ([] : List Str) else ["left"]) = if ec = none ∨ ec ∈ own then ([] : List Str) else ["left"]
      by_cases z : ("elder" : Str) ∈ ns
      · rw [show elderO ns = some (posOf ns "elder") from if_pos (elder_in.mpr z), show ec = atC fs.cs (posOf ns "elder") from if_pos z]
      · rw [show elderO ns = none from if_neg (fun y => z (elder_in.mp y)), show ec = none from if_neg z, if_pos (.inl rfl)]
    have ev : (valV kv3 (.inr "elder")).getD .non = cV ec := by
      by_cases z : ("elder" : Str) ∈ ns
      · rw [m3.at_ "elder" (.inr z), show ec = atC fs.cs (posOf ns "elder") from if_pos z]
        rfl
      · rw [m3.noel z, show ec = none from if_neg z]
        rfl
    have ecok : okC ec := by
      show okC (if _ then _ else _)
      split
      · exact atC_ok fok.cs _
      · exact okC_none
    refine ⟨fun σ' H' => ∃ pw2, σ' = T pw2 p (some (.ref q)) ∧ Keep [] H5 H' ∧ H' pw2 = some (.lst ((ws ++ (w1 ++ w2)).map V.str)) ∧ H5 pw2 = none, ?_, ?_⟩
    · refine rx_op ⟨_, rfl, rx_op ⟨(by show 1 ≤ sizeLine; decide), fun l1 nl1 => rx_cb1 (rx_op ⟨_, rfl, p, rfl, .inl ⟨_, .inl ((Keep.new (m := []) nl1).to ep5)⟩, _, DGet.k (k := .inr "elder") ((Keep.new (m := []) nl1).to ep5), ?_⟩)⟩⟩
      have kl : Keep [] H5 (upd H5 l1 (.lst [.str "left"])) := Keep.new nl1
      rw [ev]
      refine one none _ _ _ _ rfl ((k5.trans kl).to e4) (fun Q q => q) fun a H6 k6 e6 => ?_
      refine op_nin_cnL ecok (fun z hz => ?_) (SqL.of e6) (.inr ⟨_, rfl, ?_⟩)
      · rcases List.mem_cons.mp hz with rfl | hz
        · exact okC_none
        · exact owok z hz
      · have k46 := kl.trans k6
        refine rd_more (k46.to e5) (k6.to upd_same) (by rw [List.length_append]; omega) fun pw2 H7 n7 k7 e7 => ⟨pw2, rfl, k46.trans k7, ?_, k46.free (by simp) n7⟩
        rw [e7]
        have : (if (!decide (ec ∈ none :: own)) = true then (["left"] : List Str) else []) = w2 := by
          show _ = if ec = none ∨ ec ∈ own then ([] : List Str) else ["left"]
          by_cases z : ec = none ∨ ec ∈ own
          · rw [if_pos z, if_neg (by rw [decide_eq_true (List.mem_cons.mpr z)]; decide)]
          · rw [if_neg z, if_pos (by rw [decide_eq_false (fun y => z (List.mem_cons.mp y))]; decide)]
        rw [← this, List.append_assoc]
    rintro σ' H6 ⟨pw2, rfl, k6, e6, n6⟩
    have k06 := k05.trans k6
    refine rx_ret (rx_lst ⟨_, rfl, _, rfl, (by show 2 ≤ sizeLine; decide), fun l nl => ?_⟩)
    have kl : Keep [] H6 (upd H6 l (.lst [.ref pw2, .ref p])) := Keep.new nl
    refine k l pw2 p _ kv3 (k06.free (by simp) nl) (k05.free (by simp) n6) hp (k06.trans kl) upd_same ?_ (kl.to (k6.to ep5)) m3
    rw [show remainsS (elderO ns) fs.cs c (endOwn fs c) = _ from er]
    exact kl.to e6
end
end La
set_option Elab.async false
set_option linter.all false
set_option maxRecDepth 100000
set_option maxHeartbeats 4000000
namespace La
open PySem PySem.Spec PyProof.Rows L2 SM
theorem LtH.takeK {K : PySem.W.Frag} {σ : L2.St} {H : Hp} {ta : TE} {tn : TO} {ds : List PyData} {n : Nat} (h : LtH K ta σ H (.tuple ds)) (hn : ∀ H1, Keep [] H H1 → ∀ (Q : Option Int → Hp → Prop), Q (some (n : Int)) H1 → tn σ H1 Q) : LtH K (tSl (SM.rSlA K) ta tNoPart tn) σ H (.tuple (ds.take n)) := by
  intro H1 k1 Q k
  refine h H1 k1 _ fun v H2 k2 d2 => ?_
  refine hn H2 (k1.trans k2) _ ?_
  obtain ⟨a, xs, rfl, ha, da⟩ := d2.items
  by_cases hw : HT.sIx xs.length 0 none = 0 ∧ HT.sIx xs.length xs.length (some (n : Int)) = xs.length
  · refine .inr ⟨a, xs, rfl, ha, hw, ?_⟩
    have e : n ≥ ds.length := by
      have := hw.2
      rw [sIx_n, da.length] at this
      omega
    rw [List.take_of_length_le e] at k
    exact k _ _ k2 d2
  · refine .inl ⟨a, xs, rfl, ha, hw, fun p hp => ?_⟩
    have e : cutV xs none (some (n : Int)) = xs.take n := by
      unfold cutV
      rw [sIx_n, HT.sIx_none, List.drop_zero, Nat.sub_zero, List.take_eq_take_iff]
      omega
    refine k _ _ (k2.trans (Keep.new hp)) (.tup (SqT.of upd_same) ?_)
    rw [e]
    exact (da.take n).k0 (Keep.new hp)
def oH (ns : List Str) (s : Fs) (c : Cn) (ren : Bool) (l : Ln) (reply : Option Str) (n : Option Nat) : List Cn := doSteps (posOf ns) (heldOf (posOf ns) s c ren) (takeO n (listFor l reply))
def oQ (s : Fs) (c : Cn) (l : Ln) (reply : Option Str) : List Str × Str × Cn := questionS s c l.keep.isSome reply
def midS (ns : List Str) (s : Fs) (c : Cn) (ren : Bool) (l : Ln) (reply : Option Str) (n : Option Nat) : Fs := { s with cs := (oH ns s c ren l reply n).take (ns.length + 1), mark := (oQ s c l reply).2.1, mine := (oQ s c l reply).2.2 }
def oHm (ns : List Str) (m : Fs) : List Str := if m.mark = "own" then harmS (spotsOf ns (ns.filter isPlace)) m.cs m.mine else []
def harmed (ns : List Str) (m : Fs) : Fs := if oHm ns m = [] then m else { m with mark := "none", mine := none }
theorem atC_take {h : List Cn} {m i : Nat} (l : i < m) : atC (h.take m) i = atC h i := by rw [atC, atC, List.getElem?_take, if_pos l]
theorem spots_lt {ns : List Str} {i : Nat} (h : i ∈ spotsOf ns (ns.filter isPlace)) : i < ns.length + 1 := by
  obtain ⟨z, hz, rfl⟩ := List.mem_map.mp h
  refine pos_low ?_
  rcases List.mem_cons.mp hz with e | e
  · exact .inl e
  · exact .inr (List.mem_filter.mp e).1
theorem harmS_take {ns : List Str} {h : List Cn} {m : Cn} : harmS (spotsOf ns (ns.filter isPlace)) (h.take (ns.length + 1)) m = harmS (spotsOf ns (ns.filter isPlace)) h m := by
  have e : ((spotsOf ns (ns.filter isPlace)).any fun i => decide (atC (h.take (ns.length + 1)) i = m)) = ((spotsOf ns (ns.filter isPlace)).any fun i => decide (atC h i = m)) := by
    rw [Bool.eq_iff_iff, List.any_eq_true, List.any_eq_true]
    exact ⟨fun ⟨i, hi, z⟩ => ⟨i, hi, by rw [← atC_take (spots_lt hi)]; exact z⟩, fun ⟨i, hi, z⟩ => ⟨i, hi, by rw [atC_take (spots_lt hi)]; exact z⟩⟩
  unfold harmS
  rw [e, atC_take (Nat.succ_pos _)]
theorem remainsS_take {ns : List Str} {h : List Cn} {c : Cn} {own : List Cn} : remainsS (elderO ns) (h.take (ns.length + 1)) c own = remainsS (elderO ns) h c own := by
  unfold remainsS
  rw [atC_take (Nat.succ_pos _)]
  congr 1
  by_cases z : ("elder" : Str) ∈ planWordsOf ns
  · rw [show elderO ns = some (posOf ns "elder") from if_pos z]
    show (if atC (h.take (ns.length + 1)) (posOf ns "elder") = none ∨ _ then _ else _) = _
    rw [atC_take (pos_low (.inr (elder_in.mp z)))]
  · rw [show elderO ns = none from if_neg z]
theorem outcome_law {ns : List Str} {s : Fs} {c : Cn} {ren : Bool} {l : Ln} {reply : Option Str} {n : Option Nat} (len : s.cs.length = ns.length + 1) :
    outcomeS (posOf ns) (spotsOf ns (ns.filter isPlace)) (elderO ns) s c ren l reply n = (match n with
      | some _ => ((oQ s c l reply).1 ++ oHm ns (midS ns s c ren l reply n), { harmed ns (midS ns s c ren l reply n) with amid := true })
      | none => ((oQ s c l reply).1 ++ oHm ns (midS ns s c ren l reply n) ++ remainsS (elderO ns) (harmed ns (midS ns s c ren l reply n)).cs c (endOwn { harmed ns (midS ns s c ren l reply n) with amid := false } c), endS { harmed ns (midS ns s c ren l reply n) with amid := false } c)) := by
  let h := oH ns s c ren l reply n
  let q := oQ s c l reply
  let hm : List Str := if q.2.1 = "own" then harmS (spotsOf ns (ns.filter isPlace)) h q.2.2 else []
  let m2 : Str × Cn := if hm = [] then (q.2.1, q.2.2) else ("none", none)
  let m3 : Str × Cn := if m2.1 = "free" ∨ (m2.1 = "own" ∧ m2.2 = c) then ("none", none) else m2
  let own : List Cn := if m3.1 = "own" then [m3.2] else []
  have lh : h.length = ns.length + 3 := by rw [show h.length = _ from doSteps_len .., heldOf_len, len]
  have lt : h.length - 2 = ns.length + 1 := by omega
  have ehm : oHm ns (midS ns s c ren l reply n) = hm := by
    show (if q.2.1 = "own" then harmS (spotsOf ns (ns.filter isPlace)) (h.take (ns.length + 1)) q.2.2 else []) = _
    rw [harmS_take]
  have eh : harmed ns (midS ns s c ren l reply n) = { s with cs := h.take (ns.length + 1), mark := m2.1, mine := m2.2 } := by
    rw [harmed, ehm]
    show _ = { s with cs := h.take (ns.length + 1), mark := (if hm = [] then (q.2.1, q.2.2) else (("none" : Str), (none : Cn)) : Str × Cn).1, mine := (if hm = [] then (q.2.1, q.2.2) else (("none" : Str), (none : Cn)) : Str × Cn).2 }
    by_cases e : hm = []
    · rw [if_pos e, if_pos e]
      rfl
    · rw [if_neg e, if_neg e]
      rfl
  rw [ehm, eh]
  cases n with
  | some k =>
    show outcomeS _ _ _ _ _ _ _ _ _ = (q.1 ++ hm, ⟨h.take (ns.length + 1), s.last, m2.1, m2.2, true⟩)
    rw [← lt]
    rfl
  | none =>
    show outcomeS _ _ _ _ _ _ _ _ _ = (q.1 ++ hm ++ remainsS (elderO ns) (h.take (ns.length + 1)) c own, ⟨h.take (ns.length + 1), c, m3.1, m3.2, false⟩)
    rw [remainsS_take, ← lt]
    rfl
theorem set_step {h cs : List Cn} {i : Nat} (hi : i < h.length) (hc : i < cs.length) : (h.take i ++ cs.drop i).set i (atC h i) = h.take (i + 1) ++ cs.drop (i + 1) := by
  rw [List.set_append_right _ _ (by rw [List.length_take]; omega), List.length_take, Nat.min_eq_left (Nat.le_of_lt hi), Nat.sub_self, List.drop_eq_getElem_cons hc, List.set_cons_zero, List.take_succ, List.append_assoc]
  congr 1
  rw [atC, List.getElem?_eq_getElem hi]
  rfl
theorem isPlace_dec (z : Str) : isPlace z = decide (z ∈ (["beside", "elder"] : List Str)) := by
  rw [isPlace, List.contains_eq_mem]
theorem harmS_law {ns : List Str} {cs : List Cn} {m : Cn} : harmS (spotsOf ns (ns.filter isPlace)) cs m = if (if m = none then !decide (atC cs 0 = none) else !decide (m ∈ atC cs 0 :: (ns.filter isPlace).map fun z => atC cs (posOf ns z))) = true then ([if m = none then "revived" else "lost"] : List Str) else [] := by
  unfold harmS
  by_cases e : m = none
  · rw [if_pos e, if_pos e, if_pos e]
    by_cases z : atC cs 0 = none
    · rw [if_pos z, decide_eq_true z]; rfl
    · rw [if_neg z, decide_eq_false z]; rfl
  · rw [if_neg e, if_neg e, if_neg e]
    have : ((spotsOf ns (ns.filter isPlace)).any fun i => decide (atC cs i = m)) = decide (m ∈ atC cs 0 :: (ns.filter isPlace).map fun z => atC cs (posOf ns z)) := by
      have es : (spotsOf ns (ns.filter isPlace)).map (atC cs) = atC cs 0 :: (ns.filter isPlace).map fun z => atC cs (posOf ns z) := by
        rw [spotsOf, List.map_map]
        show atC cs (posOf ns "here") :: _ = _
        rw [pos_here]
        rfl
      rw [← es, Bool.eq_iff_iff, List.any_eq_true, decide_eq_true_eq, List.mem_map]
      exact ⟨fun ⟨i, hi, z⟩ => ⟨i, hi, of_decide_eq_true z⟩, fun ⟨i, hi, z⟩ => ⟨i, hi, decide_eq_true z⟩⟩
    rw [this]
    cases decide (m ∈ atC cs 0 :: (ns.filter isPlace).map fun z => atC cs (posOf ns z)) <;> rfl
end La
set_option Elab.async false
set_option linter.all false
set_option maxRecDepth 100000
set_option maxHeartbeats 4000000
namespace La
open PySem PySem.Spec PyProof.Rows L2 SM
def spLBrought (K : PySem.W.Frag) : Sp := fun vs H Q _ => ∃ (v : V) (d : Addr) (kvs : List (Key × V)) (c : Cn) (reply : Option Str) (n : Option Nat) (ren : Bool) (ns : List Str) (ls : List Ln) (s : Fs), vs = [v, .ref d, cV c, cV reply, nV n, .bl ren] ∧ Dt K H v (planD ns ls) ∧ H d = some (.dK kvs) ∧ Md kvs ns s ∧ FsOk ns s ∧ NmOk ns ∧ LsOk ns ls ∧ okC c ∧ (ren = true → ("elder" : Str) ∈ ns) ∧
  Pair2 K H Q ns (brought ns ls s c ren reply n).1 (brought ns ls s c ren reply n).2
theorem take_ok {h : List Cn} (ok : ∀ c ∈ h, okC c) (n : Nat) : ∀ c ∈ h.take n, okC c := fun c hc => ok c (List.mem_of_mem_take hc)
section
variable {P : Program} {w : World} {K : PySem.W.Frag} {mg : Str → Option Value} {base : Heap}
abbrev s__law_brought : Stmt := (top 60)
abbrev N__law_brought : List Str := ["plan", "file", "new", "reply", "count", "is_moved", "words", "found", "held", "steps", "target", "source", "name", "places", "is_gone"]
abbrev P__law_brought : List Str := ["plan", "file", "new", "reply", "count", "is_moved"]
theorem sc__law_brought : FnScope N__law_brought P__law_brought (defScope s__law_brought) := ⟨rfl, rfl, rfl, by decide +kernel, rfl, by decide +kernel, by decide +kernel⟩
theorem D_law_brought (W : Cw fas fns K mg) (D_law_held : DefOk P w K mg base CX0 1 "_law_held" P__law_held (spLHeld K)) (D_law_list : DefOk P w K mg base CX0 2 "_law_list" P__law_list (spLList K)) (D_law_is_asked : DefOk P w K mg base CX0 2 "_law_is_asked" P__law_is_asked (spLAsked K))
    (D_law_answered : DefOk P w K mg base CX0 1 "_law_answered" P__law_answered (spLAns K)) (D_law_ended : DefOk P w K mg base CX0 1 "_law_ended" P__law_ended (spLEnded K)) : DefOk P w K mg base CX0 3 "_law_brought" P__law_brought (spLBrought K) := by
  refine DefOk.of W 57 52 (st := s__law_brought) rfl rfl sc__law_brought (fun _ _ _ _ _ _ us hl => match us, hl with | [_, _, _, _, _, _], _ => rfl) (fun vs H Q E h => ?_) (fun cdv A outer s H vs Q E hr h => ?_)
  · obtain ⟨v, d, kvs, c, reply, n, ren, ns, ls, s, rfl, _⟩ := h
    rfl
  · obtain ⟨v, d, kvs, c, reply, n, ren, ns, ls, fs, rfl, dp, ed, md, fok, nm, lok, okc, el, k⟩ := h
    refine ⟨_, PSs.nox (Evl.pss_cut (ps_asg (pe_tup (pa_cons (pe_lst pa_nil) (pa_cons (pe_callTy SM.call_dictC (by rfl) (W.fre 66) (by decide +kernel) (pa_cons (pv 1) pa_nil)) (pa_cons (SM.pe_callD D_law_held (hr.mono (by decide)) pass0 (pa_cons (pv 1) (pa_cons (pv 2) (pa_cons (pv 5) pa_nil)))) pa_nil)))) (pg_tup (by rfl) (pgs_cons (pg_name (i := 6) sc__law_brought.nd rfl (by first | exact Or.inl rfl | exact Or.inr rfl)) (pgs_cons (pg_name (i := 7) sc__law_brought.nd rfl (by first | exact Or.inl rfl | exact Or.inr rfl)) (pgs_cons (pg_name (i := 8) sc__law_brought.nd rfl (by first | exact Or.inl rfl | exact Or.inr rfl)) pgs_nil))))) (Evl.pss_cut (ps_set (i := 9) sc__law_brought.nd rfl (by first | exact Or.inl rfl | exact Or.inr rfl) (SM.pe_callD D_law_list (hr.mono (by decide)) pass0 (pa_cons (pv 0) (pa_cons (pv 1) (pa_cons (pv 2) (pa_cons (pv 3) (pa_cons (pv 5) pa_nil))))))) (Evl.pss_cut (ps_if (pt_val (SM.pe_callD D_law_is_asked (hr.mono (by decide)) pass0 (pa_cons (pv 0) (pa_cons (pv 1) (pa_cons (pv 2) (pa_cons (pv 5) pa_nil)))))) (pss_one (ps_asg (SM.pe_callD D_law_answered (hr.mono (by decide)) pass0 (pa_cons (pv 1) (pa_cons (pv 2) (pa_cons (pv 3) pa_nil)))) (L2.pg_unl (by rfl) (pgs_cons (pg_name (i := 6) sc__law_brought.nd rfl (by first | exact Or.inl rfl | exact Or.inr rfl)) (pgs_cons (pg_name (i := 7) sc__law_brought.nd rfl (by first | exact Or.inl rfl | exact Or.inr rfl)) pgs_nil))))) pss_nil) (Evl.pss_cut (ps_for PassesOwn.never rfl (pi_tup (pe_slice SM.sl_tupA (pv 9) po_none (po_some (pe_ifExp (pt_cmpR op_isN (pv 4) pe_non (nomark _)) (pe_callB call_len_seq (by rfl) (W.fre 70) (by decide +kernel) (pa_cons (pv 9) pa_nil)) (pv 4))))) (pg_tup (by rfl) (pgs_cons (pg_name (i := 10) sc__law_brought.nd rfl (by first | exact Or.inl rfl | exact Or.inr rfl)) (pgs_cons (pg_name (i := 11) sc__law_brought.nd rfl (by first | exact Or.inl rfl | exact Or.inr rfl)) pgs_nil))) (pss_one (ps_asg (pe_dget (hu_of hr) (pv 8) (pv 11) (fun _ _ => rfl)) (pg_sub (pv 8) (pv 10) (SM.set_dict (hu_of hr)))))) (Evl.pss_cut (ps_for PassesOwn.never rfl (pi_tup (pe_op op_catA (pe_tup (pa_cons pe_str pa_nil)) (pe_ix ix_seq (pv 0) pe_int (fun _ _ => rfl)))) (pg_name (i := 12) sc__law_brought.nd rfl (by first | exact Or.inl rfl | exact Or.inr rfl)) (pss_one (ps_asg (pe_dget (hu_of hr) (pv 8) (pv 12) (fun _ _ => rfl)) (pg_sub (pv 7) (pv 12) (SM.set_dict (hu_of hr)))))) (Evl.pss_cut (ps_set (i := 13) sc__law_brought.nd rfl (by first | exact Or.inl rfl | exact Or.inr rfl) (pe_op op_cat (pe_lst (pa_cons (pe_dget (hu_of hr) (pv 7) pe_str (fun _ _ => rfl)) pa_nil)) (pe_lc (own := [("name", 12)]) (g := gName 12) (tt := tTest (tOp (SM.rInA K) (tVar 12) (tTup (tCons (tC (.str "beside")) (tCons (tC (.str "elder")) tNil))))) (te := tDGet (tVar 7) (tVar 12)) (by rfl) sc__law_brought.nd (pi_tup (pe_ix ix_seq (pv 0) pe_int (fun _ _ => rfl))) (blkOk_by (own := [("name", 12)]) (N := N__law_brought) (sc := defScope s__law_brought) (by decide +kernel)) (fun _ _ _ _ _ => pg_name (i := 12) sc__law_brought.nd rfl (Or.inl rfl)) (fun _ _ _ _ _ => pts_one (pt_cmpR (SM.op_inA (SM.units65 hr)) (pv 12) (pe_tup (pa_cons pe_str (pa_cons pe_str pa_nil))) (by rfl))) (fun _ _ _ _ _ => (pe_dget (hu_of hr) (pv 7) (pv 12) (fun _ _ => rfl)))))) (Evl.pss_cut (ps_if (pt_cmpR op_eq (pe_dget (hu_of hr) (pv 7) pe_str (fun _ _ => rfl)) pe_str (nomark _)) (Evl.pss_cut (ps_set (i := 14) sc__law_brought.nd rfl (by first | exact Or.inl rfl | exact Or.inr rfl) (pe_ifExp (pt_cmpR op_isN (pe_dget (hu_of hr) (pv 7) pe_str (fun _ _ => rfl)) pe_non (nomark _)) (pe_cmpR op_notN (pe_dget (hu_of hr) (pv 7) pe_str (fun _ _ => rfl)) pe_non (nomark _)) (pe_cmpR (SM.op_notInA (SM.units65 hr)) (pe_dget (hu_of hr) (pv 7) pe_str (fun _ _ => rfl)) (pv 13) (by rfl)))) (pss_one (ps_if (pt_val (pv 14)) (Evl.pss_cut (ps_set (i := 6) sc__law_brought.nd rfl (by first | exact Or.inl rfl | exact Or.inr rfl) (pe_op op_cat (pv 6) (pe_lst (pa_cons (pe_ifExp (pt_cmpR op_isN (pe_dget (hu_of hr) (pv 7) pe_str (fun _ _ => rfl)) pe_non (nomark _)) pe_str pe_str) pa_nil)))) (pss_one (ps_asg (pe_tup (pa_cons pe_str (pa_cons pe_non pa_nil))) (pg_tup (by rfl) (pgs_cons (pg_sub (pv 7) pe_str (SM.set_dict (hu_of hr))) (pgs_cons (pg_sub (pv 7) pe_str (SM.set_dict (hu_of hr))) pgs_nil)))))) pss_nil))) pss_nil) (Evl.pss_cut (ps_asg (pe_cmpR op_notN (pv 4) pe_non (nomark _)) (pg_sub (pv 7) pe_str (SM.set_dict (hu_of hr)))) (pss_one (ps_ret (pe_ifExp (pt_cmpR op_isN (pv 4) pe_non (nomark _)) (SM.pe_callD D_law_ended (hr.mono (by decide)) pass0 (pa_cons (pv 6) (pa_cons (pv 7) (pa_cons (pv 2) pa_nil)))) (pe_lst (pa_cons (pv 6) (pa_cons (pv 7) pa_nil)))))))))))))), ?_⟩
    obtain ⟨pa, pb, pc, pxs, rfl, sa, sb, sc, dc⟩ := plan_parts dp
    have dp0 : Dt K H (.ref pa) (planD ns ls) := dp
    let f := posOf ns
    let l := lineOf ns ls fs c ren
    have gl : GoodL ns l := lok.good l (List.mem_of_getElem? (lineOf_at lok.l1))
    have gls := GoodL.list gl reply
    let held := heldOf f fs c ren
    let ss := listFor l reply
    let h := oH ns fs c ren l reply n
    let q := oQ fs c l reply
    let m := midS ns fs c ren l reply n
    have lheld : held.length = ns.length + 3 := by rw [show held.length = _ from heldOf_len .., fok.len]
    have lh : h.length = ns.length + 3 := by rw [show h.length = _ from doSteps_len .., heldOf_len, fok.len]
    have hok : ∀ z ∈ h, okC z := doSteps_ok (heldOf_ok fok.cs okc)
    have qok : okC q.2.2 := questS_ok (atC_ok fok.cs 0) fok.mine
    let B : Addr → Addr → Addr → List Str → Fs → List Cn → Hp → Prop := fun pw pf ph ws s' h' H' => H pw = none ∧ H pf = none ∧ H ph = none ∧ pf ≠ ph ∧ Keep [] H H' ∧ H' pw = some (.lst (ws.map V.str)) ∧ ∃ kvf kvh, H' pf = some (.dK kvf) ∧ Md kvf ns s' ∧ H' ph = some (.dK kvh) ∧ Hd kvh ns h'
    have Bk : ∀ {pw pf ph ws s' h' H' H''}, B pw pf ph ws s' h' H' → Keep [] H' H'' → B pw pf ph ws s' h' H'' := by
      rintro pw pf ph ws s' h' H' H'' ⟨b1, b2, b3, b4, b5, b6, kvf, kvh, b7, b8, b9, b10⟩ k'
      exact ⟨b1, b2, b3, b4, b5.trans k', k'.to b6, kvf, kvh, k'.to b7, b8, k'.to b9, b10⟩
    let T : Addr → Addr → Addr → Option V → Option V → Option V → Option V → Option V → Option V → L2.St := fun pw pf ph x9 x10 x11 x12 x13 x14 => [some (.ref pa), some (.ref d), some (cV c), some (cV reply), some (nV n), some (.bl ren), some (.ref pw), some (.ref pf), some (.ref ph), x9, x10, x11, x12, x13, x14]
    -- words, found, held
    refine ⟨fun σ' H' => ∃ pw pf ph, σ' = T pw pf ph none none none none none none ∧ B pw pf ph [] fs held H', ?_, ?_⟩
    · refine rx_asg (rx_tup (rx_cons ⟨(by show 0 ≤ sizeLine; decide), fun pw npw => ?_⟩))
      have kw : Keep [] H (upd H pw (.lst [])) := Keep.new npw
      refine rx_cons (rx_cb1 ⟨_, rfl, d, kvs, rfl, kw.to ed, fun pf npf => ?_⟩)
      have kf : Keep [] (upd H pw (.lst [])) (upd (upd H pw (.lst [])) pf (.dK kvs)) := Keep.new npf
      have kwf := kw.trans kf
      refine rx_cons (rx_call ⟨_, rfl, _, rfl, _, rfl, d, kvs, c, ren, ns, fs, rfl, kwf.to ed, md, nm, el, fun ph H1 kvh nph k1 e1 hd1 => ?_⟩)
      have ne : pf ≠ ph := fun z => by
        rw [← z, upd_same] at nph
        cases nph
      refine ⟨(by show 3 ≤ sizeLine; decide), fun t nt => ⟨t, _, rfl, SqT.of upd_same, rfl, _, _, rfl, _, _, rfl, _, _, rfl, rfl, pw, pf, ph, rfl, Bk ?_ (Keep.new nt)⟩⟩
      refine ⟨npw, kw.free (by simp) npf, kwf.free (by simp) nph, ne, kwf.trans k1, (kf.trans k1).to upd_same, kvs, kvh, k1.to upd_same, md, e1, hd1⟩
    rintro σ' H1 ⟨pw, pf, ph, rfl, b1⟩
    -- steps
    refine ⟨fun σ' H' => ∃ u, σ' = T pw pf ph (some u) none none none none none ∧ B pw pf ph [] fs held H' ∧ Dt K H' u (stepsD ss), ?_, ?_⟩
    · have k1 := b1.2.2.2.2.1
      exact rx_call ⟨_, rfl, _, rfl, _, rfl, _, rfl, _, rfl, _, d, kvs, c, reply, ren, ns, ls, fs, rfl, dp0.k0 k1, k1.to ed, md, nm, lok, el, fun u H2 k2 du => ⟨u, rfl, Bk b1 k2, du⟩⟩
    rintro σ' H2 ⟨u, rfl, b2, du⟩
    -- the question
    refine ⟨fun σ' H' => ∃ pw pf, σ' = T pw pf ph (some u) none none none none none ∧ B pw pf ph q.1 { fs with mark := q.2.1, mine := q.2.2 } held H' ∧ Dt K H' u (stepsD ss), ?_, ?_⟩
    · have k2 := b2.2.2.2.2.1
      refine rx_if ⟨_, rfl, _, rfl, _, rfl, _, rfl, _, d, kvs, c, ren, ns, ls, fs, rfl, dp0.k0 k2, k2.to ed, md, nm, lok, el, fun H3 k3 => ⟨_, rfl, ?_⟩⟩
      cases ask : l.keep.isSome with
      | false =>
        have eq : q = (([] : List Str), fs.mark, fs.mine) := by
          show questionS fs c l.keep.isSome reply = _
          exact if_pos ask
        refine iteF ⟨pw, pf, rfl, ?_, du.k0 k3⟩
        rw [eq]
        exact Bk b2 k3
      | true =>
        have eq : q = questionS fs c true reply := by
          show questionS fs c l.keep.isSome reply = _
          rw [ask]
        have k23 := k2.trans k3
        obtain ⟨b1', b2', b3', b4', b5', b6', kvf, kvh, b7', b8', b9', b10'⟩ := Bk b2 k3
        refine iteT ⟨_, rfl, _, rfl, _, rfl, d, kvs, c, reply, ns, fs, rfl, k23.to ed, md, nm, fun r pw' pf' H4 kv' nr npw npf k4 er epw epf md' => ?_⟩
        have kk := k23.trans k4
        have ne : pf' ≠ ph := fun z => by
          rw [z] at npf
          rw [b9'] at npf
          cases npf
        refine ⟨r, _, rfl, SqL.of er, rfl, _, _, rfl, _, _, rfl, rfl, pw', pf', rfl, ⟨k23.free (by simp) npw, k23.free (by simp) npf, b3', ne, kk, ?_, kv', kvh, epf, ?_, k4.to b9', b10'⟩, du.k0 (k3.trans k4)⟩
        · rw [eq]
          exact epw
        · rw [eq]
          exact md'
    rintro σ' H3 ⟨pw, pf, rfl, b3, du3⟩
    -- the steps are done
    refine ⟨fun σ' H' => ∃ x10 x11, σ' = T pw pf ph (some u) x10 x11 none none none ∧ B pw pf ph q.1 { fs with mark := q.2.1, mine := q.2.2 } h H', ?_, ?_⟩
    · obtain ⟨ua, uxs, rfl, su, dus⟩ := du3.items
      have lux : uxs.length = ss.length := by rw [dus.length, List.length_map]
      let mm : Nat := match n with | none => ss.length | some k => k
      have etk : takeO n ss = ss.take mm := by
        cases n with
        | none => exact (List.take_length (l := ss)).symm
        | some k => rfl
      refine LtH.takeK (n := mm) (ds := ss.map stepD) (LtH.var (i := 9) rfl du3) (fun H4 k4 Q4 q4 => ?_) _ Keep.refl _ fun v H4 k4 d4 => ?_
      · refine rx_ife (rx_tTest (rx_op ⟨_, rfl, rfl, _, rfl, ?_⟩))
        cases n with
        | none => exact iteT (rx_cb1 ⟨_, rfl, ua, uxs, rfl, .inr (seqT_keep k4 Soft.nil su), (uxs.length : Int), rfl, by rw [lux]; exact q4⟩)
        | some k0 => exact iteF ⟨_, rfl, (k0 : Int), rfl, q4⟩
      · obtain ⟨t, xs, rfl, st, dt⟩ := d4.items
        rw [← List.map_take] at dt
        have lx : xs.length = (ss.take mm).length := by rw [dt.length, List.length_map]
        obtain ⟨b1', b2', b3', b4', b5', b6', kvf, kvh, b7', b8', b9', b10'⟩ := Bk b3 k4
        refine ⟨t, rfl, ⟨_, st⟩, for_tup (xs := xs) (fun i σ' H' => ∃ x10 x11 kv, σ' = T pw pf ph (some (.ref ua)) x10 x11 none none none ∧ Keep [ph] H4 H' ∧ H' ph = some (.dK kv) ∧ Hd kv ns (doSteps f held ((ss.take mm).take i))) ⟨none, none, kvh, rfl, Keep.refl, b9', b10'⟩ (fun i σ' H' _ z => by obtain ⟨_, _, _, _, kk, _⟩ := z; exact seqT_keep kk (Far.dic b9').1 st) ?_ ?_⟩
        · rintro i y σ' H5 hy ⟨x10, x11, kv, rfl, k5, e5, d5⟩
          obtain ⟨dd, hdd, dy⟩ := dt.get hy
          rw [List.getElem?_map] at hdd
          cases es : (ss.take mm)[i]? with
          | none => rw [es] at hdd; cases hdd
          | some s0 =>
          rw [es] at hdd
          cases hdd
          obtain ⟨bb, us, rfl, sbb, dub⟩ := (dy.keep k5 (Far.dic b9').1).items
          cases dub with
          | @cons u0 _ _ _ g0 dub =>
          cases dub with
          | @cons u1 _ _ _ g1 dub =>
          cases dub
          cases g0
          cases g1
          have gs := gls.2 s0 (List.mem_of_mem_take (List.mem_of_getElem? es))
          have m1 : s0.1 ∈ planWordsOf ns := words_in (gs.1.elim .inl fun z => .inr (.inr (.inr z)))
          have m2 : s0.2 ∈ planWordsOf ns := words_in (gs.2.elim (fun z => .inr (.inl z)) fun z => z.elim .inl fun z => z.elim (fun z => .inr (.inr (.inl z))) fun z => .inr (.inr (.inr z)))
          refine ⟨bb, _, rfl, sbb, rfl, _, _, rfl, _, _, rfl, rfl, ?_⟩
          refine rx_asg (rx_dget ⟨_, rfl, _, rfl, ph, _, rfl, dg e5 (d5.at_ _ m2), _, rfl, _, rfl, ph, _, rfl, dpu e5 (Nat.le_trans d5.small (by decide)), _, _, _, rfl, k5.trans (Keep.at_ (by simp)), upd_same, ?_⟩)
          rw [List.take_succ, es, Option.toList_some, doSteps_snoc]
          exact Hd.put d5 m1 _
        · rintro σ' H5 ⟨x10, x11, kv, rfl, k5, e5, d5⟩
          rw [lx, List.take_length, ← etk] at d5
          have npw : pw ≠ ph := fun z => by
            rw [z, b9'] at b6'
            cases b6'
          exact ⟨_, _, rfl, b1', b2', b3', b4', b5'.offNew k5 b3', k5 _ _ (by simpa using npw) b6', kvf, kv, k5 _ _ (by simpa using b4') b7', b8', e5, d5⟩
    rintro σ' H4 ⟨x10, x11, rfl, b4⟩
    -- what lies there then
    refine ⟨fun σ' H' => ∃ x12, σ' = T pw pf ph (some u) x10 x11 x12 none none ∧ B pw pf ph q.1 m h H', ?_, ?_⟩
    · have k04 := b4.2.2.2.2.1
      have X : LtH K (tOp (rCatA K) (tTup (tCons (tC (.str "here")) tNil)) (tOp (rIx K) (tVar 0) (tC (.int 0)))) (T pw pf ph (some u) x10 x11 none none none) H4 (.tuple (([.str "here"] : List PyData) ++ ns.map .str)) :=
        LtH.cat (ds := [.str "here"]) (es := ns.map .str) (LtH.disp (.cons .str .nil) (Nat.le_of_ble_eq_true rfl)) (LtH.ix (n := 0) (.var rfl (dp0.k0 k04)) (fun H1 Q q => q) rfl) (by rw [List.length_map]; have := nm.n3; show 1 + ns.length ≤ 100; omega)
      refine X _ Keep.refl _ fun v H5 k5 d5 => ?_
      obtain ⟨t, xs, rfl, st, dt⟩ := d5.items
      let ws : List Str := "here" :: ns
      have ex : xs = ws.map V.str := strs_of (ns := ws) dt
      subst ex
      obtain ⟨b1', b2', b3', b4', b5', b6', kvf, kvh, b7', b8', b9', b10'⟩ := Bk b4 k5
      refine ⟨t, rfl, ⟨_, st⟩, for_tup (xs := ws.map V.str) (fun i σ' H' => ∃ x12 kv, σ' = T pw pf ph (some u) x10 x11 x12 none none ∧ Keep [pf] H5 H' ∧ H' pf = some (.dK kv) ∧ Md kv ns { fs with cs := h.take i ++ fs.cs.drop i, mark := q.2.1, mine := q.2.2 }) ⟨none, kvf, rfl, Keep.refl, b7', b8'⟩ (fun i σ' H' _ z => by obtain ⟨_, _, _, kk, _⟩ := z; exact seqT_keep kk (Far.dic b7').1 st) ?_ ?_⟩
      · rintro i y σ' H6 hy ⟨x12, kv, rfl, k6, e6, d6⟩
        rw [List.getElem?_map] at hy
        cases es : ws[i]? with
        | none => rw [es] at hy; cases hy
        | some x =>
        rw [es] at hy
        cases hy
        have hi : i < ns.length + 1 := (List.getElem?_eq_some_iff.mp es).1
        have hx : x = "here" ∨ x ∈ ns := List.mem_cons.mp (List.mem_of_getElem? es)
        have px : posOf ns x = i := idx_of nm.nd (by
          rw [planWordsOf, List.getElem?_append_left (by rw [List.length_append]; show i < 1 + ns.length; omega)]
          exact es)
        have eph := k6 ph _ (by simpa using b4'.symm) b9'
        refine rx_asg (rx_dget ⟨_, rfl, _, rfl, ph, _, rfl, dg eph (b10'.at_ _ (hw hx)), _, rfl, _, rfl, pf, _, rfl, dpu e6 (Nat.le_trans d6.small (by decide)), _, _, rfl, k6.trans (Keep.at_ (by simp)), upd_same, ?_⟩)
        have := Md.putAt nm d6 hx (atC h (posOf ns x))
        rw [px] at this
        rw [px]
        rw [show ({ fs with cs := h.take i ++ fs.cs.drop i, mark := q.2.1, mine := q.2.2 } : Fs).cs.set i (atC h i) = h.take (i + 1) ++ fs.cs.drop (i + 1) from set_step (by omega) (by rw [fok.len]; exact hi)] at this
        exact this
      · rintro σ' H6 ⟨x12, kv, rfl, k6, e6, d6⟩
        have lw : (ws.map V.str).length = ns.length + 1 := by rw [List.length_map]; rfl
        rw [lw, List.drop_of_length_le (by rw [fok.len]; exact Nat.le_refl _), List.append_nil] at d6
        have npw : pw ≠ pf := fun z => by
          rw [z, b7'] at b6'
          cases b6'
        exact ⟨_, rfl, b1', b2', b3', b4', b5'.offNew k6 b2', k6 _ _ (by simpa using npw) b6', kv, kvh, e6, d6, k6 _ _ (by simpa using b4'.symm) b9', b10'⟩
    rintro σ' H5 ⟨x12, rfl, b5⟩
    have mok : ∀ z ∈ m.cs, okC z := take_ok hok _
    -- places
    let pl : List Cn := atC m.cs 0 :: (ns.filter isPlace).map fun z => atC m.cs (posOf ns z)
    refine ⟨fun σ' H' => ∃ pp, σ' = T pw pf ph (some u) x10 x11 x12 (some (.ref pp)) none ∧ B pw pf ph q.1 m h H' ∧ H' pp = some (.lst (pl.map cV)), ?_, ?_⟩
    · obtain ⟨c1, c2, c3, c4, c5, c6, kvf, kvh, c7, c8, c9, c10⟩ := b5
      refine rx_op (rx_lst (rx_cons (rx_dget ⟨_, rfl, pf, _, rfl, dg c7 c8.here, (by show 1 ≤ sizeLine; decide), fun p1 np1 => ?_⟩)))
      have kp : Keep [] H5 (upd H5 p1 (.lst [cV (atC m.cs 0)])) := Keep.new np1
      refine lcTM (l := ns) (e := V.str) (e2 := fun z => cV (atC m.cs (posOf ns z))) (p := isPlace) (by show 12 < 15; decide) (by have := nm.n3; omega) (fun Q' q' => ⟨_, rfl, .inr (.inl ⟨pa, _, 0, _, rfl, rfl, seqT_keep (c5.trans kp) Soft.nil sa, at0 _ _, q' pb _ Keep.refl (seqT_keep (c5.trans kp) Soft.nil sb)⟩)⟩) (fun i z H6 hz k6 Q' q' => ?_) (fun i z H6 hz pz k6 Q' q' => ?_) fun D H6 nD k6 eD => ?_
      · refine rx_tTest (rx_op ⟨_, rfl, rx_tup ⟨(by show 2 ≤ sizeLine; decide), fun t nt => ?_⟩⟩)
        have okz := nm.ok z (List.mem_of_getElem? hz)
        refine .inr ⟨.str z, (["beside", "elder"] : List Str).map .str, .str z, .tup (SqT.of upd_same) (dpStrs (["beside", "elder"] : List Str)), (Lay.str (n := 0) okz).shaped (by decide), by decide +kernel, _, rfl, ?_⟩
        rw [any_str, ← isPlace_dec]
        exact q' _ (Keep.new nt)
      · have zin := List.mem_of_getElem? hz
        exact rx_dget ⟨_, rfl, _, rfl, pf, _, rfl, dg ((kp.trans k6).to c7) (c8.at_ z (.inr zin)), q' _ Keep.refl⟩
      · refine rd_cat (k6.to upd_same) eD (by rw [List.length_map]; have := isPlace_le ns; have := nm.n3; show 1 + (ns.filter isPlace).length ≤ 1000; omega) fun pp H7 np k7 e7 => ⟨pp, rfl, Bk ⟨c1, c2, c3, c4, c5, c6, kvf, kvh, c7, c8, c9, c10⟩ (kp.trans (k6.trans k7)), ?_⟩
        rw [e7]
        show some (HO.lst ([cV (atC m.cs 0)] ++ _)) = _
        rw [show pl.map cV = cV (atC m.cs 0) :: ((ns.filter isPlace).map fun z => atC m.cs (posOf ns z)).map cV from rfl, List.map_map]
        rfl
    rintro σ' H6 ⟨pp, rfl, b6, ep⟩
    -- what became of the change
    refine ⟨fun σ' H' => ∃ pw x14, σ' = T pw pf ph (some u) x10 x11 x12 (some (.ref pp)) x14 ∧ B pw pf ph (q.1 ++ oHm ns m) (harmed ns m) h H', ?_, ?_⟩
    · have b6' := b6
      obtain ⟨c1, c2, c3, c4, c5, c6, kvf, kvh, c7, c8, c9, c10⟩ := b6
      refine rx_if (rx_tTest (rx_op (rx_dget ⟨_, rfl, pf, _, rfl, dg c7 c8.mark, rfl, _, rfl, ?_⟩)))
      rw [dec_str]
      by_cases eo : m.mark = "own"
      · rw [decide_eq_true eo]
        have ehm : oHm ns m = harmS (spotsOf ns (ns.filter isPlace)) m.cs m.mine := if_pos eo
        rw [harmS_law] at ehm
        let gone : Bool := if m.mine = none then !decide (atC m.cs 0 = none) else !decide (m.mine ∈ pl)
        refine iteT ?_
        refine ⟨fun σ' H' => σ' = T pw pf ph (some u) x10 x11 x12 (some (.ref pp)) (some (.bl gone)) ∧ H' = H6, ?_, ?_⟩
        · refine rx_ife (rx_tTest (rx_op (rx_dget ⟨_, rfl, pf, _, rfl, dg c7 c8.mine, rfl, _, rfl, ?_⟩)))
          rw [non_cn]
          by_cases en : m.mine = none
          · rw [decide_eq_true en]
            refine iteT (rx_op (rx_dget ⟨_, rfl, pf, _, rfl, dg c7 c8.here, rfl, ?_⟩))
            rw [non_cn]
            rw [show gone = !decide (atC m.cs 0 = none) from if_pos en]
            exact ⟨rfl, rfl⟩
          · rw [decide_eq_false en]
            refine iteF (rx_op (rx_dget ⟨_, rfl, pf, _, rfl, dg c7 c8.mine, _, rfl, ?_⟩))
            refine op_nin_cnL qok (fun z hz => ?_) (SqL.of ep) ?_
            · rcases List.mem_cons.mp hz with rfl | hz
              · exact atC_ok mok 0
              · obtain ⟨y, _, rfl⟩ := List.mem_map.mp hz
                exact atC_ok mok _
            · rw [show gone = !decide (m.mine ∈ pl) from if_neg en]
              exact ⟨rfl, rfl⟩
        rintro σ' H7 ⟨rfl, rfl⟩
        refine rx_if ⟨_, rfl, _, rfl, ?_⟩
        by_cases eg : gone = true
        · rw [eg]
          have ehm1 : oHm ns m = ([if m.mine = none then "revived" else "lost"] : List Str) := ehm.trans (if_pos eg)
          refine iteT ?_
          refine ⟨fun σ' H' => ∃ pw, σ' = T pw pf ph (some u) x10 x11 x12 (some (.ref pp)) (some (.bl true)) ∧ B pw pf ph (q.1 ++ oHm ns m) m h H', ?_, ?_⟩
          · refine rx_op ⟨_, rfl, rx_lst (rx_cons (rx_ife (rx_tTest (rx_op (rx_dget ⟨_, rfl, pf, _, rfl, dg c7 c8.mine, rfl, _, rfl, ?_⟩)))))⟩
            rw [non_cn]
            have fin : ∀ (x : Str), x = (if m.mine = none then ("revived" : Str) else "lost") → ([V.str x].length ≤ sizeLine ∧ ∀ p, H7 p = none → rCat (.ref pw) (.ref p) (upd H7 p (.lst [.str x])) fun v H' => ∃ pw_1, ((T pw pf ph (some u) x10 x11 x12 (some (.ref pp)) (some (.bl true))).set 6 (some v)) = T pw_1 pf ph (some u) x10 x11 x12 (some (.ref pp)) (some (.bl true)) ∧ B pw_1 pf ph (q.1 ++ oHm ns m) m h H') := by
              intro x ex
              refine ⟨(by show 1 ≤ sizeLine; decide), fun p1 np1 => ?_⟩
              have kp : Keep [] H7 (upd H7 p1 (.lst [.str x])) := Keep.new np1
              have ql : q.1.length ≤ 1 := questS_len ..
              refine rd_cat (kp.to c6) upd_same (by rw [List.length_map]; show q.1.length + 1 ≤ 1000; omega) fun p2 H9 n2 k9 e9 => ⟨p2, rfl, c5.free (by simp) (kp.free (by simp) n2), c2, c3, c4, (c5.trans kp).trans k9, ?_, kvf, kvh, (kp.trans k9).to c7, c8, (kp.trans k9).to c9, c10⟩
              rw [e9, ehm1, ← ex, List.map_append]
              rfl
            by_cases en : m.mine = none
            · rw [decide_eq_true en]
              exact iteT (fin "revived" (if_pos en).symm)
            · rw [decide_eq_false en]
              exact iteF (fin "lost" (if_neg en).symm)
          rintro σ' H8 ⟨pw, rfl, d1, d2, d3, d4, d5, d6, kvf, kvh, d7, d8, d9, d10⟩
          have eh : harmed ns m = { m with mark := "none", mine := none } := if_neg (by rw [ehm1]; exact fun z => by cases z)
          have a1 := Md.putMark nm d8 "none"
          have a2 := Md.putMine nm a1 none
          refine rx_asg (rx_tup ⟨(by show 2 ≤ sizeLine; decide), fun t nt => ?_⟩)
          have kt : Keep [] H8 (upd H8 t (.tup [.str "none", .non])) := Keep.new nt
          have npw : pw ≠ pf := fun z => by
            rw [z, d7] at d6
            cases d6
          refine ⟨t, _, rfl, SqT.of upd_same, rfl, _, _, rfl, ⟨_, rfl, pf, _, rfl, dpu (kt.to d7) (Nat.le_trans d8.small (by decide)), ?_⟩⟩
          refine ⟨_, _, rfl, ⟨_, rfl, pf, _, rfl, dpu upd_same (Nat.le_trans a1.small (by decide)), rfl, pw, _, rfl, d1, d2, d3, d4, ?_, ?_, _, kvh, upd_same, ?_, ?_, d10⟩⟩
          · exact Keep.own (Keep.own (d5.trans kt) d2) d2
          · rw [upd_ne npw, upd_ne npw]
            exact kt.to d6
          · rw [eh]
            exact a2
          · rw [upd_ne d4.symm, upd_ne d4.symm]
            exact kt.to d9
        · rw [Bool.eq_false_iff.mpr eg]
          have ehm1 : oHm ns m = [] := ehm.trans (if_neg eg)
          refine iteF ⟨pw, _, rfl, ?_⟩
          rw [show harmed ns m = m from if_pos ehm1, ehm1, List.append_nil]
          exact b6'
      · rw [decide_eq_false eo]
        have ehm : oHm ns m = [] := if_neg eo
        refine iteF ⟨pw, _, rfl, ?_⟩
        rw [show harmed ns m = m from if_pos ehm, ehm, List.append_nil]
        exact b6'
    rintro σ' H7 ⟨pw, x14, rfl, b7⟩
    -- amid
    have out := outcome_law (ns := ns) (s := fs) (c := c) (ren := ren) (l := l) (reply := reply) (n := n) fok.len
    refine ⟨fun σ' H' => σ' = T pw pf ph (some u) x10 x11 x12 (some (.ref pp)) x14 ∧ B pw pf ph (q.1 ++ oHm ns m) { harmed ns m with amid := n.isSome } h H', ?_, ?_⟩
    · obtain ⟨c1, c2, c3, c4, c5, c6, kvf, kvh, c7, c8, c9, c10⟩ := b7
      have npw : pw ≠ pf := fun z => by
        rw [z, c7] at c6
        cases c6
      have en : (!decide (nV n = .non)) = n.isSome := by cases n <;> rfl
      refine rx_asg (rx_op ⟨_, rfl, rfl, ?_⟩)
      rw [en]
      refine ⟨_, rfl, pf, _, rfl, dpu c7 (Nat.le_trans c8.small (by decide)), rfl, c1, c2, c3, c4, Keep.own c5 c2, by rw [upd_ne npw]; exact c6, _, kvh, upd_same, Md.putAmid nm c8 n.isSome, by rw [upd_ne c4.symm]; exact c9, c10⟩
    rintro σ' H8 ⟨rfl, c1, c2, c3, c4, c5, c6, kvf, kvh, c7, c8, c9, c10⟩
    have eb : brought ns ls fs c ren reply n = _ := out
    refine rx_ret (rx_ife (rx_tTest (rx_op ⟨_, rfl, rfl, _, rfl, ?_⟩)))
    cases n with
    | some n0 =>
      refine iteF (rx_lst ⟨_, rfl, _, rfl, (by show 2 ≤ sizeLine; decide), fun r nr => ?_⟩)
      have kr : Keep [] H8 (upd H8 r (.lst [.ref pw, .ref pf])) := Keep.new nr
      rw [eb] at k
      exact k r pw pf _ kvf (c5.free (by simp) nr) c1 c2 (c5.trans kr) upd_same (kr.to c6) (kr.to c7) c8
    | none =>
      have ql : q.1.length ≤ 1 := questS_len ..
      have hl : (oHm ns m).length ≤ 1 := by
        show (if m.mark = "own" then _ else []).length ≤ 1
        split
        · exact harmS_len ..
        · exact Nat.zero_le _
      have hfok : FsOk ns { harmed ns m with amid := false } := by
        have e1 : (harmed ns m).cs = m.cs := by
          unfold harmed
          split <;> rfl
        have e2 : (harmed ns m).last = fs.last := by
          unfold harmed
          split <;> rfl
        refine ⟨?_, ?_, ?_, ?_⟩
        · show (harmed ns m).cs.length = _
          rw [e1]
          show (h.take _).length = _
          rw [List.length_take, lh]
          omega
        · show ∀ z ∈ (harmed ns m).cs, okC z
          rw [e1]
          exact mok
        · show okC (harmed ns m).last
          rw [e2]
          exact fok.last
        · show okC (harmed ns m).mine
          unfold harmed
          split
          · exact qok
          · exact okC_none
      refine iteT (rx_call ⟨_, rfl, _, rfl, _, rfl, pw, pf, _, kvf, c, ns, _, rfl, c6, by rw [List.length_append]; omega, c7, c8, hfok, okc, nm, fun r pw2 pd2 H9 kv9 nr np1 np2 k9 er ep1 ep2 md9 => ?_⟩)
      rw [eb] at k
      exact k r pw2 pd2 H9 kv9 (c5.free (by simp) nr) (c5.free (by simp) np1) (c5.free (by simp) np2) (c5.trans k9) er ep1 ep2 md9
end
end La
set_option Elab.async false
set_option linter.all false
set_option maxRecDepth 100000
set_option maxHeartbeats 4000000
namespace La
open PySem PySem.Spec PyProof.Rows L2 SM
/-- things[draw]: a text -/
def spPickS : Sp := fun vs H Q _ => ∃ (a : Addr) (x : Str), vs = [.ref a, .str x] ∧ Src H a ∧ 0 < x.length ∧ x.length < 1000 ∧
  ∀ c H', c ∈ x.cps.toList → Keep [a] H H' → Src H' a → Q (.str ⟨#[c]⟩) H'
section
variable {P : Program} {w : World} {K : PySem.W.Frag} {mg : Str → Option Value} {base : Heap}
theorem D_law_pickS (W : Cw fas fns K mg) (D_law_draw : DefOk P w K mg base CX0 1 "_law_draw" P__law_draw spDraw) : DefOk P w K mg base CX0 2 "_law_pick" P__law_pick spPickS := by
  refine DefOk.of W 42 37 (st := s__law_pick) rfl rfl sc__law_pick (fun _ _ _ _ _ _ us hl => match us, hl with | [_, _], _ => rfl) (fun vs H Q E h => ?_) (fun cdv A outer s H vs Q E hr h => ?_)
  · obtain ⟨a, x, rfl, _⟩ := h
    rfl
  · obtain ⟨a, x, rfl, hs, l0, l1, k⟩ := h
    refine ⟨_, PSs.nox (pss_one (ps_ret (pe_ix ix_seq (pv 1) (SM.pe_callD D_law_draw (hr.mono (by decide)) pass0 (pa_cons (pv 0) (pa_cons (pe_callB call_len_str (by rfl) (W.fre 70) (by decide +kernel) (pa_cons (pv 1) pa_nil)) pa_nil))) (fun _ _ => rfl)))), ?_⟩
    refine ⟨_, rfl, _, rfl, _, rfl, x, rfl, Nat.le_trans (Nat.le_of_lt l1) (by decide), a, _, rfl, hs, by omega, by omega, fun r H' r0 r1 kp hs' => ?_⟩
    have len : x.cps.toList.length = x.length := by simp [Str.length]
    obtain ⟨c, hc⟩ : ∃ c, x.cps.toList[r.toNat]? = some c := ⟨x.cps.toList[r.toNat]'(by omega), List.getElem?_eq_getElem _⟩
    have at_ : atI x.cps.toList r = some c := by
      have h0 : ixN x.cps.toList.length r = some r.toNat := by
        unfold ixN
        rw [if_pos r0, if_pos (by omega)]
      rw [atI, h0]
      exact hc
    exact .inr (.inr ⟨x, r, c, rfl, rfl, Nat.le_trans (Nat.le_of_lt l1) (by decide), at_, k c H' (List.mem_of_getElem? hc) kp hs'⟩)
end
theorem perm_erase {α : Type} : ∀ (l : List α) (j : Nat) (h : j < l.length), (l[j] :: l.eraseIdx j).Perm l
  | _ :: _, 0, _ => List.Perm.refl _
  | a :: l, j + 1, h => (List.Perm.swap a (l[j]'(Nat.lt_of_succ_lt_succ h)) (l.eraseIdx j)).trans ((perm_erase l j (Nat.lt_of_succ_lt_succ h)).cons a)
def spMixedT (K : PySem.W.Frag) : Sp := fun vs H Q _ => ∃ (a l : Addr) (us0 : List Str), vs = [.ref a, .ref l] ∧ Src H a ∧ SqL K H l (us0.map V.str) ∧ us0.length ≤ 40 ∧ (∀ u ∈ us0, PyData.strOk u = true) ∧
  ∀ (q : Addr) (ms : List Str) (H' : Hp), Keep [a] H H' → H q = none → Src H' a → H' q = some (.lst (ms.map V.str)) → ms.Perm us0 → Q (.ref q) H'
section
variable {P : Program} {w : World} {K : PySem.W.Frag} {mg : Str → Option Value} {base : Heap}
theorem D_law_mixedT (W : Cw fas fns K mg) (D_law_draw : DefOk P w K mg base CX0 1 "_law_draw" P__law_draw spDraw) : DefOk P w K mg base CX0 2 "_law_mixed" P__law_mixed (spMixedT K) := by
  refine DefOk.of W 43 38 (st := s__law_mixed) rfl rfl sc__law_mixed (fun _ _ _ _ _ _ us hl => match us, hl with | [_, _], _ => rfl) (fun vs H Q E h => ?_) (fun cdv A outer s H vs Q E hr h => ?_)
  · obtain ⟨a, l, us0, rfl, _⟩ := h
    rfl
  · obtain ⟨a, l, us0, rfl, hs, hl, l40, ok0, k⟩ := h
    refine ⟨_, PSs.nox (Evl.pss_cut (ps_par (i := 2) (j := 3) (by rfl) sc__law_mixed.nd rfl rfl (by decide) rfl rfl (pa_cons (pe_callTy call_list_of (by rfl) (W.fre 71) (by decide +kernel) (pa_cons (pv 1) pa_nil)) (pa_cons (pe_lst pa_nil) pa_nil)) (by rfl)) (Evl.pss_cut (ps_while PassesOwn.never (pt_cmpR (op_neD hr.units) (pv 2) (pe_lst pa_nil) (nomark _)) (pss_one (ps_expr (pe_bm PySem.F.plainAttrs_list PySem.F.slot_list_append PySem.F.type_list_append mt_append (pv 3) (pa_cons (pe_bm PySem.F.plainAttrs_list PySem.F.slot_list_pop PySem.F.type_list_pop mt_popAt (pv 2) (pa_cons (SM.pe_callD D_law_draw (hr.mono (by decide)) pass0 (pa_cons (pv 0) (pa_cons (pe_callB call_len_seq (by rfl) (W.fre 70) (by decide +kernel) (pa_cons (pv 2) pa_nil)) pa_nil))) pa_nil)) pa_nil))))) (pss_one (ps_ret (pv 3))))), ?_⟩
    refine ⟨fun σ' H' => ∃ p q, σ' = [some (.ref a), some (.ref l), some (.ref p), some (.ref q)] ∧ H p = none ∧ H q = none ∧ p ≠ q ∧ Keep [] H H' ∧ H' p = some (.lst (us0.map V.str)) ∧ H' q = some (.lst []), ?_, ?_⟩
    · refine ⟨_, rfl, l, _, rfl, .inl hl, fun p hp => ⟨Nat.zero_le _, fun q hq => ?_⟩⟩
      have k1 : Keep [] H (upd H p (.lst (us0.map V.str))) := Keep.new hp
      have k2 : Keep [] (upd H p (.lst (us0.map V.str))) (upd (upd H p (.lst (us0.map V.str))) q (.lst [])) := Keep.new hq
      exact ⟨.ref p, .ref q, rfl, p, q, rfl, hp, k1.free (by simp) hq, ne_of_none upd_same hq, k1.trans k2, k2.to upd_same, upd_same⟩
    rintro σ' H1 ⟨p, q, rfl, np, nq, pq, k1, lp, lq⟩
    refine ⟨fun σ' H' => ∃ ms : List Str, σ' = [some (.ref a), some (.ref l), some (.ref p), some (.ref q)] ∧ Keep [a] H H' ∧ Src H' a ∧ H' q = some (.lst (ms.map V.str)) ∧ ms.Perm us0, ?_, ?_⟩
    · refine ⟨fun m σ' H' => ∃ (ms us : List Str), σ' = [some (.ref a), some (.ref l), some (.ref p), some (.ref q)] ∧ Keep [a] H H' ∧ Src H' a ∧ H' p = some (.lst (us.map V.str)) ∧ H' q = some (.lst (ms.map V.str)) ∧ us.length = m ∧ (ms ++ us).Perm us0, ⟨us0.length, [], us0, rfl, Keep.of_nil k1, hs.keep k1 (by simp), lp, lq, rfl, List.Perm.refl _⟩, ?_⟩
      rintro m σ' H2 ⟨ms, us, rfl, k2, s2, lp2, lq2, hm, hpm⟩
      refine ⟨_, rfl, Nat.zero_le _, fun r hr1 => ?_⟩
      have kR : Keep [] H2 (upd H2 r (.lst [])) := Keep.new hr1
      have okU : ∀ u ∈ us, PyData.strOk u = true := fun u hu => ok0 u (hpm.subset (List.mem_append_right _ hu))
      refine ⟨.list (us.map .str), .list [], .lst (SqL.of (kR.to lp2)) (dpStrs us), .lst (SqL.of upd_same) .nil, (Lay.list (n := 0) fun d z => by obtain ⟨u, hu, rfl⟩ := List.mem_map.mp z; exact .str (okU u hu)).shaped (by decide), by decide +kernel, _, rfl, ?_⟩
      rw [eqv_nil]
      have s2' := s2.keep kR (by simp)
      cases us with
      | nil => exact ⟨ms, rfl, k2.trans (Keep.of_nil kR), s2', kR.to lq2, by rw [List.append_nil] at hpm; exact hpm⟩
      | cons o os =>
        have lo : ms.length + (os.length + 1) = us0.length := by
          have := hpm.length_eq
          simpa using this
        have lu : ((o :: os).map V.str).length = os.length + 1 := by simp
        refine ⟨_, fun _ _ z => z, ?_⟩
        refine ⟨_, rfl, .inl ⟨rfl, _, SqL.of (kR.to lq2)⟩, _, rfl, .inl ⟨rfl, _, SqL.of (kR.to lp2)⟩, _, rfl, _, rfl, p, _, rfl, .inl (SqL.of (kR.to lp2)), a, _, rfl, s2', by rw [lu]; omega, by rw [lu]; omega, fun n H3 n0 n1 k3 s3 => ?_⟩
        obtain ⟨j, rfl⟩ := Int.eq_ofNat_of_zero_le n0
        have hj : j < (o :: os).length := by rw [lu] at n1; simp only [List.length_cons]; omega
        have pa : p ≠ a := (ne_of_none (show H a = _ from hs.choose_spec.choose_spec.1) np).symm
        have qa : q ≠ a := (ne_of_none (show H a = _ from hs.choose_spec.choose_spec.1) nq).symm
        have lp3 := k3 _ _ (by simpa using pa) (kR.to lp2)
        have lq3 := k3 _ _ (by simpa using qa) (kR.to lq2)
        have hz : (o :: os)[j]? = some (o :: os)[j] := List.getElem?_eq_getElem hj
        have hzv : ((o :: os).map V.str)[j]? = some (V.str (o :: os)[j]) := by rw [List.getElem?_map, hz]; rfl
        refine ⟨p, _, j, j, V.str (o :: os)[j], rfl, rfl, lp3, by omega, by simp only [List.length_map, List.length_cons] at hj ⊢; omega, seqIndex_nat (by rw [List.length_map]; exact hj), hzv, ?_⟩
        have kp : Keep [p] H3 (upd H3 p (.lst (((o :: os).map V.str).eraseIdx j))) := Keep.at_ (by simp)
        have lq4 : upd H3 p (.lst (((o :: os).map V.str).eraseIdx j)) q = some (.lst (ms.map V.str)) := kp _ _ (by simpa using pq.symm) lq3
        refine ⟨q, _, _, rfl, rfl, lq4, ?_, ?_⟩
        · rw [List.length_map]
          exact Nat.lt_of_lt_of_le (show ms.length < 100 by omega) (by decide)
        · have kq : Keep [q] (upd H3 p (.lst (((o :: os).map V.str).eraseIdx j))) (upd (upd H3 p (.lst (((o :: os).map V.str).eraseIdx j))) q (.lst (ms.map V.str ++ [V.str (o :: os)[j]]))) := Keep.at_ (by simp)
          refine ⟨m - 1, by simp only [List.length_cons] at hm; omega, ms ++ [(o :: os)[j]], (o :: os).eraseIdx j, rfl, ?_, ?_, ?_, ?_, ?_, ?_⟩
          · exact Keep.own (Keep.own (k2.trans ((Keep.of_nil kR).trans k3)) np) nq
          · exact (s3.keep kp (by simpa using pa.symm)).keep kq (by simpa using qa.symm)
          · rw [← map_erase]
            exact kq _ _ (by simpa using pq) upd_same
          · rw [List.map_append]
            exact upd_same
          · rw [List.length_eraseIdx]
            simp only [List.length_cons] at hm hj ⊢
            simp only [hj, if_true]
            omega
          · rw [List.append_assoc]
            exact ((perm_erase (o :: os) j hj).append_left ms).trans hpm
    rintro σ' H2 ⟨ms, rfl, k2, s2, lq2, hpm⟩
    exact ⟨_, rfl, k q ms H2 k2 nq s2 lq2 hpm⟩
end
def someTexts : List Str := ["", "a", "here", "new", "nothing", "x y", "~", "\n", Txt.mul "x" 80, Txt.mul "x" 81, "free", "none", "own", "keep"]
def signTexts : Str := " !\"#$&'()*+,-./0123456789:;<=>?@ABCDEFGHIJKLMNOPQRSTUVWXYZ[\\]^_`{|}~"
theorem some_ok : (someTexts.all fun s => textOk s && decide (s.length ≤ 1000)) = true := by decide +kernel
theorem sign_ok : (signTexts.cps.toList.all signOk) = true := by decide +kernel
theorem sign_len : signTexts.length < 1000 ∧ 0 < signTexts.length := by decide +kernel
/-- texts that may be contents -/
def okTexts (ts : List Str) : Prop := ∀ t ∈ ts, textOk t = true ∧ t.length ≤ 1000
def spTexts (K : PySem.W.Frag) : Sp := fun vs H Q _ => ∃ (a : Addr) (mn : Nat), vs = [.ref a, .int (mn : Int)] ∧ mn ≤ 15 ∧ Src H a ∧ ∀ p ts H', H p = none → Keep [a] H H' → Src H' a → H' p = some (.lst (ts.map V.str)) → ts.length = mn → okTexts ts → ts.Nodup → ("strange" : Str) ∉ ts → Q (.ref p) H'
theorem textOk_app {a : Str} {c : Nat} (h : textOk a = true) (hc : signOk c = true) : textOk (a.append ⟨#[c]⟩) = true := by
  rw [textOk, List.all_eq_true] at *
  intro x hx
  have : (a.append ⟨#[c]⟩).cps.toList = a.cps.toList ++ [c] := by simp [Str.append]
  rw [this] at hx
  rcases List.mem_append.mp hx with z | z
  · exact h x z
  · rw [List.mem_singleton.mp z]
    exact hc
/-- a k, then signs -/
def kLike (u : Str) : Bool := match u.cps.toList with
  | 107 :: cs => cs.all fun c => signTexts.cps.toList.contains c
  | _ => false
theorem some_noK : (someTexts.all fun u => !kLike u) = true := by decide +kernel
theorem some_nodup : someTexts.Nodup := by decide +kernel
theorem kLike_app {a : Str} {c : Nat} (h : kLike a = true) (hc : c ∈ signTexts.cps.toList) : kLike (a.append ⟨#[c]⟩) = true := by
  have e : (a.append ⟨#[c]⟩).cps.toList = a.cps.toList ++ [c] := by simp [Str.append]
  unfold kLike at *
  rw [e]
  split at h
  · rename_i cs eq
    rw [eq]
    show (cs ++ [c]).all _ = true
    rw [List.all_append, h]
    simpa using hc
  · cases h
theorem some_strange : ("strange" : Str) ∉ someTexts := by decide +kernel
theorem k_strange : kLike "strange" = false := by decide +kernel
section
variable {P : Program} {w : World} {K : PySem.W.Frag} {mg : Str → Option Value} {base : Heap}
abbrev s__law_texts : Stmt := (top 62)
abbrev N__law_texts : List Str := ["source", "many", "some", "signs", "word", "turn"]
abbrev P__law_texts : List Str := ["source", "many"]
theorem sc__law_texts : FnScope N__law_texts P__law_texts (defScope s__law_texts) := ⟨rfl, rfl, rfl, by decide +kernel, rfl, by decide +kernel, by decide +kernel⟩
theorem D_law_texts (W : Cw fas fns K mg) (D_law_draw : DefOk P w K mg base CX0 1 "_law_draw" P__law_draw spDraw) (D_law_pickS : DefOk P w K mg base CX0 2 "_law_pick" P__law_pick spPickS) (D_law_mixedT : DefOk P w K mg base CX0 2 "_law_mixed" P__law_mixed (spMixedT K)) : DefOk P w K mg base CX0 3 "_law_texts" P__law_texts (spTexts K) := by
  refine DefOk.of W 59 54 (st := s__law_texts) rfl rfl sc__law_texts (fun _ _ _ _ _ _ us hl => match us, hl with | [_, _], _ => rfl) (fun vs H Q E h => ?_) (fun cdv A outer s H vs Q E hr h => ?_)
  · obtain ⟨a, mn, rfl, _⟩ := h
    rfl
  · obtain ⟨a, mn, rfl, m15, hs, k⟩ := h
    refine ⟨_, PSs.nox (Evl.pss_cut (ps_set (i := 2) sc__law_texts.nd rfl (by first | exact Or.inl rfl | exact Or.inr rfl) (pe_lst (pa_cons pe_str (pa_cons pe_str (pa_cons pe_str (pa_cons pe_str (pa_cons pe_str (pa_cons pe_str (pa_cons pe_str (pa_cons pe_str (pa_cons (pe_op SM.op_mulS pe_str pe_int) (pa_cons (pe_op SM.op_mulS pe_str pe_int) (pa_cons pe_str (pa_cons pe_str (pa_cons pe_str (pa_cons pe_str pa_nil)))))))))))))))) (Evl.pss_cut (ps_asg (pe_tup (pa_cons pe_str (pa_cons pe_str pa_nil))) (pg_tup (by rfl) (pgs_cons (pg_name (i := 3) sc__law_texts.nd rfl (by first | exact Or.inl rfl | exact Or.inr rfl)) (pgs_cons (pg_name (i := 4) sc__law_texts.nd rfl (by first | exact Or.inl rfl | exact Or.inr rfl)) pgs_nil)))) (Evl.pss_cut (ps_for PassesOwn.never rfl (pi_range1 (by rfl) (W.fre 75) (pa_cons (SM.pe_callD D_law_draw (hr.mono (by decide)) pass0 (pa_cons (pv 0) (pa_cons pe_int pa_nil))) pa_nil)) (pg_name (i := 5) sc__law_texts.nd rfl (by first | exact Or.inl rfl | exact Or.inr rfl)) (pss_one (ps_set (i := 4) sc__law_texts.nd rfl (by first | exact Or.inl rfl | exact Or.inr rfl) (pe_op op_add_str (pv 4) (SM.pe_callD D_law_pickS (hr.mono (by decide)) pass0 (pa_cons (pv 0) (pa_cons (pv 3) pa_nil))))))) (pss_one (ps_ret (pe_slice sl_list (SM.pe_callD D_law_mixedT (hr.mono (by decide)) pass0 (pa_cons (pv 0) (pa_cons (pe_op op_cat (pv 2) (pe_lst (pa_cons (pv 4) pa_nil))) pa_nil))) po_none (po_some (pv 1)))))))), ?_⟩
    let T : Option V → Option V → Option V → Option V → L2.St := fun x2 x3 x4 x5 => [some (.ref a), some (.int (mn : Int)), x2, x3, x4, x5]
    have na : H a ≠ none := by
      obtain ⟨x, y, e, _⟩ := hs
      rw [e]
      exact fun z => by cases z
    refine ⟨fun σ' H' => ∃ p, σ' = T (some (.ref p)) none none none ∧ H p = none ∧ H' = upd H p (.lst (someTexts.map V.str)), ?_, ?_⟩
    · exact ⟨_, _, rfl, rfl, (by decide +kernel), (by decide), (by decide), _, _, rfl, rfl, (by decide +kernel), (by decide), (by decide), (by show 14 ≤ sizeLine; decide), fun p np => ⟨p, rfl, np, rfl⟩⟩
    rintro σ' H1 ⟨p, rfl, np, rfl⟩
    have k1 : Keep [] H (upd H p (.lst (someTexts.map V.str))) := Keep.new np
    refine ⟨fun σ' H' => σ' = T (some (.ref p)) (some (.str signTexts)) (some (.str "k")) none ∧ Keep [] (upd H p (.lst (someTexts.map V.str))) H', ?_, ?_⟩
    · exact ⟨(by show 2 ≤ sizeLine; decide), fun t nt => ⟨t, _, rfl, SqT.of upd_same, rfl, _, _, rfl, _, _, rfl, rfl, rfl, Keep.new nt⟩⟩
    rintro σ' H2 ⟨rfl, k2⟩
    have k02 := k1.trans k2
    have s1 := hs.keep k02 (by simp)
    have ep2 := k2.to (upd_same (H := H) (a := p) (o := .lst (someTexts.map V.str)))
    have npa : p ≠ a := fun z => na (by rw [← z]; exact np)
    refine ⟨fun σ' H' => ∃ wd x5, σ' = T (some (.ref p)) (some (.str signTexts)) (some (.str wd)) x5 ∧ Keep [a] H H' ∧ Src H' a ∧ H' p = some (.lst (someTexts.map V.str)) ∧ textOk wd = true ∧ wd.length ≤ 9 ∧ kLike wd = true, ?_, ?_⟩
    · refine ⟨_, rfl, a, _, rfl, s1, by decide, by decide, fun r H3 r0 r1 k3 s3 => ⟨r, rfl, by omega, by omega, for_range (lo := 0) (fun i σ' H' => ∃ wd x5, σ' = T (some (.ref p)) (some (.str signTexts)) (some (.str wd)) x5 ∧ Keep [a] H H' ∧ Src H' a ∧ H' p = some (.lst (someTexts.map V.str)) ∧ textOk wd = true ∧ wd.length ≤ 1 + i ∧ kLike wd = true) ⟨"k", none, rfl, (Keep.of_nil k02).trans k3, s3, k3 _ _ (by simpa using npa) ep2, by decide +kernel, by decide +kernel, by decide +kernel⟩ ?_ ?_⟩⟩
      · rintro i σ' H4 hi ⟨wd, x5, rfl, k4, s4, ep4, okw, lw, kw⟩
        refine ⟨_, rfl, _, rfl, _, rfl, a, signTexts, rfl, s4, sign_len.2, sign_len.1, fun c H5 hc k5 s5 => ?_⟩
        have r8 : r < 8 := r1
        refine ⟨_, _, rfl, rfl, by show wd.length + 1 ≤ sizeLine; exact Nat.le_trans (show wd.length + 1 ≤ 100 by omega) (by decide), ?_⟩
        refine ⟨_, _, rfl, k4.trans k5, s5, k5 _ _ (by simpa using npa) ep4, textOk_app okw (List.all_eq_true.mp sign_ok c hc), ?_, kLike_app kw hc⟩
        have : (wd.append ⟨#[c]⟩).length = wd.length + 1 := by simp [Str.append, Str.length]
        rw [show (wd ++ (⟨#[c]⟩ : Str)).length = wd.length + 1 from this]
        omega
      · rintro σ' H4 ⟨wd, x5, rfl, k4, s4, ep4, okw, lw, kw⟩
        exact ⟨wd, x5, rfl, k4, s4, ep4, okw, by omega, kw⟩
    rintro σ' H3 ⟨wd, x5, rfl, k3, s3, ep, okw, l9, kw⟩
    have all : ∀ u ∈ someTexts ++ [wd], textOk u = true ∧ u.length ≤ 1000 := fun u hu => by
      rcases List.mem_append.mp hu with z | z
      · have := List.all_eq_true.mp some_ok u z
        rw [Bool.and_eq_true, decide_eq_true_eq] at this
        exact this
      · rw [List.mem_singleton.mp z]
        exact ⟨okw, by omega⟩
    refine rx_ret ⟨_, rfl, _, rfl, rx_lst ⟨_, rfl, (by show 1 ≤ sizeLine; decide), fun q nq => ?_⟩⟩
    have kq : Keep [] H3 (upd H3 q (.lst [.str wd])) := Keep.new nq
    refine rd_cat (kq.to ep) upd_same (by show 14 + 1 ≤ 1000; decide) fun l H4 nl k4 e4 => ?_
    have k34 := kq.trans k4
    refine ⟨a, l, someTexts ++ [wd], rfl, s3.keep k34 (by simp), SqL.of (by rw [e4, List.map_append]; rfl), by show 15 ≤ 40; decide, fun u hu => textOk_str (all u hu).1, fun m ms H5 k5 nm s5 em hpm => ?_⟩
    have lm : ms.length = 15 := hpm.length_eq
    have nd0 : (someTexts ++ [wd]).Nodup := by
      refine List.nodup_append.mpr ⟨some_nodup, by simp, fun u hu v hv e => ?_⟩
      rw [List.mem_singleton.mp hv] at e
      have := List.all_eq_true.mp some_noK u hu
      rw [e, kw] at this
      cases this
    have nd : ms.Nodup := hpm.nodup_iff.mpr nd0
    refine ⟨_, rfl, (mn : Int), rfl, m, _, rfl, SqL.of em, fun r nr => ?_⟩
    have kr : Keep [] H5 (upd H5 r (.lst (cutV (ms.map V.str) none (some (mn : Int))))) := Keep.new nr
    have ec : cutV (ms.map V.str) none (some (mn : Int)) = (ms.take mn).map V.str := by
      unfold cutV
      rw [show HT.sIx (ms.map V.str).length (ms.map V.str).length (some (mn : Int)) = min mn (ms.map V.str).length from sIx_n _ _ mn, HT.sIx_none, List.drop_zero, Nat.sub_zero, List.map_take, List.length_map, lm, Nat.min_eq_left m15]
    rw [ec] at kr
    rw [ec]
    refine k r (ms.take mn) _ ?_ ((k3.trans (Keep.of_nil k34)).trans (k5.trans (Keep.of_nil kr))) (s5.keep kr (by simp)) upd_same (by rw [List.length_take, lm]; exact Nat.min_eq_left m15) (fun t ht => all t (hpm.subset (List.mem_of_mem_take ht))) (nd.sublist (List.take_sublist _ _)) (fun z => (List.mem_append.mp (hpm.subset (List.mem_of_mem_take z))).elim some_strange fun z => by rw [← List.mem_singleton.mp z, k_strange] at kw; cases kw)
    have f1 : H4 r = none ∨ r = a := by
      by_cases z : r = a
      · exact .inr z
      · exact .inl (k5.free (by simpa using z) nr)
    rcases f1 with f1 | f1
    · by_cases z : r = a
      · exact absurd nr (by
          obtain ⟨x, y, e, _⟩ := s5
          rw [z, e]
          exact fun q => by cases q)
      · exact k3.free (by simpa using z) (k34.free (by simp) f1)
    · exact absurd nr (by
        obtain ⟨x, y, e, _⟩ := s5
        rw [f1, e]
        exact fun q => by cases q)
end
end La
set_option Elab.async false
set_option linter.all false
set_option maxRecDepth 100000
set_option maxHeartbeats 4000000
namespace La
open PySem PySem.Spec PyProof.Rows L2 SM
/-- what is done to a file -/
inductive Deed where
  | edit (c : Cn)
  | come (ren : Bool) (c : Cn) (reply : Option Str) (n : Option Nat)
def nD : Option Nat → PyData
  | none => .none
  | some n => .int (n : Int)
def deedD : Deed → PyData
  | .edit c => .tuple [.str "edit", cD c]
  | .come ren c r n => .tuple [.str (if ren = true then "renamed" else "upgrade"), cD c, cD r, nD n]
def DeedOk (ns : List Str) (ls : List Ln) (s : Fs) : Deed → Prop
  | .edit c => okC c ∧ s.amid = false
  | .come ren c r n => ComeOk ns ls s c ren r n
def behindS (ns : List Str) (ls : List Ln) (s : Fs) : Deed → List Str × Fs
  | .edit c => ([], editedS s c)
  | .come ren c r n => brought ns ls s c ren r n
theorem nV_dt {K : PySem.W.Frag} {H : Hp} (n : Option Nat) : Dt K H (nV n) (nD n) := by
  cases n with
  | none => exact .non
  | some n => exact .int _
theorem nD_nV {K : PySem.W.Frag} {H : Hp} {v : V} {n : Option Nat} (h : Dt K H v (nD n)) : v = nV n := by
  cases n with
  | none => cases h; rfl
  | some n => cases h; rfl
def deedC : Deed → Cn
  | .edit c => c
  | .come _ c _ _ => c
def spDeed (K : PySem.W.Frag) : Sp := fun vs H Q _ => ∃ (a d tp : Addr) (v : V) (kvs : List (Key × V)) (ns : List Str) (ls : List Ln) (s : Fs) (ts : List Str), vs = [.ref a, v, .ref d, .ref tp] ∧ Src H a ∧ Dt K H v (planD ns ls) ∧ H d = some (.dK kvs) ∧ Md kvs ns s ∧ FsOk ns s ∧ NmOk ns ∧ LsOk ns ls ∧ H tp = some (.lst (ts.map V.str)) ∧ ts.length = 3 ∧ okTexts ts ∧
  ∀ dd u H', Keep [a] H H' → Src H' a → Dt K H' u (deedD dd) → DeedOk ns ls s dd → deedC dd ∈ ts.map some ++ [none, atC s.cs 0, s.last] → Q u H'
def spBehind (K : PySem.W.Frag) : Sp := fun vs H Q _ => ∃ (v vd : V) (d : Addr) (kvs : List (Key × V)) (ns : List Str) (ls : List Ln) (s : Fs) (dd : Deed), vs = [v, .ref d, vd] ∧ Dt K H v (planD ns ls) ∧ H d = some (.dK kvs) ∧ Md kvs ns s ∧ FsOk ns s ∧ NmOk ns ∧ LsOk ns ls ∧ Dt K H vd (deedD dd) ∧ DeedOk ns ls s dd ∧
  Pair2 K H Q ns (behindS ns ls s dd).1 (behindS ns ls s dd).2
theorem okTexts.okC {ts : List Str} (h : okTexts ts) : ∀ c ∈ ts.map some, okC c := fun c hc => by
  obtain ⟨t, ht, rfl⟩ := List.mem_map.mp hc
  intro s e
  cases e
  exact h t ht
theorem map_some_cV (ts : List Str) : (ts.map some).map cV = ts.map V.str := by rw [List.map_map]; rfl
section
variable {P : Program} {w : World} {K : PySem.W.Frag} {mg : Str → Option Value} {base : Heap}
abbrev s__law_deed : Stmt := (top 63)
abbrev N__law_deed : List Str := ["source", "plan", "file", "texts", "content", "is_moved", "new", "reply", "many", "count"]
abbrev P__law_deed : List Str := ["source", "plan", "file", "texts"]
theorem sc__law_deed : FnScope N__law_deed P__law_deed (defScope s__law_deed) := ⟨rfl, rfl, rfl, by decide +kernel, rfl, by decide +kernel, by decide +kernel⟩
theorem D_law_deed (W : Cw fas fns K mg) (D_law_draw : DefOk P w K mg base CX0 1 "_law_draw" P__law_draw spDraw) (D_law_pick : DefOk P w K mg base CX0 2 "_law_pick" P__law_pick (spPick K)) (D_law_list : DefOk P w K mg base CX0 2 "_law_list" P__law_list (spLList K)) (D_law_is_asked : DefOk P w K mg base CX0 2 "_law_is_asked" P__law_is_asked (spLAsked K)) : DefOk P w K mg base CX0 3 "_law_deed" P__law_deed (spDeed K) := by
  refine DefOk.of W 60 55 (st := s__law_deed) rfl rfl sc__law_deed (fun _ _ _ _ _ _ us hl => match us, hl with | [_, _, _, _], _ => rfl) (fun vs H Q E h => ?_) (fun cdv A outer s H vs Q E hr h => ?_)
  · obtain ⟨a, d, tp, v, kvs, ns, ls, s, ts, rfl, _⟩ := h
    rfl
  · obtain ⟨a, d, tp, v, kvs, ns, ls, fs, ts, rfl, hs, dp, ed, md, fok, nm, lok, et, t4, okt, k⟩ := h
    refine ⟨_, PSs.nox (Evl.pss_cut (ps_if (PW.pt (pw_and (pt_not (pt_val (pe_dget (hu_of hr) (pv 2) pe_str (fun _ _ => rfl)))) (pw_and1 (pt_cmpR op_eq (SM.pe_callD D_law_draw (hr.mono (by decide)) pass0 (pa_cons (pv 0) (pa_cons pe_int pa_nil))) pe_int (nomark _))))) (pss_one (ps_ret (pe_tup (pa_cons pe_str (pa_cons (SM.pe_callD D_law_pick (hr.mono (by decide)) pass0 (pa_cons (pv 0) (pa_cons (pe_lc (own := [("content", 4)]) (g := gName 4) (tt := tTest (tOp rNe (tVar 4) (tDGet (tVar 2) (tC (.str "here"))))) (by rfl) sc__law_deed.nd (pi_list (pe_op op_cat (pv 3) (pe_lst (pa_cons pe_non pa_nil)))) (blkOk_by (own := [("content", 4)]) (N := N__law_deed) (sc := defScope s__law_deed) (by decide +kernel)) (fun _ _ _ _ _ => pg_name (i := 4) sc__law_deed.nd rfl (Or.inl rfl)) (fun _ _ _ _ _ => pts_one (pt_cmpR op_ne (pv 4) (pe_dget (hu_of hr) (pv 2) pe_str (fun _ _ => rfl)) (nomark _))) (fun _ _ _ _ _ => (pv 4))) pa_nil))) pa_nil))))) pss_nil) (Evl.pss_cut (ps_set (i := 5) sc__law_deed.nd rfl (by first | exact Or.inl rfl | exact Or.inr rfl) (pe_and (pe_cmpR (SM.op_inA (SM.units65 hr)) pe_str (pe_ix ix_seq (pv 1) pe_int (fun _ _ => rfl)) (by rfl)) (pe_one (pe_cmpR op_eq (SM.pe_callD D_law_draw (hr.mono (by decide)) pass0 (pa_cons (pv 0) (pa_cons pe_int pa_nil))) pe_int (nomark _))))) (Evl.pss_cut (ps_set (i := 6) sc__law_deed.nd rfl (by first | exact Or.inl rfl | exact Or.inr rfl) (SM.pe_callD D_law_pick (hr.mono (by decide)) pass0 (pa_cons (pv 0) (pa_cons (pe_op op_cat (pv 3) (pe_lst (pa_cons pe_non (pa_cons (pe_dget (hu_of hr) (pv 2) pe_str (fun _ _ => rfl)) (pa_cons (pe_dget (hu_of hr) (pv 2) pe_str (fun _ _ => rfl)) pa_nil))))) pa_nil)))) (Evl.pss_cut (ps_set (i := 7) sc__law_deed.nd rfl (by first | exact Or.inl rfl | exact Or.inr rfl) (pe_ifExp (pt_val (SM.pe_callD D_law_is_asked (hr.mono (by decide)) pass0 (pa_cons (pv 1) (pa_cons (pv 2) (pa_cons (pv 6) (pa_cons (pv 5) pa_nil)))))) (SM.pe_callD D_law_pick (hr.mono (by decide)) pass0 (pa_cons (pv 0) (pa_cons (pe_lst (pa_cons pe_str (pa_cons pe_str pa_nil))) pa_nil))) pe_non)) (Evl.pss_cut (ps_set (i := 8) sc__law_deed.nd rfl (by first | exact Or.inl rfl | exact Or.inr rfl) (pe_callB call_len_seq (by rfl) (W.fre 70) (by decide +kernel) (pa_cons (SM.pe_callD D_law_list (hr.mono (by decide)) pass0 (pa_cons (pv 1) (pa_cons (pv 2) (pa_cons (pv 6) (pa_cons (pv 7) (pa_cons (pv 5) pa_nil)))))) pa_nil))) (Evl.pss_cut (ps_set (i := 9) sc__law_deed.nd rfl (by first | exact Or.inl rfl | exact Or.inr rfl) (pe_ifExp (PW.pt (pw_and (pt_cmpR op_gt (pv 8) pe_int (nomark _)) (pw_and1 (pt_cmpR op_eq (SM.pe_callD D_law_draw (hr.mono (by decide)) pass0 (pa_cons (pv 0) (pa_cons pe_int pa_nil))) pe_int (nomark _))))) (SM.pe_callD D_law_draw (hr.mono (by decide)) pass0 (pa_cons (pv 0) (pa_cons (pv 8) pa_nil))) pe_non)) (pss_one (ps_ret (pe_tup (pa_cons (pe_ifExp (pt_val (pv 5)) pe_str pe_str) (pa_cons (pv 6) (pa_cons (pv 7) (pa_cons (pv 9) pa_nil))))))))))))), ?_⟩
    let T : Option V → Option V → Option V → Option V → Option V → L2.St := fun x5 x6 x7 x8 x9 => [some (.ref a), some v, some (.ref d), some (.ref tp), none, x5, x6, x7, x8, x9]
    have sa : Soft [a] H := hs.soft
    have nda : d ≠ a := fun z => by
      obtain ⟨x, y, e, _⟩ := hs
      rw [z, e] at ed
      cases ed
    have nta : tp ≠ a := fun z => by
      obtain ⟨x, y, e, _⟩ := hs
      rw [z, e] at et
      injection et with et
      injection et with et
      have := congrArg List.length et
      rw [List.length_map, t4] at this
      simp at this
    let I : Hp → Prop := fun H' => Keep [a] H H' ∧ Src H' a
    have Id : ∀ {H'}, I H' → H' d = some (.dK kvs) := fun h => h.1 _ _ (by simpa using nda) ed
    have It : ∀ {H'}, I H' → H' tp = some (.lst (ts.map V.str)) := fun h => h.1 _ _ (by simpa using nta) et
    have Ip : ∀ {H'}, I H' → Dt K H' v (planD ns ls) := fun h => dp.keep h.1 sa
    have Ik : ∀ {H' H''}, I H' → Keep [] H' H'' → I H'' := fun h k' => ⟨h.1.trans (Keep.of_nil k'), h.2.keep k' (by simp)⟩
    have Ia : ∀ {H' H''}, I H' → Keep [a] H' H'' → Src H'' a → I H'' := fun h k' s' => ⟨h.1.trans k', s'⟩
    have here_ok : okC (atC fs.cs 0) := atC_ok fok.cs 0
    -- an edit
    refine ⟨fun σ' H' => σ' = T none none none none none ∧ I H', ?_, ?_⟩
    · refine rx_if (rx_and (rx_not ⟨_, rfl, d, _, rfl, dg ed md.amid, _, rfl, ?_⟩))
      refine ite2 (fun ea => ?_) (fun ea => iteF ⟨rfl, Keep.refl, hs⟩)
      have am : fs.amid = false := by simpa using ea
      refine rx_tTest (rx_op (rx_call ⟨_, rfl, a, _, rfl, hs, by decide, by decide, fun r H1 r0 r1 k1 s1 => ⟨rfl, _, rfl, ?_⟩⟩))
      refine ite2 (fun _ => ?_) (fun _ => ⟨rfl, k1, s1⟩)
      have i1 : I H1 := ⟨k1, s1⟩
      let l : List Cn := ts.map some ++ [none]
      refine rx_ret (rx_tup (rx_cons (rx_c (rx_cons (rx_call ⟨_, rfl, rx_cons ?_⟩)))))
      refine lcLP (l := l) (e := cV) (p := fun c => !decide (c = atC fs.cs 0)) (by show 4 < 10; decide) (by rw [List.length_append, List.length_map, t4]; decide) (fun Q' q' => ?_) (fun i c H2 hc k2 Q' q' => ?_) fun D H2 nD k2 eD => ?_
      · refine rx_op ⟨_, rfl, rx_lst ⟨(by show 1 ≤ sizeLine; decide), fun p1 np1 => ?_⟩⟩
        have kp : Keep [] H1 (upd H1 p1 (.lst [.non])) := Keep.new np1
        refine rd_cat (It (Ik i1 kp)) upd_same (by rw [List.length_map, t4]; decide) fun p2 H3 n2 k3 e3 => q' p2 H3 (kp.trans k3) (SqL.of ?_)
        rw [e3, List.map_append, map_some_cV]
        rfl
      · refine rx_tTest (rx_op ⟨_, rfl, rx_dget ⟨_, rfl, d, _, rfl, dg (Id (Ik i1 k2)) md.here, fl_cn _ _, _, rfl, ?_⟩⟩)
        rw [dec_cn]
        exact q' _ Keep.refl
      · have i2 := Ik i1 k2
        have nDa : D ≠ a := fun z => by
          obtain ⟨x, y, e, _⟩ := s1
          rw [z, e] at nD
          cases nD
        have ex : ∃ c ∈ l, c ≠ atC fs.cs 0 := by
          by_cases e : atC fs.cs 0 = none
          · cases ts with
            | nil => cases t4
            | cons t ts => exact ⟨some t, by simp [l], by rw [e]; exact fun z => by cases z⟩
          · exact ⟨none, by simp [l], fun z => e z.symm⟩
        obtain ⟨c0, hc0, nc0⟩ := ex
        have mem0 : c0 ∈ l.filter fun c => !decide (c = atC fs.cs 0) := List.mem_filter.mpr ⟨hc0, by simp [nc0]⟩
        refine rx_nil ⟨a, D, _, rfl, i2.2, .inl (SqL.of eD), nDa, by rw [List.length_map]; exact List.length_pos_of_mem mem0, ?_, fun i u H3 hu k3 s3 => ?_⟩
        · rw [List.length_map]
          exact Nat.lt_of_le_of_lt (List.length_filter_le _ _) (by rw [List.length_append, List.length_map, t4]; decide)
        · rw [List.getElem?_map] at hu
          cases es : (l.filter fun c => !decide (c = atC fs.cs 0))[i]? with
          | none => rw [es] at hu; cases hu
          | some c =>
          rw [es] at hu
          cases hu
          have hc := (List.mem_filter.mp (List.mem_of_getElem? es)).1
          have okc : okC c := by
            rcases List.mem_append.mp hc with z | z
            · exact okTexts.okC okt c z
            · rw [List.mem_singleton.mp z]
              exact okC_none
          have i3 := Ia i2 k3 s3
          refine rx_nil ⟨(by show 2 ≤ sizeLine; decide), fun t nt => ?_⟩
          have i4 := Ik i3 (Keep.new (o := .tup [.str "edit", cV c]) nt)
          exact k (.edit c) (.ref t) _ i4.1 i4.2 (.tup (SqT.of upd_same) (.cons (.str _) (.cons (cV_dt c) .nil))) ⟨okc, am⟩ (by
            rcases List.mem_append.mp hc with z | z
            · exact List.mem_append_left _ z
            · rw [show deedC (.edit c) = c from rfl, List.mem_singleton.mp z]
              exact List.mem_append_right _ List.mem_cons_self)
    rintro σ' H1 ⟨rfl, i1⟩
    -- is_moved
    refine ⟨fun σ' H' => ∃ ren : Bool, σ' = T (some (.bl ren)) none none none none ∧ I H' ∧ (ren = true → ("elder" : Str) ∈ ns), ?_, ?_⟩
    · obtain ⟨pa, pb, pc, pxs, rfl, sqa, sqb, sqc, dc⟩ := plan_parts (Ip i1)
      refine rx_op (rx_c (rx_op ⟨_, rfl, .inr (.inl ⟨pa, _, 0, _, rfl, rfl, sqa, at0 _ _, .inr ⟨.str "elder", ns.map .str, .str _, .tup sqb (dpStrs ns), by decide +kernel, (Lay.tuple (n := 0) fun d z => ?_).shaped (by decide), _, rfl, ?_⟩⟩)⟩))
      · obtain ⟨s, hs, rfl⟩ := List.mem_map.mp z
        exact .str (nm.ok s hs)
      · rw [any_str]
        refine ite2 (fun e => ?_) (fun e => ⟨false, rfl, i1, fun z => by cases z⟩)
        exact rx_op (rx_call ⟨_, rfl, a, _, rfl, i1.2, by decide, by decide, fun r H2 r0 r1 k2 s2 => ⟨rfl, _, rfl, Ia i1 k2 s2, fun _ => of_decide_eq_true e⟩⟩)
    rintro σ' H2 ⟨ren, rfl, i2, el⟩
    -- new
    refine ⟨fun σ' H' => ∃ c : Cn, σ' = T (some (.bl ren)) (some (cV c)) none none none ∧ I H' ∧ okC c ∧ c ∈ ts.map some ++ [none, atC fs.cs 0, fs.last], ?_, ?_⟩
    · refine rx_call ⟨_, rfl, rx_cons (rx_op ⟨_, rfl, rx_lst (rx_cons (rx_c (rx_cons (rx_dget ⟨_, rfl, d, _, rfl, dg (Id i2) md.here, rx_cons (rx_dget ⟨_, rfl, d, _, rfl, dg (Id i2) md.last, rx_nil ⟨(by show 3 ≤ sizeLine; decide), fun p1 np1 => ?_⟩⟩)⟩))))⟩)⟩
      have kp : Keep [] H2 (upd H2 p1 (.lst [.non, cV (atC fs.cs 0), cV fs.last])) := Keep.new np1
      refine rd_cat (It (Ik i2 kp)) upd_same (by rw [List.length_map, t4]; show 3 + 3 ≤ 1000; decide) fun p2 H3 n2 k3 e3 => ?_
      have i3 := Ik i2 (kp.trans k3)
      let l : List Cn := ts.map some ++ [none, atC fs.cs 0, fs.last]
      have el : H3 p2 = some (.lst (l.map cV)) := by
        rw [e3, List.map_append, map_some_cV]
        rfl
      have n2a : p2 ≠ a := fun z => by
        obtain ⟨x, y, e, _⟩ := i2.2
        have := kp.to e
        rw [← z, n2] at this
        cases this
      refine rx_nil ⟨a, p2, _, rfl, i3.2, .inl (SqL.of el), n2a, by rw [List.length_map, List.length_append]; show 0 < _ + 3; omega, by rw [List.length_map, List.length_append, List.length_map, t4]; show 3 + 3 < 100000; decide, fun i u H4 hu k4 s4 => ?_⟩
      rw [List.getElem?_map] at hu
      cases es : l[i]? with
      | none => rw [es] at hu; cases hu
      | some c =>
      rw [es] at hu
      cases hu
      refine ⟨c, rfl, Ia i3 k4 s4, ?_, List.mem_of_getElem? es⟩
      rcases List.mem_append.mp (List.mem_of_getElem? es) with z | z
      · exact okTexts.okC okt c z
      · simp only [List.mem_cons, List.not_mem_nil, or_false] at z
        rcases z with rfl | rfl | rfl
        · exact okC_none
        · exact here_ok
        · exact fok.last
    rintro σ' H3 ⟨c, rfl, i3, okc, cin⟩
    let ln := lineOf ns ls fs c ren
    -- reply
    refine ⟨fun σ' H' => ∃ r : Option Str, σ' = T (some (.bl ren)) (some (cV c)) (some (cV r)) none none ∧ I H' ∧ okR r ∧ (r = none → ln.keep.isSome = false), ?_, ?_⟩
    · refine rx_ife ⟨_, rfl, _, rfl, _, rfl, _, rfl, v, d, kvs, c, ren, ns, ls, fs, rfl, Ip i3, Id i3, md, nm, lok, el, fun H4 k4 => ⟨_, rfl, ?_⟩⟩
      have i4 := Ik i3 k4
      refine ite2 (fun e => ?_) (fun e => ⟨none, rfl, i4, .inl rfl, fun _ => Bool.eq_false_iff.mpr e⟩)
      refine rx_call ⟨_, rfl, rx_cons (rx_lst (rx_cons (rx_c (rx_cons (rx_c (rx_nil ⟨(by show 2 ≤ sizeLine; decide), fun p1 np1 => ?_⟩))))))⟩
      have i5 := Ik i4 (Keep.new (o := .lst [.str "take", .str "keep"]) np1)
      have n1a : p1 ≠ a := fun z => by
        obtain ⟨x, y, e, _⟩ := i4.2
        rw [z, e] at np1
        cases np1
      refine rx_nil ⟨a, p1, _, rfl, i5.2, .inl (SqL.of upd_same), n1a, by show 0 < 2; decide, by show 2 < 100000; decide, fun i u H6 hu k6 s6 => ?_⟩
      match i, hu with
      | 0, hu =>
        cases hu
        exact ⟨some "take", rfl, Ia i5 k6 s6, .inr (.inl rfl), fun z => by cases z⟩
      | 1, hu =>
        cases hu
        exact ⟨some "keep", rfl, Ia i5 k6 s6, .inr (.inr rfl), fun z => by cases z⟩
    rintro σ' H4 ⟨r, rfl, i4, okr, ask⟩
    -- many
    refine ⟨fun σ' H' => σ' = T (some (.bl ren)) (some (cV c)) (some (cV r)) (some (.int ((listFor ln r).length : Int))) none ∧ I H', ?_, ?_⟩
    · refine rx_cb1 (rx_call ⟨_, rfl, _, rfl, _, rfl, _, rfl, _, rfl, v, d, kvs, c, r, ren, ns, ls, fs, rfl, Ip i4, Id i4, md, nm, lok, el, fun u H5 k5 du => ?_⟩)
      obtain ⟨b, us, rfl, sb, dus⟩ := du.items
      refine ⟨b, us, rfl, .inr sb, ?_⟩
      rw [dus.length, List.length_map]
      exact ⟨rfl, Ik i4 k5⟩
    rintro σ' H5 ⟨rfl, i5⟩
    -- count
    refine ⟨fun σ' H' => ∃ n : Option Nat, σ' = T (some (.bl ren)) (some (cV c)) (some (cV r)) (some (.int ((listFor ln r).length : Int))) (some (nV n)) ∧ I H' ∧ ∀ k, n = some k → k < (listFor ln r).length, ?_, ?_⟩
    · have gl : GoodL ns ln := lok.good ln (List.mem_of_getElem? (lineOf_at lok.l1))
      have l4 := (GoodL.list gl r).1
      refine rx_ife (rx_and (rx_tTest (rx_op ⟨_, rfl, _, _, rfl, rfl, _, rfl, ?_⟩)))
      refine ite2 (fun e => ?_) (fun e => iteF ⟨none, rfl, i5, fun k z => by cases z⟩)
      have pos : (0 : Int) < ((listFor ln r).length : Int) := of_decide_eq_true e
      refine rx_tTest (rx_op (rx_call ⟨_, rfl, a, _, rfl, i5.2, by decide, by decide, fun y H6 y0 y1 k6 s6 => ⟨rfl, _, rfl, ?_⟩⟩))
      have i6 := Ia i5 k6 s6
      refine ite2 (fun _ => ?_) (fun _ => ⟨none, rfl, i6, fun k z => by cases z⟩)
      refine rx_call ⟨_, rfl, _, rfl, a, _, rfl, i6.2, pos, by omega, fun y H7 y0 y1 k7 s7 => ?_⟩
      obtain ⟨j, rfl⟩ := Int.eq_ofNat_of_zero_le y0
      exact ⟨some j, rfl, Ia i6 k7 s7, fun k z => by cases z; omega⟩
    rintro σ' H6 ⟨n, rfl, i6, hn⟩
    have cok : ComeOk ns ls fs c ren r n := ⟨okc, okr, el, ask, hn⟩
    refine rx_ret (rx_tup (rx_cons (rx_ife ⟨_, rfl, _, rfl, ?_⟩)))
    have fin : ∀ x : Str, x = (if ren = true then ("renamed" : Str) else "upgrade") → ([V.str x, cV c, cV r, nV n].length ≤ sizeLine ∧ ∀ p, H6 p = none → Q (.ref p) (upd H6 p (.tup [.str x, cV c, cV r, nV n]))) := fun x ex => ⟨(by show 4 ≤ sizeLine; decide), fun t nt => by
      have i7 := Ik i6 (Keep.new (o := .tup [.str x, cV c, cV r, nV n]) nt)
      refine k (.come ren c r n) (.ref t) _ i7.1 i7.2 (.tup (SqT.of upd_same) (.cons ?_ (.cons (cV_dt c) (.cons (cV_dt r) (.cons (nV_dt n) .nil))))) cok cin
      rw [← ex]
      exact .str x⟩
    cases ren with
    | true => exact iteT ⟨_, rfl, _, rfl, _, rfl, fin "renamed" rfl⟩
    | false => exact iteF ⟨_, rfl, _, rfl, _, rfl, fin "upgrade" rfl⟩
abbrev s__law_behind : Stmt := (top 64)
abbrev N__law_behind : List Str := ["plan", "file", "deed"]
abbrev P__law_behind : List Str := ["plan", "file", "deed"]
theorem sc__law_behind : FnScope N__law_behind P__law_behind (defScope s__law_behind) := ⟨rfl, rfl, rfl, by decide +kernel, rfl, by decide +kernel, by decide +kernel⟩
theorem D_law_behind (W : Cw fas fns K mg) (D_law_edited : DefOk P w K mg base CX0 1 "_law_edited" P__law_edited (spLEdited K)) (D_law_brought : DefOk P w K mg base CX0 3 "_law_brought" P__law_brought (spLBrought K)) : DefOk P w K mg base CX0 4 "_law_behind" P__law_behind (spBehind K) := by
  refine DefOk.of W 61 56 (st := s__law_behind) rfl rfl sc__law_behind (fun _ _ _ _ _ _ us hl => match us, hl with | [_, _, _], _ => rfl) (fun vs H Q E h => ?_) (fun cdv A outer s H vs Q E hr h => ?_)
  · obtain ⟨v, vd, d, kvs, ns, ls, s, dd, rfl, _⟩ := h
    rfl
  · obtain ⟨v, vd, d, kvs, ns, ls, fs, dd, rfl, dp, ed, md, fok, nm, lok, ddt, dok, k⟩ := h
    refine ⟨_, PSs.nox (Evl.pss_cut (ps_if (pt_cmpR op_eq (pe_ix ix_seq (pv 2) pe_int (fun _ _ => rfl)) pe_str (nomark _)) (pss_one (ps_ret (pe_lst (pa_cons (pe_lst pa_nil) (pa_cons (SM.pe_callD D_law_edited (hr.mono (by decide)) pass0 (pa_cons (pv 1) (pa_cons (pe_ix ix_seq (pv 2) pe_int (fun _ _ => rfl)) pa_nil))) pa_nil))))) pss_nil) (pss_one (ps_ret (SM.pe_callD D_law_brought (hr.mono (by decide)) pass0 (pa_cons (pv 0) (pa_cons (pv 1) (pa_cons (pe_ix ix_seq (pv 2) pe_int (fun _ _ => rfl)) (pa_cons (pe_ix ix_seq (pv 2) pe_int (fun _ _ => rfl)) (pa_cons (pe_ix ix_seq (pv 2) pe_int (fun _ _ => rfl)) (pa_cons (pe_cmpR op_eq (pe_ix ix_seq (pv 2) pe_int (fun _ _ => rfl)) pe_str (nomark _)) pa_nil)))))))))), ?_⟩
    cases dd with
    | edit c =>
      obtain ⟨b, us, rfl, sb, dus⟩ := ddt.items
      cases dus with
      | @cons u0 _ _ _ g0 dus =>
      cases dus with
      | @cons u1 _ _ _ g1 dus =>
      cases dus
      cases g0
      obtain rfl := cD_cV g1
      refine ⟨fun σ' H' => False, ?_, fun σ' H' z => z.elim⟩
      refine rx_if (rx_tTest (rx_op (rx_op ⟨_, rfl, .inr (.inl ⟨b, _, 0, _, rfl, rfl, sb, at0 _ _, rfl, _, rfl, ?_⟩)⟩)))
      rw [show decide (V.str "edit" = V.str "edit") = true from decide_eq_true rfl]
      refine iteT (rx_ret (rx_lst (rx_cons ⟨(by show 0 ≤ sizeLine; decide), fun pw npw => rx_cons (rx_call (rx_cons ⟨_, rfl, rx_cons (rx_op ⟨_, rfl, .inr (.inl ⟨b, _, 1, _, rfl, rfl, seqT_keep (Keep.new npw) Soft.nil sb, at1 _ _ _, ?_⟩)⟩)⟩))⟩)))
      have kw : Keep [] H (upd H pw (.lst [])) := Keep.new npw
      refine rx_nil ⟨d, kvs, c, ns, fs, rfl, kw.to ed, md, nm, fun pd H1 kv1 npd k1 e1 m1 => rx_nil ⟨(by show 2 ≤ sizeLine; decide), fun r nr => ?_⟩⟩
      have kr : Keep [] H1 (upd H1 r (.lst [.ref pw, .ref pd])) := Keep.new nr
      exact k r pw pd _ kv1 ((kw.trans k1).free (by simp) nr) npw (kw.free (by simp) npd) ((kw.trans k1).trans kr) upd_same ((k1.trans kr).to upd_same) (kr.to e1) m1
    | come ren c r n =>
      obtain ⟨b, us, rfl, sb, dus⟩ := ddt.items
      cases dus with
      | @cons u0 _ _ _ g0 dus =>
      cases dus with
      | @cons u1 _ _ _ g1 dus =>
      cases dus with
      | @cons u2 _ _ _ g2 dus =>
      cases dus with
      | @cons u3 _ _ _ g3 dus =>
      cases dus
      cases g0
      obtain rfl := cD_cV g1
      obtain rfl := cD_cV g2
      obtain rfl := nD_nV g3
      have w0 : decide (V.str (if ren = true then ("renamed" : Str) else "upgrade") = V.str "edit") = false := by cases ren <;> decide +kernel
      have w1 : decide (V.str (if ren = true then ("renamed" : Str) else "upgrade") = V.str "renamed") = ren := by cases ren <;> decide +kernel
      refine ⟨fun σ' H' => σ' = [some v, some (.ref d), some (.ref b)] ∧ H' = H, ?_, ?_⟩
      · refine rx_if (rx_tTest (rx_op (rx_op ⟨_, rfl, .inr (.inl ⟨b, _, 0, _, rfl, rfl, sb, at0 _ _, rfl, _, rfl, ?_⟩)⟩)))
        rw [w0]
        exact iteF ⟨rfl, rfl⟩
      rintro σ' H1 ⟨rfl, rfl⟩
      refine rx_ret (rx_call ⟨_, rfl, _, rfl, rx_cons (rx_op ⟨_, rfl, ?_⟩)⟩)
      refine .inr (.inl ⟨b, _, 1, _, rfl, rfl, sb, at1 _ _ _, rx_cons (rx_op ⟨_, rfl, ?_⟩)⟩)
      refine .inr (.inl ⟨b, _, 2, _, rfl, rfl, sb, rfl, rx_cons (rx_op ⟨_, rfl, ?_⟩)⟩)
      refine .inr (.inl ⟨b, _, 3, _, rfl, rfl, sb, rfl, rx_cons (rx_op (rx_op ⟨_, rfl, ?_⟩))⟩)
      refine .inr (.inl ⟨b, _, 0, _, rfl, rfl, sb, at0 _ _, rfl, ?_⟩)
      rw [w1]
      exact rx_nil ⟨v, d, kvs, c, r, n, ren, ns, ls, fs, rfl, dp, ed, md, fok, nm, lok, dok.ck, dok.el, k⟩
end
end La
set_option Elab.async false
set_option linter.all false
set_option maxRecDepth 100000
set_option maxHeartbeats 4000000
namespace La
open PySem PySem.Spec PyProof.Rows L2 SM
def spTold (K : PySem.W.Frag) : Sp := fun vs H Q _ => ∃ (x : Addr) (vd : V) (ns : List Str) (ls : List Ln) (s : Fs) (dd : Deed), vs = [.ref x, vd] ∧ FileIs K H x ns ls s ∧ FsOk ns s ∧ NmOk ns ∧ LsOk ns ls ∧ Dt K H vd (deedD dd) ∧ DeedOk ns ls s dd ∧
  ∀ p H', H p = none → Keep [x] H H' → H' p = some (.lst ((behindS ns ls s dd).1.map V.str)) → FileIs K H' x ns ls (behindS ns ls s dd).2 → Q (.ref p) H'
def spFileRight (K : PySem.W.Frag) : Sp := fun vs H Q _ => ∃ (v : V) (x d : Addr) (kvs : List (Key × V)) (ns : List Str) (ls : List Ln) (s : Fs), vs = [v, .ref x, .ref d] ∧ Dt K H v (planD ns ls) ∧ FileIs K H x ns ls s ∧ H d = some (.dK kvs) ∧ Md kvs ns s ∧ FsOk ns s ∧ NmOk ns ∧ ∀ H', Keep [] H H' → Q (.bl true) H'
theorem eqv_one (c : Cn) : PyData.eqv (.tuple [cD c]) (.tuple [cD c]) = true := by
  rw [PyData.eqv, PyData.eqvAll, PyData.eqvAll, cD_eqv, decide_eq_true rfl]
  rfl
section
variable {P : Program} {w : World} {K : PySem.W.Frag} {mg : Str → Option Value} {base : Heap}
abbrev s__law_told : Stmt := (top 65)
abbrev N__law_told : List Str := ["file", "deed"]
abbrev P__law_told : List Str := ["file", "deed"]
theorem sc__law_told : FnScope N__law_told P__law_told (defScope s__law_told) := ⟨rfl, rfl, rfl, by decide +kernel, rfl, by decide +kernel, by decide +kernel⟩
theorem D_law_told (W : Cw fas fns K mg) (IE : ∃ fd, FnOk P w K mg base CX0 3 (He.ma K (He.ga K "File") "edit") fd ["self", "content"] (spEdit K) ∧ Binds K fd ["self", "content"] [])
    (IU : ∃ (fd : FuncData) (g : List Value → List Value → List Value), FnOk P w K mg base CX0 5 (He.ma K (He.ga K "File") "upgrade") fd ["self", "content", "answer", "stop"] (spUp K false) ∧ KBn K fd ["self", "content", "answer", "stop"] 2 ["answer", "stop"] g (fun vs zs => vs ++ zs))
    (IR : ∃ (fd : FuncData) (g : List Value → List Value → List Value), FnOk P w K mg base CX0 5 (He.ma K (He.ga K "File") "renamed") fd ["self", "content", "answer", "stop"] (fun vs H Q E => spUp K true vs H Q E ∧ ∃ x ns ls s, vs.head? = some (.ref x) ∧ FileIs K H x ns ls s ∧ ("elder" : Str) ∈ ns ∧ OkN ns) ∧ KBn K fd ["self", "content", "answer", "stop"] 2 ["answer", "stop"] g (fun vs zs => vs ++ zs)) :
    DefOk P w K mg base CX0 6 "_law_told" P__law_told (spTold K) := by
  refine DefOk.of W 62 57 (st := s__law_told) rfl rfl sc__law_told (fun _ _ _ _ _ _ us hl => match us, hl with | [_, _], _ => rfl) (fun vs H Q E h => ?_) (fun cdv A outer s H vs Q E hr h => ?_)
  · obtain ⟨x, vd, ns, ls, s, dd, rfl, _⟩ := h
    rfl
  · obtain ⟨x, vd, ns, ls, fs, dd, rfl, hf, fok, nm, lok, ddt, dok, k⟩ := h
    have CF : Cls K (He.ga K "File") := He.cls_ok (W.fact 97)
    have ME := He.meth_ok (W.fact 101)
    have MUp := He.meth_ok (W.fact 102)
    have MRn := He.meth_ok (W.fact 103)
    obtain ⟨fdE, FE, bE⟩ := IE
    obtain ⟨fdU, gU, FUp, kUp⟩ := IU
    obtain ⟨fdR, gR, FRn, kRn⟩ := IR
    refine ⟨_, PSs.nox (Evl.pss_cut (ps_if (pt_cmpR op_eq (pe_ix ix_seq (pv 1) pe_int (fun _ _ => rfl)) pe_str (nomark _)) (pss_one (ps_ret (pe_ifExp (pt_cmpR op_isN (pe_meth (pv 0) CF ME FE (hr.mono (by decide)) bE .nil pass0 (pa_cons (pe_ix ix_seq (pv 1) pe_int (fun _ _ => rfl)) pa_nil)) pe_non (nomark _)) (pe_lst pa_nil) (pe_lst (pa_cons pe_str pa_nil))))) pss_nil) (Evl.pss_cut (ps_if (pt_cmpR op_eq (pe_ix ix_seq (pv 1) pe_int (fun _ _ => rfl)) pe_str (nomark _)) (pss_one (ps_ret (SM.pe_methN (pv 0) CF MRn FRn (hr.mono (by decide)) kRn pass0 (pa_cons (pe_ix ix_seq (pv 1) pe_int (fun _ _ => rfl)) pa_nil) (pk_cons (pe_ix ix_seq (pv 1) pe_int (fun _ _ => rfl)) (pk_cons (pe_ix ix_seq (pv 1) pe_int (fun _ _ => rfl)) pk_nil))))) pss_nil) (pss_one (ps_ret (SM.pe_methN (pv 0) CF MUp FUp (hr.mono (by decide)) kUp pass0 (pa_cons (pe_ix ix_seq (pv 1) pe_int (fun _ _ => rfl)) pa_nil) (pk_cons (pe_ix ix_seq (pv 1) pe_int (fun _ _ => rfl)) (pk_cons (pe_ix ix_seq (pv 1) pe_int (fun _ _ => rfl)) pk_nil))))))), ?_⟩
    have hf0 := hf
    obtain ⟨dx, rr, v, hx, _⟩ := hf
    cases dd with
    | edit c =>
      obtain ⟨b, us, rfl, sb, dus⟩ := ddt.items
      cases dus with
      | @cons u0 _ _ _ g0 dus =>
      cases dus with
      | @cons u1 _ _ _ g1 dus =>
      cases dus
      cases g0
      obtain rfl := cD_cV g1
      refine ⟨fun σ' H' => False, ?_, fun σ' H' z => z.elim⟩
      refine rx_if (rx_tTest (rx_op (rx_op ⟨_, rfl, .inr (.inl ⟨b, _, 0, _, rfl, rfl, sb, at0 _ _, rfl, _, rfl, ?_⟩)⟩)))
      rw [show decide (V.str "edit" = V.str "edit") = true from decide_eq_true rfl]
      refine iteT (rx_ret (rx_ife (rx_tTest (rx_op ⟨_, rfl, x, dx, _, rfl, hx, rfl, _, rfl, ?_⟩))))
      refine .inr (.inl ⟨b, _, 1, _, rfl, rfl, sb, at1 _ _ _, x, c, ns, ls, fs, rfl, hf0, fok, nm.n3, dok.1, dok.2, fun H1 k1 hf1 => ⟨rfl, _, rfl, ?_⟩⟩)
      rw [show decide (V.non = V.non) = true from decide_eq_true rfl]
      refine iteT ⟨(by show 0 ≤ sizeLine; decide), fun p np => ?_⟩
      have kp : Keep [] H1 (upd H1 p (.lst [])) := Keep.new np
      have nH : H p = none := by
        by_cases z : p = x
        · obtain ⟨dx2, r2, v2, e2, _⟩ := hf1
          rw [z, e2] at np
          cases np
        · exact k1.free (by simpa using z) np
      exact k p _ nH (k1.trans (Keep.of_nil kp)) upd_same (FileIs.k0 hf1 kp)
    | come ren c r n =>
      obtain ⟨b, us, rfl, sb, dus⟩ := ddt.items
      cases dus with
      | @cons u0 _ _ _ g0 dus =>
      cases dus with
      | @cons u1 _ _ _ g1 dus =>
      cases dus with
      | @cons u2 _ _ _ g2 dus =>
      cases dus with
      | @cons u3 _ _ _ g3 dus =>
      cases dus
      cases g0
      obtain rfl := cD_cV g1
      obtain rfl := cD_cV g2
      obtain rfl := nD_nV g3
      have w0 : decide (V.str (if ren = true then ("renamed" : Str) else "upgrade") = V.str "edit") = false := by cases ren <;> decide +kernel
      have w1 : decide (V.str (if ren = true then ("renamed" : Str) else "upgrade") = V.str "renamed") = ren := by cases ren <;> decide +kernel
      refine ⟨fun σ' H' => σ' = [some (.ref x), some (.ref b)] ∧ H' = H, ?_, ?_⟩
      · refine rx_if (rx_tTest (rx_op (rx_op ⟨_, rfl, .inr (.inl ⟨b, _, 0, _, rfl, rfl, sb, at0 _ _, rfl, _, rfl, ?_⟩)⟩)))
        rw [w0]
        exact iteF ⟨rfl, rfl⟩
      rintro σ' H1 ⟨rfl, rfl⟩
      refine ⟨fun σ' H' => σ' = [some (.ref x), some (.ref b)] ∧ H' = H1 ∧ ren = false, ?_, ?_⟩
      · refine rx_if (rx_tTest (rx_op (rx_op ⟨_, rfl, .inr (.inl ⟨b, _, 0, _, rfl, rfl, sb, at0 _ _, rfl, _, rfl, ?_⟩)⟩)))
        rw [w1]
        cases ren with
        | false => exact iteF ⟨rfl, rfl, rfl⟩
        | true =>
          refine iteT (rx_ret ⟨_, rfl, x, dx, _, rfl, hx, rfl, _, rfl, ?_⟩)
          refine .inr (.inl ⟨b, _, 1, _, rfl, rfl, sb, at1 _ _ _, _, rfl, ?_⟩)
          refine .inr (.inl ⟨b, _, 2, _, rfl, rfl, sb, rfl, _, rfl, ?_⟩)
          refine .inr (.inl ⟨b, _, 3, _, rfl, rfl, sb, rfl, rfl, rfl, ?_⟩)
          exact ⟨⟨x, c, r, n, ns, ls, fs, rfl, hf0, fok, lok, dok, k⟩, x, ns, ls, fs, rfl, hf0, dok.el rfl, nm.ok⟩
      rintro σ' H2 ⟨rfl, rfl, rfl⟩
      refine rx_ret ⟨_, rfl, x, dx, _, rfl, hx, rfl, _, rfl, ?_⟩
      refine .inr (.inl ⟨b, _, 1, _, rfl, rfl, sb, at1 _ _ _, _, rfl, ?_⟩)
      refine .inr (.inl ⟨b, _, 2, _, rfl, rfl, sb, rfl, _, rfl, ?_⟩)
      refine .inr (.inl ⟨b, _, 3, _, rfl, rfl, sb, rfl, rfl, rfl, ?_⟩)
      exact ⟨x, c, r, n, ns, ls, fs, rfl, hf0, fok, lok, dok, k⟩
abbrev s__law_file_right : Stmt := (top 66)
abbrev N__law_file_right : List Str := ["plan", "file", "model", "name"]
abbrev P__law_file_right : List Str := ["plan", "file", "model"]
theorem sc__law_file_right : FnScope N__law_file_right P__law_file_right (defScope s__law_file_right) := ⟨rfl, rfl, rfl, by decide +kernel, rfl, by decide +kernel, by decide +kernel⟩
theorem D_law_file_right (W : Cw fas fns K mg) (PHe : PropAt K q_File_here) (PAm : PropAt K q_File_amid) (PCh : PropAt K q_File_change) (PG : PropAt K q_Rule_registers) : DefOk P w K mg base CX0 6 "_law_file_right" P__law_file_right (spFileRight K) := by
  refine DefOk.of W 63 58 (st := s__law_file_right) rfl rfl sc__law_file_right (fun _ _ _ _ _ _ us hl => match us, hl with | [_, _, _], _ => rfl) (fun vs H Q E h => ?_) (fun cdv A outer s H vs Q E hr h => ?_)
  · obtain ⟨v, x, d, kvs, ns, ls, s, rfl, _⟩ := h
    rfl
  · obtain ⟨v, x, d, kvs, ns, ls, fs, rfl, dp, hf, ed, md, fok, nm, k⟩ := h
    have CF : Cls K (He.ga K "File") := He.cls_ok (W.fact 97)
    obtain ⟨fdHe, FHe, bHe⟩ := I_here (P := P) (w := w) (base := base) PHe W
    obtain ⟨fdAm, FAm, bAm⟩ := I_amid (P := P) (w := w) (base := base) PAm W
    obtain ⟨fdCh, FCh, bCh⟩ := I_change (P := P) (w := w) (base := base) PCh W
    obtain ⟨fdIt, FIt, bIt, hIt⟩ := I_item (P := P) (w := w) (base := base) PG W
    have MIt := He.meth_ok (W.fact 105)
    refine ⟨_, PSs.nox (Evl.pss_cut (ps_if (PW.pt (pw_or (pt_cmpR op_ne (pe_prop (pv 1) CF PHe.of FHe (hr.mono (by decide)) bHe .nil pass0 rfl) (pe_dget (hu_of hr) (pv 2) pe_str (fun _ _ => rfl)) (nomark _)) (pw_or1 (pt_cmpR op_ne (pe_callB SM.call_reprB (by rfl) (W.fre 76) (by decide +kernel) (pa_cons (pe_prop (pv 1) CF PAm.of FAm (hr.mono (by decide)) bAm .nil pass0 rfl) pa_nil)) (pe_callB SM.call_reprB (by rfl) (W.fre 76) (by decide +kernel) (pa_cons (pe_dget (hu_of hr) (pv 2) pe_str (fun _ _ => rfl)) pa_nil)) (nomark _))))) (pss_one (ps_ret pe_bl)) pss_nil) (Evl.pss_cut (ps_if (pt_cmpR (op_neD hr.units) (pe_lc (own := [("name", 3)]) (g := gName 3) (tt := tTest (tOp rNe (SM.tOwnIx (He.ga K "File") (spItem K) E0 (tVar 1) (tVar 3)) (tDGet (tVar 2) (tVar 3)))) (by rfl) sc__law_file_right.nd (pi_tup (pe_ix ix_seq (pv 0) pe_int (fun _ _ => rfl))) (blkOk_by (own := [("name", 3)]) (N := N__law_file_right) (sc := defScope s__law_file_right) (by decide +kernel)) (fun _ _ _ _ _ => pg_name (i := 3) sc__law_file_right.nd rfl (Or.inl rfl)) (fun _ _ _ _ _ => pts_one (pt_cmpR op_ne (SM.pe_ownIx (pv 1) (pv 3) FIt MIt hIt bIt pass0 (hr.mono (by decide))) (pe_dget (hu_of hr) (pv 2) (pv 3) (fun _ _ => rfl)) (nomark _))) (fun _ _ _ _ _ => (pv 3))) (pe_lst pa_nil) (nomark _)) (pss_one (ps_ret pe_bl)) pss_nil) (pss_one (ps_ret (pe_cmpR (op_eqD hr.units) (pe_prop (pv 1) CF PCh.of FCh (hr.mono (by decide)) bCh .nil pass0 rfl) (pe_ifExp (pt_cmpR op_eq (pe_dget (hu_of hr) (pv 2) pe_str (fun _ _ => rfl)) pe_str (nomark _)) (pe_tup (pa_cons (pe_dget (hu_of hr) (pv 2) pe_str (fun _ _ => rfl)) pa_nil)) pe_non) (nomark _)))))), ?_⟩
    have l1 : 1 ≤ fs.cs.length := by rw [fok.len]; omega
    have hf0 := hf
    obtain ⟨dx, rr, vv, hx, _⟩ := hf
    let T : L2.St := [some v, some (.ref x), some (.ref d), none]
    refine ⟨fun σ' H' => σ' = T ∧ H' = H, ?_, ?_⟩
    · refine rx_if (rx_or (rx_tTest (rx_op ⟨_, rfl, x, dx, _, rfl, hx, x, ns, ls, fs, rfl, hf0, l1, rx_dget ⟨_, rfl, d, _, rfl, dg ed md.here, fl_cn _ _, _, rfl, ?_⟩⟩)))
      rw [dec_cn, decide_eq_true rfl]
      refine iteF (rx_tTest (rx_op (rx_cb1 ⟨_, rfl, x, dx, _, rfl, hx, x, ns, ls, fs, rfl, hf0, l1, fs.amid, rfl, rx_cb1 (rx_dget ⟨_, rfl, d, _, rfl, dg ed md.amid, fs.amid, rfl, rfl, _, rfl, ?_⟩)⟩)))
      rw [dec_str, decide_eq_true rfl]
      exact iteF ⟨rfl, rfl⟩
    rintro σ' H1 ⟨rfl, rfl⟩
    refine ⟨fun σ' H' => σ' = T ∧ Keep [] H1 H', ?_, ?_⟩
    · obtain ⟨pa, pb, pc, pxs, rfl, sqa, sqb, sqc, dc⟩ := plan_parts dp
      refine rx_if (rx_tTest (rx_op ?_))
      refine lcTP (l := ns) (e := V.str) (p := fun _ => false) (by show 3 < 4; decide) (by have := nm.n3; omega) (fun Q' q => ⟨_, rfl, .inr (.inl ⟨pa, _, 0, _, rfl, rfl, sqa, at0 _ _, q pb _ Keep.refl sqb⟩)⟩) (fun i z H2 hz k2 Q' q' => ?_) fun D H2 nD k2 eD => ?_
      · have zin := List.mem_of_getElem? hz
        refine rx_tTest (rx_op ⟨_, rfl, _, rfl, x, dx, _, rfl, k2.to hx, x, z, ns, ls, fs, rfl, FileIs.k0 hf0 k2, fok.len, zin, nm.nd, nm.n3, fun H3 k3 => rx_dget ⟨_, rfl, _, rfl, d, _, rfl, dg ((k2.trans k3).to ed) (md.at_ z (.inr zin)), fl_cn _ _, _, rfl, ?_⟩⟩)
        rw [dec_cn, decide_eq_true rfl]
        exact q' _ k3
      · rw [show (ns.filter fun _ => false) = [] by simp] at eD
        refine rx_lst ⟨(by show 0 ≤ sizeLine; decide), fun q nq => ?_⟩
        have kq : Keep [] H2 (upd H2 q (.lst [])) := Keep.new nq
        refine ⟨.list [], .list [], .lst (SqL.of (kq.to eD)) .nil, .lst (SqL.of upd_same) .nil, by decide +kernel, by decide +kernel, _, rfl, ?_⟩
        rw [eqv_nil]
        exact iteF ⟨rfl, k2.trans kq⟩
    rintro σ' H2 ⟨rfl, k2⟩
    refine rx_ret (rx_op ⟨_, rfl, x, dx, _, rfl, k2.to hx, x, ns, ls, fs, rfl, FileIs.k0 hf0 k2, l1, ?_⟩)
    unfold qChange
    by_cases eo : fs.mark = "own"
    · rw [if_pos eo]
      intro p H3 k3 ep
      have k23 := k2.trans k3
      refine rx_ife (rx_tTest (rx_op (rx_dget ⟨_, rfl, d, _, rfl, dg (k23.to ed) md.mark, rfl, _, rfl, ?_⟩)))
      rw [dec_str, decide_eq_true eo]
      refine iteT (rx_tup (rx_cons (rx_dget ⟨_, rfl, d, _, rfl, dg (k23.to ed) md.mine, (by show 1 ≤ sizeLine; decide), fun q nq => ?_⟩)))
      have kq : Keep [] H3 (upd H3 q (.tup [cV fs.mine])) := Keep.new nq
      have sh : SeqAt.shaped (.tuple [cD fs.mine]) = true := (Lay.tuple (n := 0) fun d hd => by rw [List.mem_singleton.mp hd]; exact fok.mine.lay).shaped (by decide)
      refine ⟨.tuple [cD fs.mine], .tuple [cD fs.mine], .tup (SqT.of (kq.to ep)) (.cons (cV_dt _).dp .nil), .tup (SqT.of upd_same) (.cons (cV_dt _).dp .nil), sh, sh, ?_⟩
      rw [eqv_one]
      exact k _ (k23.trans kq)
    · rw [if_neg eo]
      refine rx_ife (rx_tTest (rx_op (rx_dget ⟨_, rfl, d, _, rfl, dg (k2.to ed) md.mark, rfl, _, rfl, ?_⟩)))
      rw [dec_str, decide_eq_false eo]
      refine iteF ⟨.none, .none, .non, .non, by decide +kernel, by decide +kernel, ?_⟩
      rw [PyData.eqv]
      exact k _ k2
end
end La
set_option Elab.async false
set_option linter.all false
set_option maxRecDepth 100000
set_option maxHeartbeats 4000000
namespace La
open PySem PySem.Spec PyProof.Rows L2 SM
theorem harmed_ok {ns : List Str} {s : Fs} {c : Cn} {ren : Bool} {l : Ln} {reply : Option Str} {n : Option Nat} (fok : FsOk ns s) (okc : okC c) : FsOk ns (harmed ns (midS ns s c ren l reply n)) := by
  have lh : (oH ns s c ren l reply n).length = ns.length + 3 := by rw [show (oH ns s c ren l reply n).length = _ from doSteps_len .., heldOf_len, fok.len]
  have mok : FsOk ns (midS ns s c ren l reply n) := by
    refine ⟨?_, ?_, fok.last, questS_ok (atC_ok fok.cs 0) fok.mine⟩
    · show (List.take _ _).length = _
      rw [List.length_take, lh]
      omega
    · exact take_ok (doSteps_ok (heldOf_ok fok.cs okc)) _
  unfold harmed
  split
  · exact mok
  · exact ⟨mok.len, mok.cs, mok.last, okC_none⟩
theorem brought_ok {ns : List Str} {ls : List Ln} {s : Fs} {c : Cn} {ren : Bool} {reply : Option Str} {n : Option Nat} (fok : FsOk ns s) (okc : okC c) : FsOk ns (brought ns ls s c ren reply n).2 := by
  have h := harmed_ok (ren := ren) (l := lineOf ns ls s c ren) (reply := reply) (n := n) fok okc
  rw [brought, outcome_law fok.len]
  cases n with
  | some k => exact ⟨h.len, h.cs, h.last, h.mine⟩
  | none =>
    refine ⟨h.len, h.cs, okc, ?_⟩
    show okC (endMark _ c).2
    unfold endMark
    split
    · exact okC_none
    · exact h.mine
theorem edited_ok {ns : List Str} {s : Fs} {c : Cn} (fok : FsOk ns s) (okc : okC c) : FsOk ns (editedS s c) := by
  have cs : ∀ z ∈ s.cs.set 0 c, okC z := fun z hz => by
    rcases List.mem_or_eq_of_mem_set hz with q | q
    · exact fok.cs z q
    · rw [q]
      exact okc
  have ln : (s.cs.set 0 c).length = ns.length + 1 := by rw [List.length_set]; exact fok.len
  unfold editedS
  split
  · exact fok
  · split
    · exact ⟨ln, cs, fok.last, okC_none⟩
    · exact ⟨ln, cs, fok.last, okc⟩
theorem behind_ok {ns : List Str} {ls : List Ln} {s : Fs} {dd : Deed} (fok : FsOk ns s) (dok : DeedOk ns ls s dd) : FsOk ns (behindS ns ls s dd).2 := by
  cases dd with
  | edit c => exact edited_ok fok dok.1
  | come ren c r n => exact brought_ok fok dok.ck
def troubleWords : List Str := ["needless", "revived", "lost", "stale", "left"]
theorem trouble_ok : troubleWords.all (fun w => PyData.strOk w) = true := by decide +kernel
theorem quest_words (s : Fs) (new : Cn) (a : Bool) (r : Option Str) : ∀ w ∈ (questionS s new a r).1, w ∈ troubleWords := by
  have this : ∀ w ∈ (if needlessS s new = true then (["needless"] : List Str) else []), w ∈ troubleWords := by
    split
    · intro w h
      rw [List.mem_singleton.mp h]
      exact List.mem_cons_self
    · exact fun w h => by cases h
  have e : (questionS s new a r).1 = [] ∨ (questionS s new a r).1 = (if needlessS s new = true then (["needless"] : List Str) else []) := by
    cases a with
    | false => exact .inl (by rw [questionS, if_pos rfl])
    | true =>
      refine .inr ?_
      by_cases h1 : r = some "take" ∧ s.mark = "own"
      · rw [show questionS s new true r = (_, _, _) from (if_neg (by decide)).trans (if_pos h1)]
      · by_cases h2 : r = some "keep" ∧ s.mark ≠ "own"
        · rw [show questionS s new true r = (_, _, _) from (if_neg (by decide)).trans ((if_neg h1).trans (if_pos h2))]
        · rw [show questionS s new true r = (_, _, _) from (if_neg (by decide)).trans ((if_neg h1).trans (if_neg h2))]
  rcases e with e | e
  · rw [e]
    exact fun w h => by cases h
  · rw [e]
    exact this
theorem harm_words (sp : List Nat) (h : List Cn) (m : Cn) : ∀ w ∈ harmS sp h m, w ∈ troubleWords := by
  unfold harmS
  split
  · split
    · exact fun w h => by cases h
    · intro w h
      rw [List.mem_singleton.mp h]
      exact List.mem_cons_of_mem _ List.mem_cons_self
  · split
    · exact fun w h => by cases h
    · intro w h
      rw [List.mem_singleton.mp h]
      exact List.mem_cons_of_mem _ (List.mem_cons_of_mem _ List.mem_cons_self)
theorem remains_words (e : Option Nat) (h : List Cn) (new : Cn) (own : List Cn) : ∀ w ∈ remainsS e h new own, w ∈ troubleWords := by
  unfold remainsS
  intro w hw
  rcases List.mem_append.mp hw with hw | hw
  · split at hw
    · cases hw
    · rw [List.mem_singleton.mp hw]
      exact List.mem_cons_of_mem _ (List.mem_cons_of_mem _ (List.mem_cons_of_mem _ List.mem_cons_self))
  · cases e with
    | none => cases hw
    | some e =>
      have hw : w ∈ (if atC h e = none ∨ atC h e ∈ own then ([] : List Str) else ["left"]) := hw
      split at hw
      · cases hw
      · rw [List.mem_singleton.mp hw]
        exact List.mem_cons_of_mem _ (List.mem_cons_of_mem _ (List.mem_cons_of_mem _ (List.mem_cons_of_mem _ List.mem_cons_self)))
theorem behind_words {ns : List Str} {ls : List Ln} {s : Fs} {dd : Deed} (fok : FsOk ns s) : (∀ w ∈ (behindS ns ls s dd).1, PyData.strOk w = true) ∧ (behindS ns ls s dd).1.length ≤ 4 := by
  have ok : ∀ w ∈ troubleWords, PyData.strOk w = true := fun w hw => List.all_eq_true.mp trouble_ok w hw
  cases dd with
  | edit c => exact ⟨fun w h => (by cases h), Nat.zero_le _⟩
  | come ren c r n =>
    show (∀ w ∈ (brought ns ls s c ren r n).1, _) ∧ (brought ns ls s c ren r n).1.length ≤ 4
    rw [brought, outcome_law fok.len]
    let m := midS ns s c ren (lineOf ns ls s c ren) r n
    have q1 : ∀ w ∈ (oQ s c (lineOf ns ls s c ren) r).1, w ∈ troubleWords := fun w hw => quest_words _ _ _ _ w hw
    have q2 : (oQ s c (lineOf ns ls s c ren) r).1.length ≤ 1 := questS_len ..
    have h1 : ∀ w ∈ oHm ns m, w ∈ troubleWords := by
      unfold oHm
      split
      · exact fun w hw => harm_words _ _ _ w hw
      · exact fun w h => by cases h
    have h2 : (oHm ns m).length ≤ 1 := by
      unfold oHm
      split
      · exact harmS_len ..
      · exact Nat.zero_le _
    cases n with
    | some k =>
      refine ⟨fun w hw => ok w ?_, ?_⟩
      · rcases List.mem_append.mp hw with hw | hw
        · exact q1 w hw
        · exact h1 w hw
      · show (_ ++ oHm ns m).length ≤ 4
        rw [List.length_append]
        omega
    | none =>
      refine ⟨fun w hw => ok w ?_, ?_⟩
      · rcases List.mem_append.mp hw with hw | hw
        · rcases List.mem_append.mp hw with hw | hw
          · exact q1 w hw
          · exact h1 w hw
        · exact remains_words _ _ _ _ w hw
      · show ((_ ++ oHm ns m) ++ remainsS _ _ _ _).length ≤ 4
        rw [List.length_append, List.length_append]
        exact Nat.le_trans (Nat.add_le_add (Nat.add_le_add q2 h2) (remainsS_len ..)) (by decide)
theorem eqv_strs (a b : List Str) : PyData.eqv (.list (a.map .str)) (.list (b.map .str)) = decide (a = b) := by
  rw [PyData.eqv]
  induction a generalizing b with
  | nil =>
    cases b with
    | nil => rw [List.map_nil, PyData.eqvAll]; rfl
    | cons y b => rw [List.map_nil, List.map_cons, PyData.eqvAll]; rfl
  | cons x a ih =>
    cases b with
    | nil => rw [List.map_nil, List.map_cons, PyData.eqvAll]; rfl
    | cons y b =>
      rw [List.map_cons, List.map_cons, PyData.eqvAll, ih, PyData.eqv]
      by_cases e : x = y
      · subst e
        simp
      · simp [e]
theorem lines_map_inj {a b : List Ln} (h : a.map lnD = b.map lnD) : a = b := map_inj (fun _ _ => line_inj) h
/-- Rule(..) of what may be made -/
theorem make_rule {K : PySem.W.Frag} {H : Hp} {x dx : Addr} {vr vl : V} {dr dl : PyData} {Q : VK} {E : XK} {ns : List Str} {ls : List Ln} (hx : H x = some (.ins (He.ga K "Rule") dx [])) (hr : Dq K H vr dr) (hl : Dq K H vl dl) (v : VRule ns ls)
    (er : itemsOf dr = ns.map .str) (el : itemsOf dl = ls.map lnD) (cr : isRegs dr = true) (cl : linesIn dl = true) (k : ∀ H', Keep [x] H H' → RuleFull K H' x ns ls → Q .non H') : spMakeRule K [.ref x, vr, vl] H Q E := by
  have es : strsOf (itemsOf dr) = ns := by rw [er, strsOf_map]
  refine ⟨x, dx, vr, vl, dr, dl, rfl, hx, hr, hl, fun e he y q => ?_, fun d hd => ?_, fun c => ?_, fun _ c => ?_, fun _ _ i fb => ?_, fun _ _ _ H' ls' e _ kk r => ?_⟩
  · rw [er] at he
    obtain ⟨s, hs, rfl⟩ := List.mem_map.mp he
    cases q
    exact Nat.le_trans (v.okN.2.2 _ hs) (by decide)
  · rw [el] at hd
    obtain ⟨z, hz, rfl⟩ := List.mem_map.mp hd
    exact goodL_lay v.okN.2.1 (v.good z hz)
  · rw [cr] at c
    cases c
  · rw [cl] at c
    cases c
  · rw [es, el, v.noBad] at fb
    cases fb
  · rw [es] at r
    rw [el] at e
    rw [← lines_map_inj e] at r
    exact k H' kk r
theorem VRule.regs2 {ns : List Str} {ls : List Ln} (v : VRule ns ls) : isRegs (.list (ns.map .str)) = true ∧ isRegs (.tuple (ns.map .str)) = true ∧ linesIn (.list (ls.map lnD)) = true ∧ linesIn (.tuple (ls.map lnD)) = true := by
  have h : (decide (1 ≤ (ls.map lnD).length) && decide ((ls.map lnD).length ≤ 8)) = true := by
    rw [List.length_map, Bool.and_eq_true, decide_eq_true_eq, decide_eq_true_eq]
    exact v.few
  exact ⟨v.regs, v.regs, h, h⟩
/-- a rule made of a plan -/
def spRuleOf (K : PySem.W.Frag) : Sp := fun vs H Q _ => ∃ (v : V) (ns : List Str) (ls : List Ln), vs = [v] ∧ Dt K H v (planD ns ls) ∧ VRule ns ls ∧ ∀ x H', Keep [] H H' → H x = none → RuleFull K H' x ns ls → Q (.ref x) H'
section
variable {P : Program} {w : World} {K : PySem.W.Frag} {mg : Str → Option Value} {base : Heap}
abbrev s__law_rule : Stmt := (top 52)
abbrev N__law_rule : List Str := ["plan"]
abbrev P__law_rule : List Str := ["plan"]
theorem sc__law_rule : FnScope N__law_rule P__law_rule (defScope s__law_rule) := ⟨rfl, rfl, rfl, by decide +kernel, rfl, by decide +kernel, by decide +kernel⟩
theorem D_law_rule (W : Cw fas fns K mg) (IR : ∃ fd, FnOk P w K mg base (CX P w) 5 (He.ma K (He.ga K "Rule") "__init__") fd ["self", "registers", "lines"] (spMakeRule K) ∧ Binds K fd ["self", "registers", "lines"] []) : DefOk P w K mg base CX0 7 "_law_rule" P__law_rule (spRuleOf K) := by
  refine DefOk.of W 49 44 (st := s__law_rule) rfl rfl sc__law_rule (fun _ _ _ _ _ _ us hl => match us, hl with | [_], _ => rfl) (fun vs H Q E h => ?_) (fun cdv A outer s H vs Q E hr h => ?_)
  · obtain ⟨v, ns, ls, rfl, _⟩ := h
    rfl
  · obtain ⟨v, ns, ls, rfl, hp, hv, k⟩ := h
    obtain ⟨fdR, FR, bR⟩ := IR
    have MR : Mk K (He.ga K "Rule") (He.ma K (He.ga K "Rule") "__init__") := He.mkr_ok (W.fact 87)
    have gR := W.glo 26
    refine ⟨_, PSs.nox (pss_one (ps_ret (pe_make MR FR (hr.mono (by decide)) (by rfl) gR bR .nil (passes_call (W := fun _ _ _ _ => False) (E := E0) takes0 (fun _ _ _ _ h => h)) (pa_cons (pe_callTy call_list_of (by rfl) (W.fre 71) (by decide +kernel) (pa_cons (pe_ix ix_seq (pv 0) pe_int (fun _ _ => rfl)) pa_nil)) (pa_cons (pe_callTy call_list_of (by rfl) (W.fre 71) (by decide +kernel) (pa_cons (pe_ix ix_seq (pv 0) pe_int (fun _ _ => rfl)) pa_nil)) pa_nil))))), ?_⟩
    have X0 : LtH K (tOp (rIx K) (tVar 0) (tC (.int 0))) [some v] H (.tuple (ns.map .str)) := LtH.ix (n := 0) (.var rfl hp) (fun H1 Q q => q) rfl
    have X1 : LtH K (tOp (rIx K) (tVar 0) (tC (.int 1))) [some v] H (.tuple (linesD ls)) := LtH.ix (n := 1) (.var rfl hp) (fun H1 Q q => q) rfl
    refine rx_ret (show tCons _ _ _ _ _ from rx_cons (rx_cb1 (X0 H Keep.refl _ fun v0 H1 k1 d0 => ?_)))
    obtain ⟨a0, xs0, rfl, h0, ds0⟩ := d0.items
    refine ⟨a0, xs0, rfl, .inr h0, fun l0 hl0 => ?_⟩
    have kl0 : Keep [] H1 (upd H1 l0 (.lst xs0)) := Keep.new hl0
    have k01 := k1.trans kl0
    refine rx_cons (rx_cb1 (X1 _ k01 _ fun v1 H2 k2 d1 => ?_))
    obtain ⟨a1, xs1, rfl, h1, ds1⟩ := d1.items
    refine ⟨a1, xs1, rfl, .inr h1, fun l1 hl1 => ?_⟩
    have kl1 : Keep [] H2 (upd H2 l1 (.lst xs1)) := Keep.new hl1
    have k02 := k01.trans (k2.trans kl1)
    show ∀ x dx, _
    intro x dx nx ndx ne
    have ka : Keep [] (upd H2 l1 (.lst xs1)) (upd (upd H2 l1 (.lst xs1)) dx (.own x)) := Keep.new ndx
    have kb : Keep [] (upd (upd H2 l1 (.lst xs1)) dx (.own x)) (upd (upd (upd H2 l1 (.lst xs1)) dx (.own x)) x (.ins (He.ga K "Rule") dx [])) := Keep.new (by rw [upd_ne ne.symm]; exact nx)
    have kab := ka.trans kb
    have kl1ab := kl1.trans kab
    refine make_rule upd_same (dr := .list (ns.map .str)) (dl := .list (ls.map lnD)) ?_ ?_ hv rfl rfl hv.regs2.1 hv.regs2.2.2.1 fun H' k' ri => ⟨rfl, ?_⟩
    · exact .lst (.inl (.inl ((k2.trans kl1ab).to upd_same))) ((ds0.k0 (kl0.trans (k2.trans kl1ab))).dq)
    · exact .lst (.inl (.inl (kab.to upd_same))) ((ds1.k0 kl1ab).dq)
    · exact k x H' (k02.trans (kab.offNew k' nx)) (k02.free (by simp) nx) ri
end
end La
set_option Elab.async false
set_option linter.all false
set_option maxRecDepth 100000
set_option maxHeartbeats 4000000
namespace La
open PySem PySem.Spec PyProof.Rows L2 SM
/-- what the run tells of a class with an own __eq__ -/
structure ClsF (K : PySem.W.Frag) (c : Str) : Prop where
  ty : ∀ {H : Hp} {a dx : Addr} {fs : List (Str × V)}, Cls K (He.ga K c) → H a = some (.ins (He.ga K c) dx fs) → TyX K H (.ref a) (.ref (He.ga K c))
  mro : PySem.W.mroIn K (He.ga K c) (.type "object") = some true
  at_ : PySem.W.findIn K (.ref (He.ga K c)) "__eq__" = some (some (.ref (He.ma K (He.ga K c) "__eq__")))
  fn : PySem.W.isFn K (.ref (He.ma K (He.ga K c) "__eq__")) = true
  kit : ∀ n ∈ tys02, PySem.W.kitOne K (.type n) (.ref (He.ga K c)) = some false
  nf : ∀ n ∈ tys02, PySem.W.notFirst K (He.ga K c) (.type n) = true
theorem ClsF.of {K : PySem.W.Frag} {c : Str} (h : clsM K c = true) : ClsF K c := by
  obtain ⟨h1, h2⟩ := He.ba (show ((_ && (_ && (_ && _))) && ((_ && _) && tys02.all _)) = true from h)
  obtain ⟨a, h1⟩ := He.ba h1
  obtain ⟨b, h1⟩ := He.ba h1
  obtain ⟨d, e⟩ := He.ba h1
  obtain ⟨f, g⟩ := He.ba h2
  obtain ⟨f1, f2⟩ := He.ba f
  refine ⟨fun CR ea => .base (.ins ea CR (He.eqO_ok a) (He.eqO_ok b) (eq_of_beq d) (eq_of_beq e)), eq_of_beq e, He.eqO_ok f1, f2, fun n hn => ?_, fun n hn => ?_⟩
  · obtain ⟨z, _⟩ := He.ba (List.all_eq_true.mp g n hn)
    exact eq_of_beq z
  · obtain ⟨_, z⟩ := He.ba (List.all_eq_true.mp g n hn)
    unfold PySem.W.notFirst
    rw [z, Bool.or_true]
theorem lay_lines {ns : List Str} {ls : List Ln} (v : VRule ns ls) : SeqAt.shaped (.tuple (linesD ls)) = true := by
  refine (Lay.tuple (n := 3) fun d z => ?_).shaped (by decide)
  obtain ⟨l, hl, rfl⟩ := List.mem_map.mp z
  exact (v.good l hl).lay (n := 0) v.okN.2.1
/-- Rule.__eq__ -/
def spRuleEq (K : PySem.W.Frag) : Sp := fun vs H Q _ => ∃ (x : Addr) (v : V) (ns : List Str) (ls : List Ln), vs = [.ref x, v] ∧ RuleIs K H x ns ls ∧ VRule ns ls ∧
  ((∃ (y : Addr) (ms : List Str) (ks : List Ln), v = .ref y ∧ RuleIs K H y ms ks ∧ VRule ms ks ∧ ∀ b, (b = true ↔ ns = ms ∧ ls = ks) → Q (.bl b) H) ∨
   (∃ ty, TyX K H v ty ∧ PySem.W.kitOne K ty (.ref (He.ga K "Rule")) = some false ∧ Q (.bl false) H))
section
variable {P : Program} {w : World} {K : PySem.W.Frag} {mg : Str → Option Value} {base : Heap}
abbrev s_Rule___eq__ : Stmt := (inClass (top 33) 6)
abbrev N_Rule___eq__ : List Str := ["self", "other"]
abbrev P_Rule___eq__ : List Str := ["self", "other"]
theorem sc_Rule___eq__ : FnScope N_Rule___eq__ P_Rule___eq__ (defScope s_Rule___eq__) := ⟨rfl, rfl, rfl, by decide +kernel, rfl, by decide +kernel, by decide +kernel⟩
theorem I_RuleEq (W : Cw fas fns K mg) (cR : ClsF K "Rule") :
    ∃ fd, FnOk P w K mg base CX0 1 (He.ma K (He.ga K "Rule") "__eq__") fd ["self", "other"] (spRuleEq K) ∧ Binds K fd ["self", "other"] [] := by
  obtain ⟨fd, F⟩ := W.says.def_ 31 (d := d_Rule___eq__) rfl
  refine ⟨fd, FunD.ok F sc_Rule___eq__ (fun vs H Q E h => ?_) (fun cdv A outer s H vs Q E hr h => ?_), FunD.bindsN F (fun _ _ _ _ _ _ us hl => match us, hl with | [_, _], _ => rfl)⟩
  · obtain ⟨x, v, ns, ls, rfl, _⟩ := h
    rfl
  · obtain ⟨x, v, ns, ls, rfl, hx, vx, h⟩ := h
    have CR : Cls K (He.ga K "Rule") := He.cls_ok (W.fact 83)
    have N1 : NoAttr K (He.ga K "Rule") "_registers" := He.noat_ok (W.fact 84)
    have N2 : NoAttr K (He.ga K "Rule") "_lines" := He.noat_ok (W.fact 85)
    have gR := W.glo 26
    refine ⟨_, PSs.nox (pss_one (ps_ret (pe_and (pe_callB call_isi (by rfl) (W.fre 69) (by decide +kernel) (pa_cons (pv 1) (pa_cons (pe_glob (v := .ref _) (by rfl) (W.glo 26) rfl) pa_nil))) (pe_and (pe_cmpR (op_eqD hr.units) (pe_fld (pv 0) rfl) (pe_fld (pv 1) rfl) (nomark _)) (pe_one (pe_cmpR (op_eqD hr.units) (pe_fld (pv 0) rfl) (pe_fld (pv 1) rfl) (nomark _))))))), ?_⟩
    rcases h with ⟨y, ms, ks, rfl, hy, vy, k⟩ | ⟨ty, ht, hk, k⟩
    · obtain ⟨dx, t, l, p, xs, ex, st, sl, dl⟩ := hx
      obtain ⟨dy, t', l', p', ys, ey, st', sl', dl'⟩ := hy
      refine ⟨_, rfl, _, _, _, _, true, rfl, .own _, cR.ty CR ey, ?_, true, rfl, iteT ?_⟩
      · unfold PySem.W.kitOne
        rw [if_pos (beq_self_eq_true _)]
      · refine ⟨_, rfl, x, _, dx, _, _, rfl, ex, CR, N1, rfl, _, rfl, y, _, dy, _, _, rfl, ey, CR, N1, rfl, .tuple (ns.map .str), .tuple (ms.map .str), .tup st (DtAll.strs ns).dp, .tup st' (DtAll.strs ms).dp, shaped_strs vx.okN.2.1, shaped_strs vy.okN.2.1, _, rfl, ?_⟩
        have e1 := (pl_names ns).eqv (pl_names ms)
        refine ite2 (fun h => ?_) (fun h => ?_)
        · have en := names_inj (e1.mp h)
          refine ⟨_, rfl, x, _, dx, _, _, rfl, ex, CR, N2, rfl, _, rfl, y, _, dy, _, _, rfl, ey, CR, N2, rfl, .tuple (linesD ls), .tuple (linesD ks), .tup sl dl.dp, .tup sl' dl'.dp, lay_lines vx, lay_lines vy, k _ ?_⟩
          rw [(pl_lines ls).eqv (pl_lines ks)]
          exact ⟨fun q => ⟨en, lines_inj q⟩, fun q => by rw [q.2]⟩
        · refine k _ ⟨fun q => (by cases q), fun q => absurd ?_ h⟩
          rw [q.1]
          exact ((pl_names ms).eqv (pl_names ms)).mpr rfl
    · exact ⟨_, rfl, _, _, _, _, false, rfl, .own _, ht, hk, false, rfl, iteF k⟩
end
theorem eqvAll_cns : ∀ a b : List Cn, (PyData.eqvAll (a.map cD) (b.map cD) = true ↔ a = b)
  | [], [] => by
    rw [List.map_nil, PyData.eqvAll]
    simp
  | [], y :: ys => by
    rw [List.map_nil, List.map_cons, PyData.eqvAll]
    simp
  | x :: xs, [] => by
    rw [List.map_nil, List.map_cons, PyData.eqvAll]
    simp
  | x :: xs, y :: ys => by
    rw [List.map_cons, List.map_cons, PyData.eqvAll, Bool.and_eq_true, cD_eqv, decide_eq_true_eq, eqvAll_cns xs ys]
    exact ⟨fun h => by rw [h.1, h.2], fun h => by cases h; exact ⟨rfl, rfl⟩⟩
theorem eqv_tups (x y : List PyData) : PyData.eqv (.tuple x) (.tuple y) = PyData.eqvAll x y := by rw [PyData.eqv]
theorem eqvAll_c (d e : PyData) (x y : List PyData) : PyData.eqvAll (d :: x) (e :: y) = (PyData.eqv d e && PyData.eqvAll x y) := by rw [PyData.eqvAll]
theorem eqvAll_n : PyData.eqvAll [] [] = true := by rw [PyData.eqvAll]
theorem eqv_fsD (s s' : Fs) : PyData.eqv (fsD s) (fsD s') = true ↔ s = s' := by
  obtain ⟨a, b, c, d, e⟩ := s
  obtain ⟨a', b', c', d', e'⟩ := s'
  have h : PyData.eqv (fsD ⟨a, b, c, d, e⟩) (fsD ⟨a', b', c', d', e'⟩) = (PyData.eqvAll (a.map cD) (a'.map cD) && (PyData.eqv (cD b) (cD b') && (PyData.eqv (.str c) (.str c') && (PyData.eqv (cD d) (cD d') && (PyData.eqv (.bool e) (.bool e') && true))))) := by
    show PyData.eqv (.tuple [.tuple (a.map cD), cD b, .str c, cD d, .bool e]) (.tuple [.tuple (a'.map cD), cD b', .str c', cD d', .bool e']) = _
    rw [eqv_tups, eqvAll_c, eqvAll_c, eqvAll_c, eqvAll_c, eqvAll_c, eqvAll_n, eqv_tups]
  rw [h, Bool.and_eq_true, Bool.and_eq_true, Bool.and_eq_true, Bool.and_eq_true, Bool.and_true, eqvAll_cns, cD_eqv, cD_eqv, decide_eq_true_eq, decide_eq_true_eq, (Pl.str c).eqv (.str c'), (Pl.bl e).eqv (.bl e')]
  constructor
  · rintro ⟨rfl, rfl, h3, rfl, h5⟩
    cases h3
    cases h5
    rfl
  · intro h
    cases h
    exact ⟨rfl, rfl, rfl, rfl, rfl⟩
/-- what a mark may say -/
def MarkOk (s : Fs) : Prop := s.mark = "none" ∨ s.mark = "own" ∨ s.mark = "free"
theorem mark_first (n : Nat) : MarkOk (firstS n) := .inl rfl
theorem mark_edited {s : Fs} {c : Cn} (h : MarkOk s) : MarkOk (editedS s c) := by
  unfold editedS
  split
  · exact h
  · split
    · exact .inl rfl
    · exact .inr (.inl rfl)
theorem mark_quest {s : Fs} {new : Cn} {a : Bool} {r : Option Str} (h : MarkOk s) : (questionS s new a r).2.1 = "none" ∨ (questionS s new a r).2.1 = "own" ∨ (questionS s new a r).2.1 = "free" := by
  unfold questionS
  split
  · exact h
  · dsimp only
    split
    · exact .inr (.inr rfl)
    · split
      · exact .inr (.inl rfl)
      · exact h
theorem mark_outcome {f : Str → Nat} {spots : List Nat} {elder : Option Nat} {s : Fs} {new : Cn} {ren : Bool} {l : Ln} {reply : Option Str} {stop : Option Nat} (h : MarkOk s) : MarkOk (outcomeS f spots elder s new ren l reply stop).2 := by
  have q := mark_quest (new := new) (a := l.keep.isSome) (r := reply) h
  unfold outcomeS
  generalize questionS s new l.keep.isSome reply = z at q ⊢
  obtain ⟨w, mark, mine⟩ := z
  have q : mark = "none" ∨ mark = "own" ∨ mark = "free" := q
  dsimp only
  generalize (if mark = "own" then harmS spots (doSteps f (heldOf f s new ren) (match stop with | none => listFor l reply | some n => (listFor l reply).take n)) mine else []) = hm
  have q2 : (if hm = [] then (mark, mine) else (("none" : Str), none)).1 = "none" ∨ (if hm = [] then (mark, mine) else (("none" : Str), none)).1 = "own" ∨ (if hm = [] then (mark, mine) else (("none" : Str), none)).1 = "free" := by
    split
    · exact q
    · exact .inl rfl
  generalize (if hm = [] then (mark, mine) else (("none" : Str), none)) = y at q2 ⊢
  obtain ⟨m2, i2⟩ := y
  have q2 : m2 = "none" ∨ m2 = "own" ∨ m2 = "free" := q2
  cases stop with
  | some n => exact q2
  | none =>
    dsimp only
    show (if m2 = "free" ∨ (m2 = "own" ∧ i2 = new) then (("none" : Str), (none : Cn)) else (m2, i2)).1 = "none" ∨ _
    by_cases e : m2 = "free" ∨ (m2 = "own" ∧ i2 = new)
    · exact .inl (by rw [if_pos e])
    · show (if m2 = "free" ∨ (m2 = "own" ∧ i2 = new) then (("none" : Str), (none : Cn)) else (m2, i2)).1 = "none" ∨ (if m2 = "free" ∨ (m2 = "own" ∧ i2 = new) then (("none" : Str), (none : Cn)) else (m2, i2)).1 = "own" ∨ (if m2 = "free" ∨ (m2 = "own" ∧ i2 = new) then (("none" : Str), (none : Cn)) else (m2, i2)).1 = "free"
      rw [if_neg e]
      exact q2
theorem mark_behind {ns : List Str} {ls : List Ln} {s : Fs} {dd : Deed} (h : MarkOk s) : MarkOk (behindS ns ls s dd).2 := by
  cases dd with
  | edit c => exact mark_edited h
  | come ren c r n => exact mark_outcome h
theorem marks_ok : (["none", "own", "free"] : List Str).all (fun w => PyData.strOk w) = true := by decide +kernel
theorem MarkOk.ok {s : Fs} (h : MarkOk s) : PyData.strOk s.mark = true := by
  rcases h with e | e | e <;> rw [e] <;> exact List.all_eq_true.mp marks_ok _ (by decide +kernel)
theorem cD_lay {n : Nat} {c : Cn} (h : okC c) : Lay n (cD c) := by
  cases c with
  | none => exact .none
  | some t => exact .str (textOk_str (h t rfl).1)
theorem lay_fs {ns : List Str} {s : Fs} (fok : FsOk ns s) (m : MarkOk s) : SeqAt.shaped (fsD s) = true := by
  refine (Lay.tuple (n := 1) fun d z => ?_).shaped (by decide)
  simp only [List.mem_cons, List.not_mem_nil, or_false] at z
  rcases z with rfl | rfl | rfl | rfl | rfl
  · refine Lay.tuple (n := 0) fun d z => ?_
    obtain ⟨c, hc, rfl⟩ := List.mem_map.mp z
    exact cD_lay (fok.cs c hc)
  · exact cD_lay fok.last
  · exact .str m.ok
  · exact cD_lay fok.mine
  · exact .bool _
theorem nf_self (K : PySem.W.Frag) (C : Addr) : PySem.W.notFirst K C (.ref C) = true := by
  unfold PySem.W.notFirst
  rw [beq_self_eq_true]
  rfl
theorem eqR {K : PySem.W.Frag} {H : Hp} {x y : Addr} {ns ms : List Str} {ls ks : List Ln} {Q : VK} (cR : ClsF K "Rule") (CR : Cls K (He.ga K "Rule")) (hx : RuleIs K H x ns ls) (vx : VRule ns ls) (hy : RuleIs K H y ms ks) (vy : VRule ms ks) (q : ∀ b, (b = true ↔ ns = ms ∧ ls = ks) → Q (.bl b) H) : rEqOwn K (He.ga K "Rule") (spRuleEq K) E0 (.ref x) (.ref y) H Q := by
  obtain ⟨dx, _, _, _, _, ex, _⟩ := id hx
  obtain ⟨dy, _, _, _, _, ey, _⟩ := id hy
  exact ⟨x, dx, _, _, rfl, ex, cR.ty CR ey, nf_self K _, x, .ref y, ns, ls, rfl, hx, vx, .inl ⟨y, ms, ks, rfl, hy, vy, fun b hb => ⟨⟨b, rfl⟩, q b hb⟩⟩⟩
/-- File.__eq__ -/
def spFileEqX (K : PySem.W.Frag) : Sp := fun vs H Q _ => ∃ (x : Addr) (v : V) (ns : List Str) (ls : List Ln) (s : Fs), vs = [.ref x, v] ∧ FileIs K H x ns ls s ∧ VRule ns ls ∧ FsOk ns s ∧ MarkOk s ∧
  ((∃ (y : Addr) (ms : List Str) (ks : List Ln) (t : Fs), v = .ref y ∧ FileIs K H y ms ks t ∧ VRule ms ks ∧ FsOk ms t ∧ MarkOk t ∧ ∀ b, (b = true ↔ (ns = ms ∧ ls = ks) ∧ s = t) → Q (.bl b) H) ∨
   (∃ ty, TyX K H v ty ∧ PySem.W.kitOne K ty (.ref (He.ga K "File")) = some false ∧ Q (.bl false) H))
def spFork (K : PySem.W.Frag) : Sp := fun vs H Q _ => ∃ (x : Addr) (ns : List Str) (ls : List Ln) (s : Fs), vs = [.ref x] ∧ FileIs K H x ns ls s ∧ ns.length ≤ 3 ∧ ∀ y H', H y = none → Keep [] H H' → FileIs K H' y ns ls s → Q (.ref y) H'
section
variable {P : Program} {w : World} {K : PySem.W.Frag} {mg : Str → Option Value} {base : Heap}
abbrev s_File___eq__ : Stmt := (inClass (top 22) 9)
abbrev N_File___eq__ : List Str := ["self", "other"]
abbrev P_File___eq__ : List Str := ["self", "other"]
theorem sc_File___eq__ : FnScope N_File___eq__ P_File___eq__ (defScope s_File___eq__) := ⟨rfl, rfl, rfl, by decide +kernel, rfl, by decide +kernel, by decide +kernel⟩
theorem I_FileEq (W : Cw fas fns K mg) (cR : ClsF K "Rule") (cF : ClsF K "File") :
    ∃ fd, FnOk P w K mg base CX0 2 (He.ma K (He.ga K "File") "__eq__") fd ["self", "other"] (spFileEqX K) ∧ Binds K fd ["self", "other"] [] := by
  obtain ⟨fd, F⟩ := W.says.def_ 17 (d := d_File___eq__) rfl
  refine ⟨fd, FunD.ok F sc_File___eq__ (fun vs H Q E h => ?_) (fun cdv A outer s H vs Q E hr h => ?_), FunD.bindsN F (fun _ _ _ _ _ _ us hl => match us, hl with | [_, _], _ => rfl)⟩
  · obtain ⟨x, v, ns, ls, s, rfl, _⟩ := h
    rfl
  · obtain ⟨x, v, ns, ls, fs, rfl, hx, vx, fok, mk, h⟩ := h
    have CR : Cls K (He.ga K "Rule") := He.cls_ok (W.fact 83)
    have CF : Cls K (He.ga K "File") := He.cls_ok (W.fact 97)
    have gF := W.glo 19
    have N1 : NoAttr K (He.ga K "File") "_rule" := He.noat_ok (W.fact 98)
    have N2 : NoAttr K (He.ga K "File") "_state" := He.noat_ok (W.fact 99)
    obtain ⟨fdRq, FRq, bRq⟩ := I_RuleEq (P := P) (w := w) (base := base) W cR
    refine ⟨_, PSs.nox (pss_one (ps_ret (pe_and (pe_callB call_isi (by rfl) (W.fre 69) (by decide +kernel) (pa_cons (pv 1) (pa_cons (pe_glob (v := .ref _) (by rfl) (W.glo 19) rfl) pa_nil))) (pe_and (pe_cmpR (SM.op_eqOwn FRq cR.at_ cR.fn bRq pass0 (hr.mono (by decide))) (pe_fld (pv 0) rfl) (pe_fld (pv 1) rfl) (nomark _)) (pe_one (pe_cmpR (op_eqD hr.units) (pe_fld (pv 0) rfl) (pe_fld (pv 1) rfl) (nomark _))))))), ?_⟩
    rcases h with ⟨y, ms, ks, t, rfl, hy, vy, fokt, mkt, k⟩ | ⟨ty, ht, hk, k⟩
    · obtain ⟨dx, r, vs, ex, hr1, dv⟩ := hx
      obtain ⟨dy, r', vt, ey, hr2, dt⟩ := hy
      refine ⟨_, rfl, _, _, _, _, true, rfl, .own _, cF.ty CF ey, ?_, true, rfl, iteT ?_⟩
      · unfold PySem.W.kitOne
        rw [if_pos (beq_self_eq_true _)]
      · refine ⟨_, rfl, x, _, dx, _, _, rfl, ex, CF, N1, rfl, _, rfl, y, _, dy, _, _, rfl, ey, CF, N1, rfl, eqR cR CR (RuleFull.is_ hr1) vx (RuleFull.is_ hr2) vy fun b hb => ⟨_, rfl, ?_⟩⟩
        refine ite2 (fun h => ?_) (fun h => ?_)
        · refine ⟨_, rfl, x, _, dx, _, _, rfl, ex, CF, N2, rfl, _, rfl, y, _, dy, _, _, rfl, ey, CF, N2, rfl, _, _, dv.dp, dt.dp, lay_fs fok mk, lay_fs fokt mkt, k _ ?_⟩
          rw [eqv_fsD]
          exact ⟨fun q => ⟨hb.mp h, q⟩, fun q => q.2⟩
        · exact k _ ⟨fun q => (by cases q), fun q => absurd (hb.mpr q.1) h⟩
    · exact ⟨_, rfl, _, _, _, _, false, rfl, .own _, ht, hk, false, rfl, iteF k⟩
abbrev s_File_fork : Stmt := (inClass (top 22) 14)
abbrev N_File_fork : List Str := ["self", "other"]
abbrev P_File_fork : List Str := ["self"]
theorem sc_File_fork : FnScope N_File_fork P_File_fork (defScope s_File_fork) := ⟨rfl, rfl, rfl, by decide +kernel, rfl, by decide +kernel, by decide +kernel⟩
theorem I_fork (W : Cw fas fns K mg) (IF : ∃ fd, FnOk P w K mg base CX0 4 (He.ma K (He.ga K "File") "__init__") fd ["self", "rule"] (spFileI K) ∧ Binds K fd ["self", "rule"] []) :
    ∃ fd, FnOk P w K mg base CX0 6 (He.ma K (He.ga K "File") "fork") fd ["self"] (spFork K) ∧ Binds K fd ["self"] [] := by
  obtain ⟨fd, F⟩ := W.says.def_ 22 (d := d_File_fork) rfl
  refine ⟨fd, FunD.ok F sc_File_fork (fun vs H Q E h => ?_) (fun cdv A outer s H vs Q E hr h => ?_), FunD.bindsN F (fun _ _ _ _ _ _ us hl => match us, hl with | [_], _ => rfl)⟩
  · obtain ⟨x, ns, ls, s, rfl, _⟩ := h
    rfl
  · obtain ⟨x, ns, ls, fs, rfl, hx, n3, k⟩ := h
    have CF : Cls K (He.ga K "File") := He.cls_ok (W.fact 97)
    have gF := W.glo 19
    have N1 : NoAttr K (He.ga K "File") "_rule" := He.noat_ok (W.fact 98)
    have N2 : NoAttr K (He.ga K "File") "_state" := He.noat_ok (W.fact 99)
    obtain ⟨fdF, FF, bF⟩ := IF
    have MF : Mk K (He.ga K "File") (He.ma K (He.ga K "File") "__init__") := He.mkr_ok (W.fact 100)
    refine ⟨_, PSs.nox (Evl.pss_cut (ps_set (i := 1) sc_File_fork.nd rfl (by first | exact Or.inl rfl | exact Or.inr rfl) (pe_make MF FF (hr.mono (by decide)) (by rfl) gF bF .nil pass0 (pa_cons (pe_fld (pv 0) rfl) pa_nil))) (Evl.pss_cut (ps_fld (pv 1) (pe_fld (pv 0) rfl) rfl) (pss_one (ps_ret (pv 1))))), ?_⟩
    obtain ⟨dx, r, v, ex, hr1, dv⟩ := id hx
    refine ⟨fun σ' H' => ∃ y, σ' = [some (.ref x), some (.ref y)] ∧ H y = none ∧ Keep [] H H' ∧ FileIs K H' y ns ls (firstS ns.length), ?_, ?_⟩
    · refine rx_asg (show tMake _ _ _ _ (tCons _ tNil) _ _ _ from ⟨_, rfl, x, _, dx, _, _, rfl, ex, CF, N1, rfl, fun y dy ny ndy ne => ?_⟩)
      have ka : Keep [] H (upd H dy (.own y)) := Keep.new ndy
      have kb : Keep [] (upd H dy (.own y)) (upd (upd H dy (.own y)) y (.ins (He.ga K "File") dy [])) := Keep.new (by rw [upd_ne ne.symm]; exact ny)
      have kab := ka.trans kb
      exact ⟨y, dy, r, ns, ls, rfl, upd_same, RuleFull.kf hr1 kab Far.nil, n3, fun H6 k6 hf6 => ⟨rfl, y, rfl, ny, kab.offNew k6 ny, hf6⟩⟩
    rintro σ' H1 ⟨y, rfl, ny, k1, hy⟩
    obtain ⟨dy, r2, v2, ey, hr2, dv2⟩ := id hy
    have ex1 := k1.to ex
    refine ⟨fun σ' H' => σ' = [some (.ref x), some (.ref y)] ∧ Keep [] H H' ∧ FileIs K H' y ns ls fs, ?_, ?_⟩
    · refine ⟨_, rfl, x, _, dx, _, _, rfl, ex1, CF, N2, rfl, _, rfl, y, _, dy, _, rfl, ey, CF, N2, (by show 2 < 1000; decide), ?_⟩
      have kz : Keep [y] H1 (upd H1 y (.ins (He.ga K "File") dy (fileFs r2 v))) := Keep.at_ (by simp)
      have fz : Far [y] H1 := Far.ins ey (by show 2 < 3; decide)
      exact ⟨rfl, k1.offNew kz ny, dy, r2, v, upd_same, RuleFull.kf hr2 kz fz, (dv.k0 k1).keep kz fz.1⟩
    rintro σ' H2 ⟨rfl, k2, hy2⟩
    exact ⟨_, rfl, k y H2 ny k2 hy2⟩
end
end La
set_option Elab.async false
set_option linter.all false
set_option maxRecDepth 100000
set_option maxHeartbeats 4000000
namespace La
open PySem PySem.Spec PyProof.Rows L2 SM
theorem rx_mk {C : Addr} {sp : Sp} {dvs : List V} {E : XK} {t : TA} {σ : L2.St} {H : Hp} {Q : VK} (h : t σ H fun vs H1 => ∀ x dx, H1 x = none → H1 dx = none → dx ≠ x → sp (.ref x :: (vs ++ dvs)) (upd (upd H1 dx (.own x)) x (.ins C dx [])) (fun v H2 => v = .non ∧ Q (.ref x) H2) E) : tMake C sp dvs E t σ H Q := h
theorem PlanOk.lsOk {ns : List Str} {ls : List Ln} (h : PlanOk ns ls) : LsOk ns ls := ⟨h.v.okN.1, h.few.1, Nat.le_trans h.few.2 (by decide), h.good⟩
theorem first_ok {ns : List Str} : FsOk ns (firstS ns.length) := ⟨List.length_replicate, fun c hc => by rw [List.eq_of_mem_replicate hc]; exact okC_none, okC_none, okC_none⟩
/-- the state behind a run of deeds -/
def runS (ns : List Str) (ls : List Ln) (s : Fs) (ds : List Deed) : Fs := ds.foldl (fun s d => (behindS ns ls s d).2) s
theorem runS_snoc {ns : List Str} {ls : List Ln} {s : Fs} {ds : List Deed} {d : Deed} : runS ns ls s (ds ++ [d]) = (behindS ns ls (runS ns ls s ds) d).2 := List.foldl_append ..
/-- deeds that may be done one after another -/
def DeedsOk (ns : List Str) (ls : List Ln) (s : Fs) (ds : List Deed) : Prop := ∀ i d, ds[i]? = some d → DeedOk ns ls (runS ns ls s (ds.take i)) d
theorem DeedsOk.nil {ns : List Str} {ls : List Ln} {s : Fs} : DeedsOk ns ls s [] := fun i d h => by cases h
theorem DeedsOk.snoc {ns : List Str} {ls : List Ln} {s : Fs} {ds : List Deed} {d : Deed} (h : DeedsOk ns ls s ds) (hd : DeedOk ns ls (runS ns ls s ds) d) : DeedsOk ns ls s (ds ++ [d]) := fun i e he => by
  by_cases z : i < ds.length
  · rw [List.getElem?_append_left z] at he
    rw [List.take_append_of_le_length (Nat.le_of_lt z)]
    exact h i e he
  · rw [List.getElem?_append_right (by omega)] at he
    have : i = ds.length := by
      obtain ⟨q, _⟩ := List.getElem?_eq_some_iff.mp he
      rw [List.length_singleton] at q
      omega
    subst this
    rw [Nat.sub_self] at he
    cases he
    rw [List.take_left]
    exact hd
theorem DeedsOk.take {ns : List Str} {ls : List Ln} {s : Fs} {ds : List Deed} (h : DeedsOk ns ls s ds) (n : Nat) : DeedsOk ns ls s (ds.take n) := fun i d hd => by
  rw [List.getElem?_take] at hd
  split at hd
  · have := h i d hd
    rw [List.take_take, Nat.min_eq_left (by omega)]
    exact this
  · cases hd
theorem run_ok {ns : List Str} {ls : List Ln} {s : Fs} (fok : FsOk ns s) (mk : MarkOk s) {ds : List Deed} (h : DeedsOk ns ls s ds) : ∀ n, n ≤ ds.length → FsOk ns (runS ns ls s (ds.take n)) ∧ MarkOk (runS ns ls s (ds.take n))
  | 0, _ => ⟨fok, mk⟩
  | n + 1, hn => by
    obtain ⟨a, b⟩ := run_ok fok mk h n (by omega)
    have e : ds[n]? = some (ds[n]'(by omega)) := List.getElem?_eq_getElem _
    rw [List.take_succ, e, Option.toList_some, runS_snoc]
    exact ⟨behind_ok a (h n _ e), mark_behind b⟩
def spMade (K : PySem.W.Frag) : Sp := fun vs H Q _ => ∃ (v : V) (p : Addr) (us : List V) (ns : List Str) (ls : List Ln) (ds : List Deed), vs = [v, .ref p] ∧ Dt K H v (planD ns ls) ∧ PlanOk ns ls ∧ H p = some (.lst us) ∧ DtAll K H us (ds.map deedD) ∧ DeedsOk ns ls (firstS ns.length) ds ∧
  ∀ x H', H x = none → Keep [] H H' → FileIs K H' x ns ls (runS ns ls (firstS ns.length) ds) → Q (.ref x) H'
section
variable {P : Program} {w : World} {K : PySem.W.Frag} {mg : Str → Option Value} {base : Heap}
abbrev s__law_made : Stmt := (top 67)
abbrev N__law_made : List Str := ["plan", "deeds", "file", "deed"]
abbrev P__law_made : List Str := ["plan", "deeds"]
theorem sc__law_made : FnScope N__law_made P__law_made (defScope s__law_made) := ⟨rfl, rfl, rfl, by decide +kernel, rfl, by decide +kernel, by decide +kernel⟩
theorem D_law_made (W : Cw fas fns K mg) (D_law_rule : DefOk P w K mg base CX0 7 "_law_rule" P__law_rule (spRuleOf K)) (D_law_told : DefOk P w K mg base CX0 6 "_law_told" P__law_told (spTold K))
    (IF : ∃ fd, FnOk P w K mg base CX0 4 (He.ma K (He.ga K "File") "__init__") fd ["self", "rule"] (spFileI K) ∧ Binds K fd ["self", "rule"] []) : DefOk P w K mg base CX0 8 "_law_made" P__law_made (spMade K) := by
  refine DefOk.of W 64 59 (st := s__law_made) rfl rfl sc__law_made (fun _ _ _ _ _ _ us hl => match us, hl with | [_, _], _ => rfl) (fun vs H Q E h => ?_) (fun cdv A outer s H vs Q E hr h => ?_)
  · obtain ⟨v, p, us, ns, ls, ds, rfl, _⟩ := h
    rfl
  · obtain ⟨v, p, us, ns, ls, ds, rfl, dp, ok, ep, dus, dks, k⟩ := h
    have gF := W.glo 19
    obtain ⟨fdF, FF, bF⟩ := IF
    have MF : Mk K (He.ga K "File") (He.ma K (He.ga K "File") "__init__") := He.mkr_ok (W.fact 100)
    have nm := PlanOk.nmOk ok
    have lok := PlanOk.lsOk ok
    refine ⟨_, PSs.nox (Evl.pss_cut (ps_set (i := 2) sc__law_made.nd rfl (by first | exact Or.inl rfl | exact Or.inr rfl) (pe_make MF FF (hr.mono (by decide)) (by rfl) gF bF .nil pass0 (pa_cons (SM.pe_callD D_law_rule (hr.mono (by decide)) pass0 (pa_cons (pv 0) pa_nil)) pa_nil))) (Evl.pss_cut (ps_for PassesOwn.never rfl (pi_list (pv 1)) (pg_name (i := 3) sc__law_made.nd rfl (by first | exact Or.inl rfl | exact Or.inr rfl)) (pss_one (ps_expr (SM.pe_callD D_law_told (hr.mono (by decide)) pass0 (pa_cons (pv 2) (pa_cons (pv 3) pa_nil)))))) (pss_one (ps_ret (pv 2))))), ?_⟩
    refine ⟨fun σ' H' => ∃ x, σ' = [some v, some (.ref p), some (.ref x), none] ∧ H x = none ∧ Keep [] H H' ∧ FileIs K H' x ns ls (firstS ns.length), ?_, ?_⟩
    · refine rx_asg (rx_mk (rx_cons (rx_call ⟨_, rfl, _, ns, ls, rfl, dp, ok.v, fun r H5 k5 nr hr5 => ?_⟩)))
      show ∀ x dx, _
      intro x dx nx1 ndx ne
      have ka : Keep [] H5 (upd H5 dx (.own x)) := Keep.new ndx
      have kb : Keep [] (upd H5 dx (.own x)) (upd (upd H5 dx (.own x)) x (.ins (He.ga K "File") dx [])) := Keep.new (by rw [upd_ne ne.symm]; exact nx1)
      have kab := ka.trans kb
      refine ⟨x, dx, r, ns, ls, rfl, upd_same, RuleFull.kf hr5 kab Far.nil, nm.n3, fun H6 k6 hf6 => ⟨rfl, x, rfl, k5.free (by simp) nx1, k5.trans (kab.offNew k6 nx1), hf6⟩⟩
    rintro σ' H1 ⟨x, rfl, nx, k1, hx⟩
    refine ⟨fun σ' H' => ∃ x3, σ' = [some v, some (.ref p), some (.ref x), x3] ∧ Keep [] H H' ∧ FileIs K H' x ns ls (runS ns ls (firstS ns.length) ds), ?_, ?_⟩
    · refine ⟨_, rfl, p, rfl, ⟨_, SqL.of (k1.to ep)⟩, for_list (K := K) (a := p) (xs := us) (fun i σ' H' => ∃ x3, σ' = [some v, some (.ref p), some (.ref x), x3] ∧ Keep [] H H' ∧ FileIs K H' x ns ls (runS ns ls (firstS ns.length) (ds.take i))) ⟨none, rfl, k1, hx⟩ (fun i σ H' _ z => by obtain ⟨_, _, kk, _⟩ := z; exact SqL.of (kk.to ep)) ?_ ?_⟩
      · rintro i u σ H2 hu ⟨x3, rfl, k2, hx2⟩
        have lus := dus.length
        rw [List.length_map] at lus
        have hi : i < ds.length := by
          have := (List.getElem?_eq_some_iff.mp hu).1
          omega
        have ed : ds[i]? = some ds[i] := List.getElem?_eq_getElem hi
        obtain ⟨u', hu', du⟩ := dus.getD (i := i) (d := deedD ds[i]) (by rw [List.getElem?_map, ed]; rfl)
        rw [hu] at hu'
        cases hu'
        obtain ⟨fok, mk⟩ := run_ok first_ok (mark_first _) dks i (Nat.le_of_lt hi)
        refine ⟨_, rfl, _, rfl, x, u, ns, ls, _, ds[i], rfl, hx2, fok, nm, lok, du.k0 k2, dks i _ ed, fun pt H' npt k' ept hf' => ?_⟩
        rw [List.take_succ, ed, Option.toList_some, runS_snoc]
        exact ⟨_, rfl, k2.offNew k' nx, hf'⟩
      · rintro σ' H2 ⟨x3, rfl, k2, hx2⟩
        rw [dus.length, List.length_map, List.take_length] at hx2
        exact ⟨_, rfl, k2, hx2⟩
    rintro σ' H2 ⟨x3, rfl, k2, hx2⟩
    exact ⟨_, rfl, k x H2 nx k2 hx2⟩
end
end La
set_option Elab.async false
set_option linter.all false
set_option maxRecDepth 100000
set_option maxHeartbeats 4000000
namespace La
open PySem PySem.Spec PyProof.Rows L2 SM
/-! ### other texts in the places of texts -/
theorem heldOf_all {P : Cn → Prop} {f : Str → Nat} {s : Fs} {new : Cn} {ren : Bool} (h : ∀ c ∈ s.cs, P c) (hn : P new) (h0 : P none) : ∀ c ∈ heldOf f s new ren, P c := by
  have b : ∀ c ∈ s.cs ++ [new, none], P c := fun c hc => by
    rcases List.mem_append.mp hc with z | z
    · exact h c z
    · simp only [List.mem_cons, List.not_mem_nil, or_false] at z
      rcases z with rfl | rfl
      · exact hn
      · exact h0
  have a0 : P (atC s.cs 0) := by
    rw [atC]
    cases e : s.cs[0]? with
    | none => exact h0
    | some c => exact h c (List.mem_of_getElem? e)
  unfold heldOf
  split
  · intro c hc
    rcases List.mem_or_eq_of_mem_set hc with z | rfl
    · rcases List.mem_or_eq_of_mem_set z with z | rfl
      · exact b c z
      · exact a0
    · exact h0
  · exact b
theorem atC_all {P : Cn → Prop} {h : List Cn} (ok : ∀ c ∈ h, P c) (h0 : P none) (i : Nat) : P (atC h i) := by
  rw [atC]
  cases e : h[i]? with
  | none => exact h0
  | some c => exact ok c (List.mem_of_getElem? e)
theorem doSteps_all {P : Cn → Prop} {f : Str → Nat} (h0 : P none) : ∀ {ss : List (Str × Str)} {h : List Cn}, (∀ c ∈ h, P c) → ∀ c ∈ doSteps f h ss, P c
  | [], _, ok => ok
  | s :: ss, h, ok => by
    rw [doSteps, List.foldl_cons]
    refine doSteps_all h0 (ss := ss) fun c hc => ?_
    rcases List.mem_or_eq_of_mem_set hc with z | rfl
    · exact ok c z
    · exact atC_all ok h0 _
/-- all contents of a state -/
structure AllC (P : Cn → Prop) (s : Fs) : Prop where
  cs : ∀ c ∈ s.cs, P c
  last : P s.last
  mine : P s.mine
theorem quest_all {P : Cn → Prop} {s : Fs} {new : Cn} {a : Bool} {r : Option Str} (h0 : P none) (h : AllC P s) : P (questionS s new a r).2.2 := by
  unfold questionS
  split
  · exact h.mine
  · show P (if _ then (_, _, _) else if _ then (_, _, _) else (_, _, _) : List Str × Str × Cn).2.2
    split
    · exact h0
    · split
      · exact atC_all h.cs h0 0
      · exact h.mine
theorem edited_all {P : Cn → Prop} {s : Fs} {c : Cn} (h0 : P none) (h : AllC P s) (hc : P c) : AllC P (editedS s c) := by
  have cs : ∀ z ∈ s.cs.set 0 c, P z := fun z hz => by
    rcases List.mem_or_eq_of_mem_set hz with q | q
    · exact h.cs z q
    · rw [q]
      exact hc
  unfold editedS
  split
  · exact h
  · split
    · exact ⟨cs, h.last, h0⟩
    · exact ⟨cs, h.last, hc⟩
theorem brought_all {P : Cn → Prop} {ns : List Str} {ls : List Ln} {s : Fs} {c : Cn} {ren : Bool} {reply : Option Str} {n : Option Nat} (h0 : P none) (len : s.cs.length = ns.length + 1) (h : AllC P s) (hc : P c) : AllC P (brought ns ls s c ren reply n).2 := by
  have m : AllC P (midS ns s c ren (lineOf ns ls s c ren) reply n) := ⟨fun z hz => doSteps_all h0 (heldOf_all h.cs hc h0) z (List.mem_of_mem_take hz), h.last, quest_all h0 h⟩
  have hh : AllC P (harmed ns (midS ns s c ren (lineOf ns ls s c ren) reply n)) := by
    unfold harmed
    split
    · exact m
    · exact ⟨m.cs, m.last, h0⟩
  rw [brought, outcome_law len]
  cases n with
  | some k => exact ⟨hh.cs, hh.last, hh.mine⟩
  | none =>
    refine ⟨hh.cs, hc, ?_⟩
    show P (endMark _ c).2
    unfold endMark
    split
    · exact h0
    · exact hh.mine
theorem AllC.mono {P P' : Cn → Prop} {s : Fs} (h : AllC P s) (i : ∀ c, P c → P' c) : AllC P' s := ⟨fun c hc => i c (h.cs c hc), i _ h.last, i _ h.mine⟩
theorem behind_all {P : Cn → Prop} {ns : List Str} {ls : List Ln} {s : Fs} {dd : Deed} (h0 : P none) (len : s.cs.length = ns.length + 1) (h : AllC P s) (hc : P (deedC dd)) : AllC P (behindS ns ls s dd).2 := by
  cases dd with
  | edit c => exact edited_all h0 h hc
  | come ren c r n => exact brought_all h0 len h hc
theorem run_all {P : Cn → Prop} {ns : List Str} {ls : List Ln} {s : Fs} (h0 : P none) (fok : FsOk ns s) (h : AllC P s) {ds : List Deed} (ok : DeedsOk ns ls s ds) (hd : ∀ d ∈ ds, P (deedC d)) (mk : MarkOk s) : ∀ n, n ≤ ds.length → AllC P (runS ns ls s (ds.take n))
  | 0, _ => h
  | n + 1, hn => by
    have a := run_all h0 fok h ok hd mk n (by omega)
    have e : ds[n]? = some (ds[n]'(by omega)) := List.getElem?_eq_getElem _
    rw [List.take_succ, e, Option.toList_some, runS_snoc]
    exact behind_all h0 (run_ok fok mk ok n (by omega)).1.len a (hd _ (List.mem_of_getElem? e))
end La
set_option Elab.async false
set_option linter.all false
set_option maxRecDepth 100000
set_option maxHeartbeats 4000000
namespace La
open PySem PySem.Spec PyProof.Rows L2 SM
theorem lay_plan {ns : List Str} {ls : List Ln} (v : VRule ns ls) : SeqAt.shaped (planD ns ls) = true := by
  refine (Lay.tuple (n := 4) fun d z => ?_).shaped (by decide)
  rcases List.mem_cons.mp z with rfl | z
  · refine (Lay.tuple (n := 0) fun d z => ?_).mono (by decide)
    obtain ⟨s, hs, rfl⟩ := List.mem_map.mp z
    exact .str (v.okN.2.1 s hs)
  · rw [List.mem_singleton.mp z]
    refine Lay.tuple (n := 3) fun d z => ?_
    obtain ⟨l, hl, rfl⟩ := List.mem_map.mp z
    exact (v.good l hl).lay (n := 0) v.okN.2.1
theorem rx_here {s : Fs} {Q : VK} {H : Hp} (h : Q (cV (atC s.cs 0)) H) : qHere s Q H := h
theorem LtH.lastOf {K : PySem.W.Frag} {σ : L2.St} {H : Hp} {ta : TE} {tn : TO} {ds : List PyData} (h : LtH K ta σ H (.tuple ds)) (l1 : 1 ≤ ds.length) (hn : ∀ H1 (Q : Option Int → Hp → Prop), Q (some (-1)) H1 → tn σ H1 Q) : LtH K (tSl (SM.rSlA K) ta tn tNoPart) σ H (.tuple (ds.drop (ds.length - 1))) := by
  intro H1 k1 Q k
  refine h H1 k1 _ fun v H2 k2 d2 => ?_
  refine hn H2 _ ?_
  obtain ⟨a, xs, rfl, ha, da⟩ := d2.items
  have lx := da.length
  by_cases hw : HT.sIx xs.length 0 (some (-1)) = 0 ∧ HT.sIx xs.length xs.length none = xs.length
  · refine .inr ⟨a, xs, rfl, ha, hw, ?_⟩
    have e := hw.1
    rw [sIx_m1 _ _ (by omega), lx] at e
    rw [e, List.drop_zero] at k
    exact k _ _ k2 d2
  · refine .inl ⟨a, xs, rfl, ha, hw, fun p hp => ?_⟩
    have e : cutV xs (some (-1)) none = xs.drop (ds.length - 1) := by
      unfold cutV
      rw [sIx_m1 _ _ (by omega), HT.sIx_none, List.take_of_length_le (by rw [List.length_drop]; exact Nat.le_refl _), lx]
    refine k _ _ (k2.trans (Keep.new hp)) (.tup (SqT.of upd_same) ?_)
    rw [e]
    exact (da.drop (ds.length - 1)).k0 (Keep.new hp)
theorem ruleM_ok {K : PySem.W.Frag} (h : exB K = true) : ClsF K "Rule" ∧ ClsF K "File" ∧ PySem.W.findIn K (.ref (He.ga K "File")) "__ne__" = some (some (.builtin "object.__ne__")) ∧
    PySem.W.kitOne K (.ref (He.ga K "Rule")) (.ref (He.ga K "File")) = some false ∧ PySem.W.notFirst K (He.ga K "File") (.ref (He.ga K "Rule")) = true := by
  obtain ⟨_, h⟩ := He.ba (show (exA0 K && exM7 K) = true from h)
  obtain ⟨h, hf⟩ := He.ba (show (exM K && fileM K) = true from h)
  obtain ⟨h1, h2⟩ := He.ba (show ((_ && _) && (((_ && _) && (_ && _)) && ruleM K)) = true from h)
  obtain ⟨a, b⟩ := He.ba h1
  obtain ⟨c, d⟩ := He.ba h2
  obtain ⟨e, f⟩ := He.ba c
  obtain ⟨e1, e2⟩ := He.ba e
  obtain ⟨f1, f2⟩ := He.ba f
  exact ⟨.of a, .of b, He.eqO_ok hf, eq_of_beq e2, f2⟩
section
variable {K : PySem.W.Frag} {H : Hp} {x y : Addr} {ns ms : List Str} {ls ks : List Ln} {s t : Fs} {Q : VK}
/-- two files compared -/
theorem eqF (cF : ClsF K "File") (CF : Cls K (He.ga K "File")) (hx : FileIs K H x ns ls s) (vx : VRule ns ls) (fx : FsOk ns s) (mx : MarkOk s) (hy : FileIs K H y ms ks t) (vy : VRule ms ks) (fy : FsOk ms t) (my : MarkOk t) (q : ∀ b, (b = true ↔ (ns = ms ∧ ls = ks) ∧ s = t) → Q (.bl b) H) : rEqOwn K (He.ga K "File") (spFileEqX K) E0 (.ref x) (.ref y) H Q := by
  obtain ⟨dx, _, _, ex, _⟩ := id hx
  obtain ⟨dy, _, _, ey, _⟩ := id hy
  exact ⟨x, dx, _, _, rfl, ex, cF.ty CF ey, nf_self K _, x, .ref y, ns, ls, s, rfl, hx, vx, fx, mx, .inl ⟨y, ms, ks, t, rfl, hy, vy, fy, my, fun b hb => ⟨⟨b, rfl⟩, q b hb⟩⟩⟩
theorem neF (cF : ClsF K "File") (CF : Cls K (He.ga K "File")) (hx : FileIs K H x ns ls s) (vx : VRule ns ls) (fx : FsOk ns s) (mx : MarkOk s) (hy : FileIs K H y ms ks t) (vy : VRule ms ks) (fy : FsOk ms t) (my : MarkOk t) (q : ∀ b, (b = true ↔ (ns = ms ∧ ls = ks) ∧ s = t) → Q (.bl (!b)) H) : rNeOwn K (He.ga K "File") (spFileEqX K) E0 (.ref x) (.ref y) H Q := by
  obtain ⟨dx, _, _, ex, _⟩ := id hx
  obtain ⟨dy, _, _, ey, _⟩ := id hy
  exact ⟨x, dx, _, _, rfl, ex, cF.ty CF ey, nf_self K _, x, .ref y, ns, ls, s, rfl, hx, vx, fx, mx, .inl ⟨y, ms, ks, t, rfl, hy, vy, fy, my, fun b hb => ⟨b, rfl, q b hb⟩⟩⟩
/-- what is no file -/
def NoFile (K : PySem.W.Frag) (H : Hp) (v : V) : Prop := ∃ ty, TyX K H v ty ∧ PySem.W.kitOne K ty (.ref (He.ga K "File")) = some false ∧ PySem.W.notFirst K (He.ga K "File") ty = true
theorem eqNo (hx : FileIs K H x ns ls s) (vx : VRule ns ls) (fx : FsOk ns s) (mx : MarkOk s) {v : V} (h : NoFile K H v) (q : Q (.bl false) H) : rEqOwn K (He.ga K "File") (spFileEqX K) E0 (.ref x) v H Q := by
  obtain ⟨dx, _, _, ex, _⟩ := id hx
  obtain ⟨ty, h1, h2, h3⟩ := h
  exact ⟨x, dx, _, _, rfl, ex, h1, h3, x, v, ns, ls, s, rfl, hx, vx, fx, mx, .inr ⟨ty, h1, h2, ⟨_, rfl⟩, q⟩⟩
end
def firstLn : Ln := ⟨[("here", "here", false)], [], none⟩
theorem vrule_two {ns : List Str} {ls : List Ln} {e : Ln} (v : VRule ns ls) (he : GoodL ns e) (te : e.tests = []) : VRule ns [firstLn, e] := by
  refine ⟨v.regs, ⟨by show 1 ≤ 2; decide, by show 2 ≤ 8; decide⟩, fun z hz => ?_, fun z hz => ?_⟩
  · simp only [List.mem_cons, List.not_mem_nil, or_false] at hz
    rcases hz with rfl | rfl
    · refine ⟨⟨by show 1 ≤ 4; decide, fun t ht => ?_⟩, ⟨by show 0 ≤ 4; decide, fun s hs => by cases hs⟩, fun k hk => by cases hk⟩
      rw [List.mem_singleton.mp ht]
      exact ⟨.inl rfl, .inr (.inl rfl)⟩
    · exact he
  · cases hz
    exact te
theorem no_strange (n : Nat) : editedS (firstS n) (some "strange") = ⟨(List.replicate (n + 1) none).set 0 (some "strange"), none, "own", some "strange", false⟩ := by
  unfold editedS
  rw [if_neg (by
    show ¬ some ("strange" : Str) = atC (List.replicate (n + 1) none) 0
    rw [atC_rep]
    exact fun z => by cases z), if_neg (show ¬ some ("strange" : Str) = (firstS n).last from fun z => by cases z)]
  rfl
theorem strange_ok : okC (some "strange") := fun t e => by
  cases e
  exact ⟨by decide +kernel, by decide +kernel⟩
def spUnlike (K : PySem.W.Frag) : Sp := fun vs H Q _ => ∃ (a x : Addr) (v : V) (ns : List Str) (ls : List Ln) (s : Fs), vs = [.ref a, v, .ref x] ∧ Src H a ∧ Dt K H v (planD ns ls) ∧ PlanOk ns ls ∧ FileIs K H x ns ls s ∧ FsOk ns s ∧ MarkOk s ∧ s.mine ≠ some ("strange" : Str) ∧
  ∀ H', Keep [a] H H' → Src H' a → Q (.bl true) H'
section
variable {P : Program} {w : World} {K : PySem.W.Frag} {mg : Str → Option Value} {base : Heap}
abbrev s__law_unlike : Stmt := (top 68)
abbrev N__law_unlike : List Str := ["source", "plan", "file", "second", "strange", "fresh", "lines", "things", "thing", "is_same"]
abbrev P__law_unlike : List Str := ["source", "plan", "file"]
theorem sc__law_unlike : FnScope N__law_unlike P__law_unlike (defScope s__law_unlike) := ⟨rfl, rfl, rfl, by decide +kernel, rfl, by decide +kernel, by decide +kernel⟩
theorem D_law_unlike (W : Cw fas fns K mg) (hx0 : exB K = true) (PHe : PropAt K q_File_here) (D_law_plan : DefOk P w K mg base CX0 4 "_law_plan" P__law_plan (spPlan K)) (D_law_rule : DefOk P w K mg base CX0 7 "_law_rule" P__law_rule (spRuleOf K))
    (IR : ∃ fd, FnOk P w K mg base (CX P w) 5 (He.ma K (He.ga K "Rule") "__init__") fd ["self", "registers", "lines"] (spMakeRule K) ∧ Binds K fd ["self", "registers", "lines"] [])
    (IE : ∃ fd, FnOk P w K mg base CX0 3 (He.ma K (He.ga K "File") "edit") fd ["self", "content"] (spEdit K) ∧ Binds K fd ["self", "content"] [])
    (IF : ∃ fd, FnOk P w K mg base CX0 4 (He.ma K (He.ga K "File") "__init__") fd ["self", "rule"] (spFileI K) ∧ Binds K fd ["self", "rule"] []) : DefOk P w K mg base CX0 8 "_law_unlike" P__law_unlike (spUnlike K) := by
  refine DefOk.of W 65 60 (st := s__law_unlike) rfl rfl sc__law_unlike (fun _ _ _ _ _ _ us hl => match us, hl with | [_, _, _], _ => rfl) (fun vs H Q E h => ?_) (fun cdv A outer s H vs Q E hr h => ?_)
  · obtain ⟨a, x, v, ns, ls, s, rfl, _⟩ := h
    rfl
  · obtain ⟨a, x, v, ns, ls, fs, rfl, sr, dp, ok, hx, fok, mk, nst, k⟩ := h
    obtain ⟨cR, cF, cNe, kRF, nFR⟩ := ruleM_ok hx0
    obtain ⟨fdR, FR, bR⟩ := IR
    obtain ⟨fdF, FF, bF⟩ := IF
    obtain ⟨fdE, FE, bE⟩ := IE
    obtain ⟨fdHe, FHe, bHe⟩ := I_here (P := P) (w := w) (base := base) PHe W
    obtain ⟨fdFq, FFq, bFq⟩ := I_FileEq (P := P) (w := w) (base := base) W cR cF
    have ME := He.meth_ok (W.fact 101)
    have MR : Mk K (He.ga K "Rule") (He.ma K (He.ga K "Rule") "__init__") := He.mkr_ok (W.fact 87)
    have gR := W.glo 26
    have MF : Mk K (He.ga K "File") (He.ma K (He.ga K "File") "__init__") := He.mkr_ok (W.fact 100)
    have gF := W.glo 19
    have CR : Cls K (He.ga K "Rule") := He.cls_ok (W.fact 83)
    have CF : Cls K (He.ga K "File") := He.cls_ok (W.fact 97)
    refine ⟨_, PSs.nox (Evl.pss_cut (ps_set (i := 3) sc__law_unlike.nd rfl (by first | exact Or.inl rfl | exact Or.inr rfl) (SM.pe_callD D_law_plan (hr.mono (by decide)) pass0 (pa_cons (pv 0) pa_nil))) (Evl.pss_cut (ps_par (i := 4) (j := 5) (by rfl) sc__law_unlike.nd rfl rfl (by decide) rfl rfl (pa_cons (pe_make MF FF (hr.mono (by decide)) (by rfl) gF bF .nil pass0 (pa_cons (SM.pe_callD D_law_rule (hr.mono (by decide)) pass0 (pa_cons (pv 3) pa_nil)) pa_nil)) (pa_cons (pe_make MF FF (hr.mono (by decide)) (by rfl) gF bF .nil pass0 (pa_cons (SM.pe_callD D_law_rule (hr.mono (by decide)) pass0 (pa_cons (pv 3) pa_nil)) pa_nil)) pa_nil)) (by rfl)) (Evl.pss_cut (ps_expr (pe_meth (pv 4) CF ME FE (hr.mono (by decide)) bE .nil pass0 (pa_cons pe_str pa_nil))) (Evl.pss_cut (ps_if (PW.pt (pw_or (pt_cmpR (SM.op_eqOwn FFq cF.at_ cF.fn bFq pass0 (hr.mono (by decide))) (pv 2) (pv 4) (nomark _)) (pw_or1 (PW.pt (pw_and (pt_cmpR (op_neD hr.units) (pv 3) (pv 1) (nomark _)) (pw_and1 (pt_cmpR (SM.op_eqOwn FFq cF.at_ cF.fn bFq pass0 (hr.mono (by decide))) (pv 5) (pv 2) (nomark _)))))))) (pss_one (ps_ret pe_bl)) pss_nil) (Evl.pss_cut (ps_set (i := 6) sc__law_unlike.nd rfl (by first | exact Or.inl rfl | exact Or.inr rfl) (pe_op op_catA (pe_tup (pa_cons (pe_tup (pa_cons (pe_tup (pa_cons (pe_tup (pa_cons pe_str (pa_cons pe_str (pa_cons pe_bl pa_nil)))) pa_nil)) (pa_cons (pe_tup pa_nil) pa_nil))) pa_nil)) (pe_slice SM.sl_tupA (pe_ix ix_seq (pv 1) pe_int (fun _ _ => rfl)) (po_some (pe_un un_neg pe_int)) po_none))) (Evl.pss_cut (ps_setLc (i := 7) (own := [("thing", 8)]) (g := gName 8) (tt := tTest (tOp (SM.rEqOwn K (He.ga K "File") (spFileEqX K) E0) (tVar 2) (tVar 8))) (by rfl) sc__law_unlike.nd rfl rfl (sw_true rfl rfl rfl (by decide +kernel)) (pi_list (pe_lst (pa_cons pe_non (pa_cons pe_str (pa_cons (pe_prop (pv 2) CF PHe.of FHe (hr.mono (by decide)) bHe .nil pass0 rfl) (pa_cons pe_dnewK (pa_cons (SM.pe_callD D_law_rule (hr.mono (by decide)) pass0 (pa_cons (pv 1) pa_nil)) (pa_cons pe_int (pa_cons (pe_tup pa_nil) pa_nil))))))))) (blkOk_by (own := [("thing", 8)]) (N := N__law_unlike) (sc := defScope s__law_unlike) (by decide +kernel)) (fun _ _ _ _ _ => pg_name (i := 8) sc__law_unlike.nd rfl (Or.inl rfl)) (fun _ _ _ _ _ => pts_one (pt_cmpR (SM.op_eqOwn FFq cF.at_ cF.fn bFq pass0 (hr.mono (by decide))) (pv 2) (pv 8) (nomark _))) (fun _ _ _ _ _ => (pv 8))) (Evl.pss_cut (ps_set (i := 9) sc__law_unlike.nd rfl (by first | exact Or.inl rfl | exact Or.inr rfl) (pe_cmpR (op_eqD hr.units) (pv 6) (pe_ix ix_seq (pv 1) pe_int (fun _ _ => rfl)) (nomark _))) (pss_one (ps_ret (pe_and (pe_cmpR (op_eqD hr.units) (pv 7) (pe_lst pa_nil) (nomark _)) (pe_one (pe_cmpR op_eq (pe_cmpR (SM.op_eqOwn FFq cF.at_ cF.fn bFq pass0 (hr.mono (by decide))) (pe_make MF FF (hr.mono (by decide)) (by rfl) gF bF .nil pass0 (pa_cons (SM.pe_callD D_law_rule (hr.mono (by decide)) pass0 (pa_cons (pv 1) pa_nil)) pa_nil)) (pe_make MF FF (hr.mono (by decide)) (by rfl) gF bF .nil pass0 (pa_cons (pe_make MR FR (hr.mono (by decide)) (by rfl) gR bR .nil (passes_call (W := fun _ _ _ _ => False) (E := E0) takes0 (fun _ _ _ _ h => h)) (pa_cons (pe_ix ix_seq (pv 1) pe_int (fun _ _ => rfl)) (pa_cons (pv 6) pa_nil))) pa_nil)) (nomark _)) (pv 9) (nomark _))))))))))))), ?_⟩
    let τ : Option V → Option V → Option V → Option V → Option V → Option V → Option V → L2.St := fun x3 x4 x5 x6 x7 x8 x9 => [some (.ref a), some v, some (.ref x), x3, x4, x5, x6, x7, x8, x9]
    have nm := PlanOk.nmOk ok
    -- second
    refine ⟨fun σ' H' => ∃ v2 ms ks, σ' = τ (some v2) none none none none none none ∧ Keep [a] H H' ∧ Src H' a ∧ Dt K H' v2 (planD ms ks) ∧ PlanOk ms ks, ?_, ?_⟩
    · exact ⟨_, rfl, a, rfl, sr, fun v2 H' ms ks kp sp d ok2 => ⟨v2, ms, ks, rfl, kp, sp, d, ok2⟩⟩
    rintro σ' H1 ⟨v2, ms, ks, rfl, k1, sr1, d2, ok2⟩
    have nxa : x ∉ [a] := fun z => by
      obtain ⟨dx, r, v', hx', _⟩ := hx
      obtain ⟨u1, u2, e, _⟩ := sr
      rw [List.mem_singleton.mp z, e] at hx'
      cases hx'
    have hx1 := FileIs.keep hx k1 nxa (Far.src sr)
    have dp1 := dp.keep k1 sr.soft
    have nm2 := PlanOk.nmOk ok2
    -- strange, fresh
    have newF : ∀ {i : Nat} {vv : V} {ps : List Str} {qs : List Ln} {σ : L2.St} {H0 : Hp} {Q' : VK}, σ[i]? = some (some vv) → Dt K H0 vv (planD ps qs) → PlanOk ps qs → (∀ z H', H0 z = none → Keep [] H0 H' → FileIs K H' z ps qs (firstS ps.length) → Q' (.ref z) H') →
        tMake (He.ga K "File") (spFileI K) [] E0 (tCons (tCall (spRuleOf K) [] E0 (tCons (tVar i) tNil)) tNil) σ H0 Q' := fun {i vv ps qs σ H0 Q'} ei dv okp q => by
      refine rx_mk (rx_cons (rx_call ⟨_, ei, _, ps, qs, rfl, dv, okp.v, fun r H5 k5 nr hr5 => ?_⟩))
      show ∀ x dx, _
      intro z dz nz ndz ne
      have ka : Keep [] H5 (upd H5 dz (.own z)) := Keep.new ndz
      have kb : Keep [] (upd H5 dz (.own z)) (upd (upd H5 dz (.own z)) z (.ins (He.ga K "File") dz [])) := Keep.new (by rw [upd_ne ne.symm]; exact nz)
      have kab := ka.trans kb
      exact ⟨z, dz, r, ps, qs, rfl, upd_same, RuleFull.kf hr5 kab Far.nil, (PlanOk.nmOk okp).n3, fun H6 k6 hf6 => ⟨rfl, q z H6 (k5.free (by simp) nz) (k5.trans (kab.offNew k6 nz)) hf6⟩⟩
    refine ⟨fun σ' H' => ∃ y z, σ' = τ (some v2) (some (.ref y)) (some (.ref z)) none none none none ∧ y ≠ z ∧ Keep [] H1 H' ∧ H1 y = none ∧ FileIs K H' y ms ks (firstS ms.length) ∧ FileIs K H' z ms ks (firstS ms.length), ?_, ?_⟩
    · refine rx_cons (newF (i := 3) (vv := v2) (σ := τ (some v2) none none none none none none) rfl d2 ok2 fun y H2 ny k2 hy2 => rx_cons (newF (i := 3) (vv := v2) (σ := τ (some v2) none none none none none none) rfl (d2.k0 k2) ok2 fun z H3 nz k3 hz3 => ?_))
      have yz : y ≠ z := fun e => by
        obtain ⟨dx, r, v', hx', _⟩ := hy2
        rw [e, nz] at hx'
        cases hx'
      exact ⟨_, _, rfl, y, z, rfl, yz, k2.trans k3, ny, FileIs.k0 hy2 k3, hz3⟩
    rintro σ' H2 ⟨y, z, rfl, yz, k2, ny1, hy2, hz2⟩
    -- strange.edit
    refine ⟨fun σ' H' => σ' = τ (some v2) (some (.ref y)) (some (.ref z)) none none none none ∧ Keep [] H1 H' ∧ FileIs K H' y ms ks (editedS (firstS ms.length) (some "strange")) ∧ FileIs K H' z ms ks (firstS ms.length), ?_, ?_⟩
    · obtain ⟨dy, r, vv, ey, _⟩ := id hy2
      refine ⟨_, rfl, y, dy, _, rfl, ey, rfl, y, some ("strange" : Str), ms, ks, _, rfl, hy2, first_ok, nm2.n3, strange_ok, rfl, fun H' k' hf' => ?_⟩
      exact ⟨rfl, k2.offNew k' ny1, hf', FileIs.keep hz2 k' (by simpa using yz.symm) (FileIs.far hy2)⟩
    rintro σ' H3 ⟨rfl, k3, hy3, hz3⟩
    have hx3 := FileIs.k0 hx1 k3
    have fokY : FsOk ms (editedS (firstS ms.length) (some "strange")) := edited_ok first_ok strange_ok
    have mkY : MarkOk (editedS (firstS ms.length) (some "strange")) := mark_edited (mark_first _)
    -- if
    refine ⟨fun σ' H' => σ' = τ (some v2) (some (.ref y)) (some (.ref z)) none none none none ∧ H' = H3, ?_, ?_⟩
    · refine rx_if (rx_or (rx_tTest (rx_op (rx_var rfl (rx_var rfl (eqF cF CF hx3 ok.v fok mk hy3 ok2.v fokY mkY fun b hb => ⟨b, rfl, ?_⟩))))))
      have b0 : b = false := Bool.eq_false_iff.mpr fun q => nst (by rw [(hb.mp q).2, no_strange])
      rw [b0]
      refine iteF (rx_and (rx_tTest (rx_op (rx_var rfl (rx_var rfl ⟨_, _, (d2.k0 k3).dp, (dp1.k0 k3).dp, lay_plan ok2.v, lay_plan ok.v, _, rfl, ?_⟩)))))
      refine ite2 (fun h => ?_) (fun h => iteF ⟨rfl, rfl⟩)
      refine rx_tTest (rx_op (rx_var rfl (rx_var rfl (eqF cF CF hz3 ok2.v first_ok (mark_first _) hx3 ok.v fok mk fun b hb => ⟨b, rfl, ?_⟩))))
      have b1 : b = false := Bool.eq_false_iff.mpr fun q => by
        obtain ⟨⟨e1, e2⟩, _⟩ := hb.mp q
        rw [e1, e2, ((pl_plan ns ls).eqv (pl_plan ns ls)).mpr rfl] at h
        cases h
      rw [b1]
      exact iteF ⟨rfl, rfl⟩
    rintro σ' H4 ⟨rfl, rfl⟩
    have dp4 := dp1.k0 k3
    obtain ⟨is, e, els, te⟩ := ok.last
    have ge : GoodL ns e := ok.good e (by rw [els]; simp)
    have v2L := vrule_two ok.v ge te
    have X0 : ∀ {σ : L2.St} {H'}, σ[1]? = some (some v) → Dt K H' v (planD ns ls) → LtH K (tOp (rIx K) (tVar 1) (tC (.int 0))) σ H' (.tuple (ns.map .str)) := fun e d => LtH.ix (n := 0) (.var e d) (fun H1 Q q => q) rfl
    have X1 : ∀ {σ : L2.St} {H'}, σ[1]? = some (some v) → Dt K H' v (planD ns ls) → LtH K (tOp (rIx K) (tVar 1) (tC (.int 1))) σ H' (.tuple (linesD ls)) := fun e d => LtH.ix (n := 1) (.var e d) (fun H1 Q q => q) rfl
    -- lines
    refine ⟨fun σ' H' => ∃ vl, σ' = τ (some v2) (some (.ref y)) (some (.ref z)) (some vl) none none none ∧ Keep [] H4 H' ∧ Dt K H' vl (.tuple (linesD [firstLn, e])), ?_, ?_⟩
    · have L1 : LtH K (tTup (tCons (tTup (tCons (tTup (tCons (tTup (tCons (tC (.str "here")) (tCons (tC (.str "here")) (tCons (tC (.bl false)) tNil)))) tNil)) (tCons (tTup tNil) tNil))) tNil)) (τ (some v2) (some (.ref y)) (some (.ref z)) none none none none) H4 (.tuple [lnD firstLn]) :=
        .disp (.cons (.disp (.cons (.disp (.cons (.disp (.cons .str (.cons .str (.cons .bl .nil))) (by show 3 ≤ 100; decide)) .nil) (by show 1 ≤ 100; decide)) (.cons (.disp .nil (by show 0 ≤ 100; decide)) .nil)) (by show 2 ≤ 100; decide)) .nil) (by show 1 ≤ 100; decide)
      have lsl : (linesD ls).length = ls.length := List.length_map ..
      have L2 := LtH.lastOf (X1 (σ := τ (some v2) (some (.ref y)) (some (.ref z)) none none none none) rfl dp4) (by rw [lsl]; exact ok.few.1) (tn := tPart (tUn (rU fun i => V.int (-i)) (tC (.int 1)))) (fun H1 Q q => ⟨_, rfl, _, rfl, q⟩)
      have L3 := LtH.cat L1 L2 (by rw [List.length_drop, lsl]; have := ok.few.1; show 1 + _ ≤ 100; omega)
      have e3 : [lnD firstLn] ++ (linesD ls).drop ((linesD ls).length - 1) = linesD [firstLn, e] := by
        rw [lsl, els, linesD, List.map_append, List.length_append, List.length_singleton, Nat.add_sub_cancel]
        rw [List.drop_append_of_le_length (by rw [List.length_map]; exact Nat.le_refl _), List.drop_of_length_le (by rw [List.length_map]; exact Nat.le_refl _)]
        rfl
      rw [e3] at L3
      exact rx_asg (L3 H4 Keep.refl _ fun vl H' k' d' => ⟨vl, rfl, k', d'⟩)
    rintro σ' H5 ⟨vl, rfl, k5, dl5⟩
    have dp5 := dp4.k0 k5
    have hx5 := FileIs.k0 hx3 k5
    -- things
    refine ⟨fun σ' H' => ∃ D, σ' = τ (some v2) (some (.ref y)) (some (.ref z)) (some vl) (some (.ref D)) none none ∧ Keep [] H5 H' ∧ H' D = some (.lst []), ?_, ?_⟩
    · obtain ⟨dx, r0, vv, ex5, _⟩ := id hx5
      refine rx_asg ?_
      show tLc _ _ _ _ _ _ _ _
      unfold tLc
      refine rx_lst (rx_cons (rx_c (rx_cons (rx_c (rx_cons ⟨_, rfl, x, dx, _, rfl, ex5, x, ns, ls, fs, rfl, hx5, (by rw [fok.len]; omega), rx_here (rx_cons ?_)⟩)))))
      show ∀ d, _
      intro d nd
      have kd : Keep [] H5 (upd H5 d (.dK [])) := Keep.new nd
      refine rx_cons (rx_call ⟨_, rfl, _, ns, ls, rfl, dp5.k0 kd, ok.v, fun r H6 k6 nr hr6 => ?_⟩)
      refine rx_cons (rx_c (rx_cons (rx_tup (rx_nil ⟨(by show 0 ≤ sizeLine; decide), fun t nt => ?_⟩))))
      have kt : Keep [] H6 (upd H6 t (.tup [])) := Keep.new nt
      refine rx_nil ⟨(by show 7 ≤ sizeLine; decide), fun L nL => ?_⟩
      have kL : Keep [] (upd H6 t (.tup [])) (upd (upd H6 t (.tup [])) L (.lst [.non, .str "", cV (atC fs.cs 0), .ref d, .ref r, .int 0, .ref t])) := Keep.new nL
      have kk : Keep [] H5 (upd (upd H6 t (.tup [])) L (.lst [.non, .str "", cV (atC fs.cs 0), .ref d, .ref r, .int 0, .ref t])) := kd.trans (k6.trans (kt.trans kL))
      refine ⟨L, rfl, ⟨_, SqL.of upd_same⟩, fun D nD => ?_⟩
      refine lc_list (xs := [.non, .str "", cV (atC fs.cs 0), .ref d, .ref r, .int 0, .ref t]) (fun i H' => Keep [] (upd (upd H6 t (.tup [])) L (.lst [.non, .str "", cV (atC fs.cs 0), .ref d, .ref r, .int 0, .ref t])) H' ∧ H' D = some (.lst [])) ⟨Keep.new nD, upd_same⟩ ?_ ?_ ?_
      · rintro n H' _ ⟨k1, _⟩
        exact k1.same.seq (SqL.of upd_same)
      · rintro n u H' hu ⟨k1, e1⟩
        refine ⟨rfl, ?_⟩
        have kty : ∀ {ty : String} {u : V}, ty ∈ tys02 → TyX K H' u (.type ty) → NoFile K H' u := fun hm ht => ⟨_, ht, cF.kit _ hm, cF.nf _ hm⟩
        have hN : NoFile K H' u := by
          have hv := List.mem_of_getElem? hu
          simp only [List.mem_cons, List.not_mem_nil, or_false] at hv
          rcases hv with rfl | rfl | rfl | rfl | rfl | rfl | rfl
          · exact kty (ty := "NoneType") (by decide) (.base .non)
          · exact kty (ty := "str") (by decide) (.base (.str _))
          · generalize atC fs.cs 0 = c0
            cases c0 with
            | none => exact kty (ty := "NoneType") (by decide) (.base .non)
            | some c => exact kty (ty := "str") (by decide) (.base (.str _))
          · exact kty (ty := "dict") (by decide) (.base (.dK (((k6.trans (kt.trans kL)).trans k1).to upd_same)))
          · obtain ⟨dr, _, _, _, _, _, _, _, er, _⟩ := id (RuleFull.kf hr6 ((kt.trans kL).trans k1) Far.nil)
            exact ⟨_, cR.ty CR er, kRF, nFR⟩
          · exact kty (ty := "int") (by decide) (.base (.int _))
          · exact kty (ty := "tuple") (by decide) (sqT_ty (seqT_keep (kL.trans k1) Soft.nil (SqT.of upd_same)))
        refine rx_tTest (rx_op (rx_var rfl (rx_var rfl (eqNo (FileIs.k0 hx5 (kk.trans k1)) ok.v fok mk hN ⟨false, rfl, iteF ⟨k1, e1⟩⟩))))
      · rintro H' ⟨k1, e1⟩
        exact ⟨D, rfl, kk.trans k1, e1⟩
    rintro σ' H6 ⟨D, rfl, k6, eD6⟩
    have dp6 := dp5.k0 k6
    have dl6 := dl5.k0 k6
    -- is_same
    let same := PyData.eqv (.tuple (linesD [firstLn, e])) (.tuple (linesD ls))
    refine ⟨fun σ' H' => σ' = τ (some v2) (some (.ref y)) (some (.ref z)) (some vl) (some (.ref D)) none (some (.bl same)) ∧ Keep [] H6 H', ?_, ?_⟩
    · refine rx_asg (rx_op (rx_var rfl (X1 rfl dp6 H6 Keep.refl _ fun v1 H7 k7 d7 => ?_)))
      exact ⟨_, _, (dl6.k0 k7).dp, d7.dp, lay_lines v2L, lay_lines ok.v, rfl, k7⟩
    rintro σ' H7 ⟨rfl, k7⟩
    have fin : ∀ {H'}, Keep [] H7 H' → Q (.bl true) H' := fun k' => by
      have kk := k3.trans (k5.trans (k6.trans (k7.trans k')))
      exact k _ (k1.trans (Keep.of_nil kk)) (sr1.keep kk (by simp))
    have dp7 := dp6.k0 k7
    have dl7 := dl6.k0 k7
    refine rx_ret ?_
    unfold tAndV
    refine rx_op (rx_var rfl (rx_lst (rx_nil ⟨(by show 0 ≤ sizeLine; decide), fun q2 h2 => ?_⟩)))
    have kq : Keep [] H7 (upd H7 q2 (.lst [])) := Keep.new h2
    have sh : SeqAt.shaped (.list []) = true := by decide +kernel
    refine ⟨.list [], .list [], .lst (SqL.of (kq.to (k7.to eD6))) .nil, .lst (SqL.of upd_same) .nil, sh, sh, _, rfl, ?_⟩
    rw [eqv_nil]
    refine iteT ?_
    refine rx_op (rx_op (newF (i := 1) (vv := v) (σ := τ (some v2) (some (.ref y)) (some (.ref z)) (some vl) (some (.ref D)) none (some (.bl same))) rfl (dp7.k0 kq) ok fun f1 H9 n1 k9 hf1 => ?_))
    refine rx_mk (rx_cons (rx_mk (rx_cons (X0 rfl (dp7.k0 (kq.trans k9)) H9 Keep.refl _ fun v0 HA kA d0 => rx_cons (rx_var rfl (rx_nil ?_))))))
    show ∀ r dr, _
    intro r dr nr ndr ne
    have ka : Keep [] HA (upd HA dr (.own r)) := Keep.new ndr
    have kb : Keep [] (upd HA dr (.own r)) (upd (upd HA dr (.own r)) r (.ins (He.ga K "Rule") dr [])) := Keep.new (by rw [upd_ne ne.symm]; exact nr)
    have kab := ka.trans kb
    refine make_rule upd_same (dr := .tuple (ns.map .str)) (dl := .tuple (linesD [firstLn, e])) (d0.k0 kab).dq (dl7.k0 (kq.trans (k9.trans (kA.trans kab)))).dq v2L rfl rfl v2L.regs2.2.1 v2L.regs2.2.2.2 fun HB kB hr2 => ⟨rfl, ?_⟩
    refine rx_nil ?_
    show ∀ f df, _
    intro f2 df nf ndf ne2
    have kc : Keep [] HB (upd HB df (.own f2)) := Keep.new ndf
    have kd : Keep [] (upd HB df (.own f2)) (upd (upd HB df (.own f2)) f2 (.ins (He.ga K "File") df [])) := Keep.new (by rw [upd_ne ne2.symm]; exact nf)
    have kcd := kc.trans kd
    refine ⟨f2, df, r, ns, _, rfl, upd_same, RuleFull.kf hr2 kcd Far.nil, nm.n3, fun HC kC hf2 => ⟨rfl, ?_⟩⟩
    have kAC := kA.trans ((kab.offNew kB nr).trans (kcd.offNew kC nf))
    refine eqF cF CF (FileIs.k0 hf1 kAC) ok.v first_ok (mark_first _) hf2 v2L first_ok (mark_first _) fun b hb => rx_var rfl ⟨rfl, ?_⟩
    have eb : b = same := by
      rw [Bool.eq_iff_iff, hb]
      show _ ↔ PyData.eqv (.tuple (linesD [firstLn, e])) (.tuple (linesD ls)) = true
      rw [(pl_lines [firstLn, e]).eqv (pl_lines ls)]
      exact ⟨fun h => by rw [h.1.2], fun h => ⟨⟨rfl, (lines_inj h).symm⟩, rfl⟩⟩
    rw [eb, decide_eq_true rfl]
    exact fin (kq.trans (k9.trans kAC))
end
end La
set_option Elab.async false
set_option linter.all false
set_option maxRecDepth 100000
set_option maxHeartbeats 4000000
namespace La
open PySem PySem.Spec PyProof.Rows L2 SM
theorem keys_nodup {ns : List Str} (n : NmOk ns) : (keysL ns).Nodup := by
  have nd := n.nd
  rw [planWordsOf, List.append_assoc] at nd
  have nd : (("here" : Str) :: (ns ++ (["new", "nothing"] : List Str))).Nodup := nd
  have h1 : (("here" : Str) :: ns).Nodup := by
    obtain ⟨a, b⟩ := List.nodup_cons.mp nd
    exact List.nodup_cons.mpr ⟨fun z => a (List.mem_append_left _ z), (List.nodup_append.mp b).1⟩
  have h2 : ((("here" : Str) :: ns) ++ metaKeys).Nodup := by
    refine List.nodup_append.mpr ⟨h1, by decide +kernel, fun x hx y hy e => ?_⟩
    exact n.ne ((List.mem_cons.mp hx).imp id id) hy e
  exact List.Pairwise.map _ (fun a b h e => h (Sum.inr.inj e)) h2
theorem Md.keyed {kvs : List (Key × V)} {ns : List Str} {s : Fs} (n : NmOk ns) (m : Md kvs ns s) {p : Key × V} (hp : p ∈ kvs) : valV kvs p.1 = some p.2 ∧ p.1 ∈ keysL ns := by
  refine ⟨val_nodup (by rw [m.keys]; exact keys_nodup n) p hp, ?_⟩
  rw [← m.keys]
  exact List.mem_map_of_mem hp
theorem key_cases {ns : List Str} {k : Key} (h : k ∈ keysL ns) : (∃ x, k = .inr x ∧ (x = "here" ∨ x ∈ ns)) ∨ k = .inr "(last)" ∨ k = .inr "(mark)" ∨ k = .inr "(mine)" ∨ k = .inr "(amid)" := by
  obtain ⟨x, hx, rfl⟩ := List.mem_map.mp h
  rcases List.mem_append.mp hx with z | z
  · exact .inl ⟨x, rfl, (List.mem_cons.mp z)⟩
  · simp only [metaKeys, List.mem_cons, List.not_mem_nil, or_false] at z
    rcases z with rfl | rfl | rfl | rfl
    · exact .inr (.inl rfl)
    · exact .inr (.inr (.inl rfl))
    · exact .inr (.inr (.inr (.inl rfl)))
    · exact .inr (.inr (.inr (.inr rfl)))
theorem cV_nsb (c : Cn) : nsb (cV c) = true := by cases c <;> rfl
theorem Md.get {kvs : List (Key × V)} {ns : List Str} {s : Fs} (m : Md kvs ns s) {k : Key} (h : k ∈ keysL ns) : ∃ v, valV kvs k = some v ∧ nsb v = true := by
  rcases key_cases h with ⟨x, rfl, hx⟩ | rfl | rfl | rfl | rfl
  · exact ⟨_, m.at_ x hx, cV_nsb _⟩
  · exact ⟨_, m.last, cV_nsb _⟩
  · exact ⟨_, m.mark, rfl⟩
  · exact ⟨_, m.mine, cV_nsb _⟩
  · exact ⟨_, m.amid, rfl⟩
theorem pos_reg {ns : List Str} (n : NmOk ns) {i : Nat} {x : Str} (h : ns[i]? = some x) : posOf ns x = i + 1 := idx_of n.nd (by
  have hi := (List.getElem?_eq_some_iff.mp h).1
  rw [planWordsOf, List.append_assoc, List.getElem?_append_right (by show 1 ≤ i + 1; omega)]
  show (ns ++ _)[i + 1 - 1]? = _
  rw [Nat.add_sub_cancel, List.getElem?_append_left hi]
  exact h)
theorem Md.same {kvs kws : List (Key × V)} {ns : List Str} {s t : Fs} (n : NmOk ns) (m : Md kvs ns s) (q : Md kws ns t) (h : ∀ k ∈ keysL ns, valV kws k = valV kvs k) : s = t := by
  have kk : ∀ x : Str, x ∈ metaKeys → (.inr x : Key) ∈ keysL ns := fun x hx => List.mem_map_of_mem (List.mem_append_right _ hx)
  have e1 := h (.inr "(last)") (kk _ (by decide +kernel))
  have e2 := h (.inr "(mark)") (kk _ (by decide +kernel))
  have e3 := h (.inr "(mine)") (kk _ (by decide +kernel))
  have e4 := h (.inr "(amid)") (kk _ (by decide +kernel))
  rw [m.last, q.last] at e1
  rw [m.mark, q.mark] at e2
  rw [m.mine, q.mine] at e3
  rw [m.amid, q.amid] at e4
  have e1 := cV_inj (Option.some.inj e1)
  have e2 := V.str.inj (Option.some.inj e2)
  have e3 := cV_inj (Option.some.inj e3)
  have e4 := V.bl.inj (Option.some.inj e4)
  have e5 : ∀ x : Str, x = "here" ∨ x ∈ ns → atC t.cs (posOf ns x) = atC s.cs (posOf ns x) := fun x hx => by
    have := h (.inr x) (List.mem_map_of_mem (List.mem_append_left _ (List.mem_cons.mpr hx)))
    rw [m.at_ x hx, q.at_ x hx] at this
    exact cV_inj (Option.some.inj this)
  have e6 : s.cs = t.cs := by
    refine List.ext_getElem (by rw [m.len, q.len]) fun i h1 h2 => ?_
    have a : ∀ {cs : List Cn} (h : i < cs.length), atC cs i = cs[i] := fun h => by
      rw [atC, List.getElem?_eq_getElem h]
      rfl
    rw [← a h1, ← a h2]
    cases i with
    | zero =>
      have := e5 "here" (.inl rfl)
      rw [pos_here] at this
      exact this.symm
    | succ i =>
      have hi : i < ns.length := by
        have := m.len
        omega
      have := e5 ns[i] (.inr (List.getElem_mem hi))
      rw [pos_reg n (List.getElem?_eq_getElem hi)] at this
      exact this.symm
  obtain ⟨a1, a2, a3, a4, a5⟩ := s
  obtain ⟨b1, b2, b3, b4, b5⟩ := t
  cases e1
  cases e2
  cases e3
  cases e4
  cases e6
  rfl
theorem Md.get_eq {kvs kws : List (Key × V)} {ns : List Str} {s : Fs} (m : Md kvs ns s) (q : Md kws ns s) {k : Key} (h : k ∈ keysL ns) : valV kws k = valV kvs k := by
  rcases key_cases h with ⟨x, rfl, hx⟩ | rfl | rfl | rfl | rfl
  · rw [m.at_ x hx, q.at_ x hx]
  · rw [m.last, q.last]
  · rw [m.mark, q.mark]
  · rw [m.mine, q.mine]
  · rw [m.amid, q.amid]
/-- two models compared -/
theorem md_cmp {neg : Bool} {H : Hp} {a b : Addr} {kvs kws : List (Key × V)} {ns : List Str} {s t : Fs} {Q : VK} (n : NmOk ns) (ea : H a = some (.dK kvs)) (eb : H b = some (.dK kws)) (m : Md kvs ns s) (q : Md kws ns t)
    (k : ∀ c, (c = true ↔ s = t) → Q (.bl (xor neg c)) H) : rDicts neg (.ref a) (.ref b) H Q := by
  have len : kvs.length = kws.length := by
    have a1 := congrArg List.length m.keys
    have a2 := congrArg List.length q.keys
    rw [List.length_map] at a1 a2
    rw [a1, a2]
  refine ⟨a, b, kvs, kws, rfl, rfl, ea, eb, len, fun p hp => ?_, k _ ?_⟩
  · obtain ⟨h1, h2⟩ := m.keyed n hp
    obtain ⟨v, h3, h4⟩ := q.get h2
    obtain ⟨v', h5, h6⟩ := m.get h2
    rw [h1] at h5
    cases h5
    exact ⟨v, h3, h6, h4⟩
  · rw [List.all_eq_true]
    constructor
    · intro h
      refine m.same n q fun k hk => ?_
      rw [← m.keys] at hk
      obtain ⟨p, hp, rfl⟩ := List.mem_map.mp hk
      rw [(m.keyed n hp).1]
      exact of_decide_eq_true (h p hp)
    · rintro rfl p hp
      obtain ⟨h1, h2⟩ := m.keyed n hp
      rw [m.get_eq q h2, h1]
      exact decide_eq_true rfl
end La
set_option Elab.async false
set_option linter.all false
set_option maxRecDepth 100000
set_option maxHeartbeats 4000000
namespace La
open PySem PySem.Spec PyProof.Rows L2 SM
/-- the script as it stands: nobody changes it -/
def ScriptAt (K : PySem.W.Frag) (H : Hp) (a : Addr) (xs : List V) : Prop := (∃ o, H a = some (.frz o (.lst xs))) ∨ ∀ H', SqL K H' a xs
theorem ScriptAt.seq {K : PySem.W.Frag} {H : Hp} {a : Addr} {xs : List V} (h : ScriptAt K H a xs) : SqL K H a xs := h.elim (fun h => .inl (.inr h)) fun h => h H
theorem ScriptAt.kf {K : PySem.W.Frag} {m : List Addr} {H H' : Hp} {a : Addr} {xs : List V} (h : ScriptAt K H a xs) (k : Keep m H H') (n : ∀ b ∈ m, ∀ o ys, H b ≠ some (.frz o (.lst ys))) : ScriptAt K H' a xs := by
  rcases h with ⟨o, h⟩ | h
  · exact .inl ⟨o, k _ _ (fun z => n _ z o xs h) h⟩
  · exact .inr h
theorem src_ne {H : Hp} {p k : Addr} {l : List Str} (h : Src H p) (e : H k = some (.lst (l.map V.str))) : k ≠ p := fun z => by
  obtain ⟨x, y, e1, _⟩ := h
  rw [z, e1] at e
  injection e with e
  injection e with e
  cases l with
  | nil => cases e
  | cons s l =>
    rw [List.map_cons] at e
    injection e with e _
    cases e
theorem src_frz {H : Hp} {p : Addr} (h : Src H p) : ∀ b ∈ [p], ∀ o ys, H b ≠ some (.frz o (.lst ys)) := fun b z o ys e => by
  obtain ⟨x, y, e1, _⟩ := h
  rw [List.mem_singleton.mp z, e1] at e
  cases e
def spLaw (K : PySem.W.Frag) : Sp := fun vs H Q _ => ∃ (s : Addr) (ns : List Int), vs = [.ref s] ∧ ScriptAt K H s (ns.map V.int) ∧ ns.length ≤ 63 ∧ (∀ n ∈ ns, Builtin.Int.intBits n ≤ 1048576) ∧ ∀ H', Q (.bl true) H'
theorem first_not (n : Nat) : AllC (fun c => c ≠ some ("strange" : Str)) (firstS n) :=
  ⟨fun c hc => (by rw [List.eq_of_mem_replicate hc]; exact (fun z => by cases z)), (fun z => by cases z), (fun z => by cases z)⟩
theorem last_at {xs : List V} (h : 1 ≤ xs.length) : ∃ v, atI xs (-1) = some v ∧ xs[xs.length - 1]? = some v := by
  rcases List.eq_nil_or_concat xs with rfl | ⟨ys, v, e⟩
  · cases h
  · rw [List.concat_eq_append] at e
    subst e
    refine ⟨v, atI_last ys v, ?_⟩
    rw [List.length_append]
    simp
/-- the deeds and the models, as they stand -/
structure Big (K : PySem.W.Frag) (H : Hp) (a p tp dp mp : Addr) (sc : List Int) (q : V) (ns : List Str) (ls : List Ln) (ts : List Str) (us : List V) (as : List Addr) (es ds : List Deed) : Prop where
  sa : ScriptAt K H a (sc.map V.int)
  src : Src H p
  pl : Dt K H q (planD ns ls)
  tx : H tp = some (.lst (ts.map V.str))
  ed : H dp = some (.lst us)
  du : DtAll K H us (es.map deedD)
  em : H mp = some (.lst (as.map V.ref))
  la : as.length = ds.length + 1
  md : ∀ j b, as[j]? = some b → ∃ kvs, H b = some (.dK kvs) ∧ Md kvs ns (runS ns ls (firstS ns.length) (ds.take j))
/-- what is the source, or an instance -/
def Mild (H : Hp) (p : Addr) (m : List Addr) : Prop := ∀ b ∈ m, b = p ∨ ∃ C dx fs, H b = some (.ins C dx fs)
theorem Mild.p {H : Hp} {p : Addr} : Mild H p [p] := fun b z => .inl (List.mem_singleton.mp z)
theorem Mild.file {K : PySem.W.Frag} {H : Hp} {p x : Addr} {ns : List Str} {ls : List Ln} {s : Fs} (h : FileIs K H x ns ls s) : Mild H p [x] := fun b z => by
  obtain ⟨dx, r, v, hx, _⟩ := h
  rw [List.mem_singleton.mp z]
  exact .inr ⟨_, _, _, hx⟩
theorem Big.keep {K : PySem.W.Frag} {H H' : Hp} {a p tp dp mp : Addr} {sc : List Int} {q : V} {ns : List Str} {ls : List Ln} {ts : List Str} {us : List V} {as : List Addr} {es ds : List Deed} {m : List Addr} (g : Big K H a p tp dp mp sc q ns ls ts us as es ds)
    (k : Keep m H H') (mi : Mild H p m) (sp : Src H' p) (n1 : dp ≠ p) (n2 : mp ≠ p) : Big K H' a p tp dp mp sc q ns ls ts us as es ds := by
  have nl : ∀ {b : Addr} {o : HO}, H b = some o → b ≠ p → (∀ C dx fs, o ≠ .ins C dx fs) → b ∉ m := fun e n1 n z => by
    rcases mi _ z with y | ⟨C, dx, fs, y⟩
    · exact n1 y
    · rw [e] at y
      cases y
      exact n _ _ _ rfl
  have so : Soft m H := fun b z ys => by
    rcases mi b z with y | ⟨C, dx, fs, y⟩
    · rw [y]
      exact g.src.soft p (List.mem_singleton_self p) ys
    · rw [y]
      exact ⟨(fun e => by cases e), (fun o e => by cases e)⟩
  refine ⟨g.sa.kf k fun b z o ys e => ?_, sp, g.pl.keep k so, k _ _ (nl g.tx (src_ne g.src g.tx) (fun _ _ _ z => by cases z)) g.tx, k _ _ (nl g.ed n1 (fun _ _ _ z => by cases z)) g.ed, g.du.keep k so, k _ _ (nl g.em n2 (fun _ _ _ z => by cases z)) g.em, g.la, fun j b hb => ?_⟩
  · rcases mi b z with y | ⟨C, dx, fs, y⟩
    · obtain ⟨x, y', e1, _⟩ := g.src
      rw [y, e1] at e
      cases e
    · rw [e] at y
      cases y
  · obtain ⟨kvs, e1, e2⟩ := g.md j b hb
    refine ⟨kvs, k _ _ (nl e1 (fun z => ?_) (fun _ _ _ z => by cases z)) e1, e2⟩
    obtain ⟨x, y', e3, _⟩ := g.src
    rw [z, e3] at e1
    cases e1
theorem Big.k0 {K : PySem.W.Frag} {H H' : Hp} {a p tp dp mp : Addr} {sc : List Int} {q : V} {ns : List Str} {ls : List Ln} {ts : List Str} {us : List V} {as : List Addr} {es ds : List Deed} (g : Big K H a p tp dp mp sc q ns ls ts us as es ds) (k : Keep [] H H') : Big K H' a p tp dp mp sc q ns ls ts us as es ds :=
  ⟨g.sa.kf k (fun b z => by cases z), g.src.keep k (by simp), g.pl.k0 k, k.to g.tx, k.to g.ed, g.du.k0 k, k.to g.em, g.la, fun j b hb => by
    obtain ⟨kvs, e1, e2⟩ := g.md j b hb
    exact ⟨kvs, k.to e1, e2⟩⟩
theorem Big.deed {K : PySem.W.Frag} {H : Hp} {a p tp dp mp : Addr} {sc : List Int} {q : V} {ns : List Str} {ls : List Ln} {ts : List Str} {us : List V} {as : List Addr} {es ds : List Deed} (g : Big K H a p tp dp mp sc q ns ls ts us as es ds) {u : V} {dd : Deed} (hu : Dt K H u (deedD dd)) (n1 : dp ≠ p) (n3 : dp ≠ mp) (n4 : dp ≠ tp) :
    Big K (upd H dp (.lst (us ++ [u]))) a p tp dp mp sc q ns ls ts (us ++ [u]) as (es ++ [dd]) ds := by
  have k : Keep [dp] H (upd H dp (.lst (us ++ [u]))) := Keep.at_ (by simp)
  have so : Soft [dp] H := Soft.lst g.ed
  refine ⟨g.sa.kf k fun b z o ys e => ?_, g.src.keep k (by simpa using n1.symm), g.pl.keep k so, k _ _ (by simpa using n4.symm) g.tx, upd_same, ?_, k _ _ (by simpa using n3.symm) g.em, g.la, fun j b hb => ?_⟩
  · rw [List.mem_singleton.mp z, g.ed] at e
    cases e
  · rw [List.map_append]
    exact (g.du.append (.cons hu .nil)).keep k so
  · obtain ⟨kvs, e1, e2⟩ := g.md j b hb
    refine ⟨kvs, k _ _ (fun z => ?_) e1, e2⟩
    rw [List.mem_singleton.mp z, g.ed] at e1
    cases e1
theorem Big.model {K : PySem.W.Frag} {H : Hp} {a p tp dp mp : Addr} {sc : List Int} {q : V} {ns : List Str} {ls : List Ln} {ts : List Str} {us : List V} {as : List Addr} {ds : List Deed} {dd : Deed} (g : Big K H a p tp dp mp sc q ns ls ts us as (ds ++ [dd]) ds) {d : Addr} {kvs : List (Key × V)} (hd : H d = some (.dK kvs)) (m : Md kvs ns (behindS ns ls (runS ns ls (firstS ns.length) ds) dd).2)
    (n2 : mp ≠ p) (n3 : dp ≠ mp) (n4 : mp ≠ tp) : Big K (upd H mp (.lst (as.map V.ref ++ [.ref d]))) a p tp dp mp sc q ns ls ts us (as ++ [d]) (ds ++ [dd]) (ds ++ [dd]) := by
  have k : Keep [mp] H (upd H mp (.lst (as.map V.ref ++ [.ref d]))) := Keep.at_ (by simp)
  have so : Soft [mp] H := Soft.lst g.em
  have nm : ∀ {b : Addr} {kvs : List (Key × V)}, H b = some (.dK kvs) → b ∉ [mp] := fun e z => by
    rw [List.mem_singleton.mp z, g.em] at e
    cases e
  refine ⟨g.sa.kf k fun b z o ys e => ?_, g.src.keep k (by simpa using n2.symm), g.pl.keep k so, k _ _ (by simpa using n4.symm) g.tx, k _ _ (by simpa using n3) g.ed, g.du.keep k so, ?_, ?_, fun j b hb => ?_⟩
  · rw [List.mem_singleton.mp z, g.em] at e
    cases e
  · rw [upd_same, List.map_append]
    rfl
  · rw [List.length_append, List.length_append, g.la]
    rfl
  · by_cases z : j < as.length
    · rw [List.getElem?_append_left z] at hb
      obtain ⟨kv, e1, e2⟩ := g.md j b hb
      refine ⟨kv, k _ _ (nm e1) e1, ?_⟩
      rw [List.take_append_of_le_length (by have := g.la; omega)]
      exact e2
    · rw [List.getElem?_append_right (by omega)] at hb
      have : j = as.length := by
        obtain ⟨q, _⟩ := List.getElem?_eq_some_iff.mp hb
        rw [List.length_singleton] at q
        omega
      subst this
      rw [Nat.sub_self] at hb
      cases hb
      refine ⟨kvs, k _ _ (nm hd) hd, ?_⟩
      rw [g.la, List.take_of_length_le (by rw [List.length_append]; exact Nat.le_refl _), runS_snoc]
      exact m
section
variable {P : Program} {w : World} {K : PySem.W.Frag} {mg : Str → Option Value} {base : Heap}
abbrev s_law : Stmt := (top 69)
abbrev N_law : List Str := ["script", "start", "source", "turn", "plan", "texts", "deeds", "models", "look", "file", "many", "other", "copy", "deed", "words", "model"]
abbrev P_law : List Str := ["script"]
theorem sc_law : FnScope N_law P_law (defScope s_law) := ⟨rfl, rfl, rfl, by decide +kernel, rfl, by decide +kernel, by decide +kernel⟩
theorem Dlaw (W : Cw fas fns K mg) (hx0 : exB K = true) (D_law_source : DefOk P w K mg base CX0 1 "_law_source" P__law_source (spSource K)) (D_law_plan : DefOk P w K mg base CX0 4 "_law_plan" P__law_plan (spPlan K)) (D_law_texts : DefOk P w K mg base CX0 3 "_law_texts" P__law_texts (spTexts K))
    (D_law_draw : DefOk P w K mg base CX0 1 "_law_draw" P__law_draw spDraw) (D_law_new : DefOk P w K mg base CX0 1 "_law_new" P__law_new (spNew K)) (D_law_deed : DefOk P w K mg base CX0 3 "_law_deed" P__law_deed (spDeed K)) (D_law_behind : DefOk P w K mg base CX0 4 "_law_behind" P__law_behind (spBehind K))
    (D_law_told : DefOk P w K mg base CX0 6 "_law_told" P__law_told (spTold K)) (D_law_made : DefOk P w K mg base CX0 8 "_law_made" P__law_made (spMade K)) (D_law_unlike : DefOk P w K mg base CX0 8 "_law_unlike" P__law_unlike (spUnlike K)) (D_law_file_right : DefOk P w K mg base CX0 6 "_law_file_right" P__law_file_right (spFileRight K))
    (IFk : ∃ fd, FnOk P w K mg base CX0 6 (He.ma K (He.ga K "File") "fork") fd ["self"] (spFork K) ∧ Binds K fd ["self"] [])
    {f : Addr} {fd : FuncData} (F : FunD K "law" "law" (defArgs s_law) (defBody s_law) (defScope s_law) [] [] f fd) : FnG P w K mg base CX0 9 f fd P_law (spLaw K) := by
  refine FnG.ofF F sc_law (fun vs H Q E h => ?_) (fun cdv B up s H vs Q E gd hr h => ?_)
  · obtain ⟨a, ns, rfl, _⟩ := h
    rfl
  · obtain ⟨a, sc, rfl, hS, hl, hb, k⟩ := h
    obtain ⟨cR, cF, cNe, kRF, nFR⟩ := ruleM_ok hx0
    obtain ⟨fdFk, FFk, bFk⟩ := IFk
    obtain ⟨fdFq, FFq, bFq⟩ := I_FileEq (P := P) (w := w) (base := base) W cR cF
    have MFk := He.meth_ok (W.fact 91)
    have CF : Cls K (He.ga K "File") := He.cls_ok (W.fact 97)
    refine ⟨_, PSs.nox (Evl.pss_cut (ps_for PassesOwn.never rfl (pi_range1 (by rfl) (W.fre 75) (pa_cons (pe_callB (call_max2 rfl) (by rfl) (W.fre 72) (by decide +kernel) (pa_cons pe_int (pa_cons (pe_callB (call_min2 rfl) (by rfl) (W.fre 73) (by decide +kernel) (pa_cons pe_int (pa_cons (pe_callB call_len_seq (by rfl) (W.fre 70) (by decide +kernel) (pa_cons (pv 0) pa_nil)) pa_nil))) pa_nil))) pa_nil)) (pg_name (i := 1) sc_law.nd rfl (by first | exact Or.inl rfl | exact Or.inr rfl)) (Evl.pss_cut (ps_set (i := 2) sc_law.nd rfl (by first | exact Or.inl rfl | exact Or.inr rfl) (SM.pe_callD D_law_source (hr.mono (by decide)) pass0 (pa_cons (pv 0) (pa_cons (pv 1) pa_nil)))) (pss_one (ps_for PassesOwn.never rfl (pi_range1 (by rfl) (W.fre 75) (pa_cons pe_int pa_nil)) (pg_name (i := 3) sc_law.nd rfl (by first | exact Or.inl rfl | exact Or.inr rfl)) (Evl.pss_cut (ps_par (i := 4) (j := 5) (by rfl) sc_law.nd rfl rfl (by decide) rfl rfl (pa_cons (SM.pe_callD D_law_plan (hr.mono (by decide)) pass0 (pa_cons (pv 2) pa_nil)) (pa_cons (SM.pe_callD D_law_texts (hr.mono (by decide)) pass0 (pa_cons (pv 2) (pa_cons pe_int pa_nil))) pa_nil)) (by rfl)) (Evl.pss_cut (ps_par (i := 6) (j := 7) (by rfl) sc_law.nd rfl rfl (by decide) rfl rfl (pa_cons (pe_lst pa_nil) (pa_cons (pe_lst (pa_cons (SM.pe_callD D_law_new (hr.mono (by decide)) pass0 (pa_cons (pv 4) pa_nil)) pa_nil)) pa_nil)) (by rfl)) (Evl.pss_cut (ps_for PassesOwn.never rfl (pi_range1 (by rfl) (W.fre 75) (pa_cons (SM.pe_callD D_law_draw (hr.mono (by decide)) pass0 (pa_cons (pv 2) (pa_cons pe_int pa_nil))) pa_nil)) (pg_name (i := 8) sc_law.nd rfl (by first | exact Or.inl rfl | exact Or.inr rfl)) (Evl.pss_cut (ps_expr (pe_bm PySem.F.plainAttrs_list PySem.F.slot_list_append PySem.F.type_list_append mt_append (pv 6) (pa_cons (SM.pe_callD D_law_deed (hr.mono (by decide)) pass0 (pa_cons (pv 2) (pa_cons (pv 4) (pa_cons (pe_ix ix_seq (pv 7) (pe_un un_neg pe_int) (fun _ _ => rfl)) (pa_cons (pv 5) pa_nil))))) pa_nil))) (pss_one (ps_expr (pe_bm PySem.F.plainAttrs_list PySem.F.slot_list_append PySem.F.type_list_append mt_append (pv 7) (pa_cons (pe_ix ix_seq (SM.pe_callD D_law_behind (hr.mono (by decide)) pass0 (pa_cons (pv 4) (pa_cons (pe_ix ix_seq (pv 7) (pe_un un_neg pe_int) (fun _ _ => rfl)) (pa_cons (pe_ix ix_seq (pv 6) (pe_un un_neg pe_int) (fun _ _ => rfl)) pa_nil)))) pe_int (fun _ _ => rfl)) pa_nil)))))) (Evl.pss_cut (ps_set (i := 9) sc_law.nd rfl (by first | exact Or.inl rfl | exact Or.inr rfl) (SM.pe_callD D_law_made (hr.mono (by decide)) pass0 (pa_cons (pv 4) (pa_cons (pv 6) pa_nil)))) (Evl.pss_cut (ps_for PassesOwn.never rfl (pi_range1 (by rfl) (W.fre 75) (pa_cons (pe_op op_add (pe_callB call_len_seq (by rfl) (W.fre 70) (by decide +kernel) (pa_cons (pv 6) pa_nil)) pe_int) pa_nil)) (pg_name (i := 10) sc_law.nd rfl (by first | exact Or.inl rfl | exact Or.inr rfl)) (Evl.pss_cut (ps_set (i := 11) sc_law.nd rfl (by first | exact Or.inl rfl | exact Or.inr rfl) (SM.pe_callD D_law_made (hr.mono (by decide)) pass0 (pa_cons (pv 4) (pa_cons (pe_slice sl_list (pv 6) po_none (po_some (pv 10))) pa_nil)))) (Evl.pss_cut (ps_if (PW.pt (pw_or (pt_cmpR op_ne (pe_cmpR (SM.op_eqOwn FFq cF.at_ cF.fn bFq pass0 (hr.mono (by decide))) (pv 9) (pv 11) (nomark _)) (pe_cmpR (SM.op_eqDicts (Nat.lt_of_succ_lt (hu_of hr))) (pe_ix ix_seq (pv 7) (pv 10) (fun _ _ => rfl)) (pe_ix ix_seq (pv 7) (pe_un un_neg pe_int) (fun _ _ => rfl)) (nomark _)) (nomark _)) (pw_or1 (pt_cmpR op_ne (pe_cmpR (SM.op_neOwn FFq cF.at_ cF.mro cNe cF.fn bFq pass0 (hr.mono (by decide))) (pv 11) (pv 9) (nomark _)) (pe_cmpR (SM.op_neDicts (Nat.lt_of_succ_lt (hu_of hr))) (pe_ix ix_seq (pv 7) (pv 10) (fun _ _ => rfl)) (pe_ix ix_seq (pv 7) (pe_un un_neg pe_int) (fun _ _ => rfl)) (nomark _)) (nomark _))))) (pss_one (ps_ret pe_bl)) pss_nil) (Evl.pss_cut (ps_set (i := 12) sc_law.nd rfl (by first | exact Or.inl rfl | exact Or.inr rfl) (pe_meth0 (pv 11) CF MFk FFk (hr.mono (by decide)) bFk .nil pass0)) (Evl.pss_cut (ps_if (PW.pt (pw_or (pt_not (pt_cmpR (SM.op_eqOwn FFq cF.at_ cF.fn bFq pass0 (hr.mono (by decide))) (pv 12) (pv 11) (nomark _))) (pw_or1 (pt_not (pt_val (SM.pe_callD D_law_file_right (hr.mono (by decide)) pass0 (pa_cons (pv 4) (pa_cons (pv 12) (pa_cons (pe_ix ix_seq (pv 7) (pv 10) (fun _ _ => rfl)) pa_nil))))))))) (pss_one (ps_ret pe_bl)) pss_nil) (Evl.pss_cut (ps_set (i := 13) sc_law.nd rfl (by first | exact Or.inl rfl | exact Or.inr rfl) (SM.pe_callD D_law_deed (hr.mono (by decide)) pass0 (pa_cons (pv 2) (pa_cons (pv 4) (pa_cons (pe_ix ix_seq (pv 7) (pv 10) (fun _ _ => rfl)) (pa_cons (pv 5) pa_nil)))))) (Evl.pss_cut (ps_asg (SM.pe_callD D_law_behind (hr.mono (by decide)) pass0 (pa_cons (pv 4) (pa_cons (pe_ix ix_seq (pv 7) (pv 10) (fun _ _ => rfl)) (pa_cons (pv 13) pa_nil)))) (L2.pg_unl (by rfl) (pgs_cons (pg_name (i := 14) sc_law.nd rfl (by first | exact Or.inl rfl | exact Or.inr rfl)) (pgs_cons (pg_name (i := 15) sc_law.nd rfl (by first | exact Or.inl rfl | exact Or.inr rfl)) pgs_nil)))) (Evl.pss_cut (ps_if (PW.pt (pw_or (pt_cmpR (op_neD hr.units) (SM.pe_callD D_law_told (hr.mono (by decide)) pass0 (pa_cons (pv 12) (pa_cons (pv 13) pa_nil))) (pv 14) (nomark _)) (pw_or1 (pt_not (pt_val (SM.pe_callD D_law_file_right (hr.mono (by decide)) pass0 (pa_cons (pv 4) (pa_cons (pv 12) (pa_cons (pv 15) pa_nil))))))))) (pss_one (ps_ret pe_bl)) pss_nil) (pss_one (ps_if (PW.pt (pw_or (pt_not (pt_val (SM.pe_callD D_law_file_right (hr.mono (by decide)) pass0 (pa_cons (pv 4) (pa_cons (pv 11) (pa_cons (pe_ix ix_seq (pv 7) (pv 10) (fun _ _ => rfl)) pa_nil)))))) (pw_or1 (pt_cmpR op_ne (pe_cmpR (SM.op_eqOwn FFq cF.at_ cF.fn bFq pass0 (hr.mono (by decide))) (pv 12) (pv 11) (nomark _)) (pe_cmpR (SM.op_eqDicts (Nat.lt_of_succ_lt (hu_of hr))) (pv 15) (pe_ix ix_seq (pv 7) (pv 10) (fun _ _ => rfl)) (nomark _)) (nomark _))))) (pss_one (ps_ret pe_bl)) pss_nil)))))))))) (pss_one (ps_if (pt_not (pt_val (SM.pe_callD D_law_unlike (hr.mono (by decide)) pass0 (pa_cons (pv 2) (pa_cons (pv 4) (pa_cons (pv 9) pa_nil)))))) (pss_one (ps_ret pe_bl)) pss_nil))))))))))) (pss_one (ps_ret pe_bl))), ?_⟩
    refine ⟨fun _ _ => True, ?_, fun σ' H' _ => k H'⟩
    have bound : ∀ z : Int, (if (if z < 3 then z else 3) > 1 then (if z < 3 then z else 3) else 1) ≤ 3 ∧ 1 ≤ (if (if z < 3 then z else 3) > 1 then (if z < 3 then z else 3) else 1) := fun z => by
      split <;> split <;> omega
    have bd := bound ((sc.map V.int).length : Int)
    refine ⟨_, rfl, a, _, rfl, .inl hS.seq, _, _, rfl, _, _, rfl, _, rfl, by omega, by omega, for_range (lo := 0) (fun _ σ H' => ∃ b1 b2 b3 b4 b5 b6 b7 b8 b9 b10 b11 b12 b13 b14 b15, σ = [some (.ref a), b1, b2, b3, b4, b5, b6, b7, b8, b9, b10, b11, b12, b13, b14, b15] ∧ ScriptAt K H' a (sc.map V.int))
      ⟨_, _, _, _, _, _, _, _, _, _, _, _, _, _, _, rfl, hS⟩ ?_ (fun _ _ _ => trivial)⟩
    rintro i σ H0 hi ⟨b1, b2, b3, b4, b5, b6, b7, b8, b9, b10, b11, b12, b13, b14, b15, rfl, hS0⟩
    -- source
    refine ⟨fun σ' H' => ∃ p, σ' = [some (.ref a), some (.int (0 + (i : Int))), some (.ref p), b3, b4, b5, b6, b7, b8, b9, b10, b11, b12, b13, b14, b15] ∧ ScriptAt K H' a (sc.map V.int) ∧ Src H' p, ?_, ?_⟩
    · refine ⟨_, rfl, _, rfl, a, sc, _, rfl, hS0.seq, hl, hb, by omega, by omega, fun p H' np kp sp => ?_⟩
      exact ⟨p, rfl, hS0.kf kp (fun b z => by cases z), sp⟩
    rintro σ' H1 ⟨p, rfl, hS1, s1⟩
    refine ⟨4, rfl, by decide, by decide, for_range (lo := 0) (fun _ σ H' => ∃ b3 b4 b5 b6 b7 b8 b9 b10 b11 b12 b13 b14 b15, σ = [some (.ref a), some (.int (0 + (i : Int))), some (.ref p), b3, b4, b5, b6, b7, b8, b9, b10, b11, b12, b13, b14, b15] ∧ ScriptAt K H' a (sc.map V.int) ∧ Src H' p)
      ⟨_, _, _, _, _, _, _, _, _, _, _, _, _, rfl, hS1, s1⟩ ?_ (fun σ' H' ⟨b3, b4, b5, b6, b7, b8, b9, b10, b11, b12, b13, b14, b15, e, z, _⟩ => ⟨_, _, b3, b4, b5, b6, b7, b8, b9, b10, b11, b12, b13, b14, b15, e, z⟩)⟩
    rintro j σ H2 hj ⟨c3, c4, c5, c6, c7, c8, c9, c10, c11, c12, c13, c14, c15, rfl, hS2, s2⟩
    let τ : Option V → Option V → Option V → Option V → Option V → Option V → Option V → Option V → Option V → Option V → Option V → Option V → L2.St := fun x4 x5 x6 x7 x8 x9 x10 x11 x12 x13 x14 x15 => [some (.ref a), some (.int (0 + (i : Int))), some (.ref p), some (.int (0 + (j : Int))), x4, x5, x6, x7, x8, x9, x10, x11, x12, x13, x14, x15]
    -- plan, texts
    refine ⟨fun σ' H' => ∃ q tp ns ls ts, σ' = τ (some (.ref q)) (some (.ref tp)) c6 c7 c8 c9 c10 c11 c12 c13 c14 c15 ∧ ScriptAt K H' a (sc.map V.int) ∧ Src H' p ∧ Dt K H' (.ref q) (planD ns ls) ∧ PlanOk ns ls ∧ H' tp = some (.lst (ts.map V.str)) ∧ ts.length = 3 ∧ okTexts ts ∧ ("strange" : Str) ∉ ts, ?_, ?_⟩
    · refine rx_cons (rx_call ⟨_, rfl, p, rfl, s2, fun v H3 ns ls k3 s3 dp ok => ?_⟩)
      refine rx_cons (rx_call ⟨_, rfl, p, 3, rfl, by decide, s3, fun tp ts H4 ntp k4 s4 et t4 okt nd nst => ?_⟩)
      have dp4 := dp.keep k4 s3.soft
      obtain ⟨q, _, rfl, _⟩ := Dt.items dp
      exact ⟨_, _, rfl, q, tp, ns, ls, ts, rfl, (hS2.kf k3 (src_frz s2)).kf k4 (src_frz s3), s4, dp4, ok, et, t4, okt, nst⟩
    rintro σ' H3 ⟨q, tp, ns, ls, ts, rfl, hS3, s3, dp3, ok, et3, t3, okt, nst⟩
    have nm := PlanOk.nmOk ok
    have lok := PlanOk.lsOk ok
    -- deeds, models
    refine ⟨fun σ' H' => ∃ dp mp d, σ' = τ (some (.ref q)) (some (.ref tp)) (some (.ref dp)) (some (.ref mp)) c8 c9 c10 c11 c12 c13 c14 c15 ∧ Big K H' a p tp dp mp sc (.ref q) ns ls ts [] [d] [] [] ∧ dp ≠ p ∧ mp ≠ p ∧ dp ≠ mp ∧ dp ≠ tp ∧ mp ≠ tp, ?_, ?_⟩
    · refine rx_cons (rx_lst (rx_nil ⟨(by show 0 ≤ sizeLine; decide), fun dp nd => ?_⟩))
      have k4 : Keep [] H3 (upd H3 dp (.lst [])) := Keep.new nd
      have dp4 := dp3.k0 k4
      refine rx_cons (rx_lst (rx_cons (rx_call ⟨_, rfl, _, ns, ls, rfl, dp4, nm, fun d H5 kvs ndd k5 ed5 md5 => ?_⟩)))
      refine rx_nil ⟨(by show 1 ≤ sizeLine; decide), fun mp nmp => ?_⟩
      have k6 : Keep [] H5 (upd H5 mp (.lst [.ref d])) := Keep.new nmp
      have k46 := k4.trans (k5.trans k6)
      have nmp3 : ∀ {b o}, H3 b = some o → mp ≠ b := fun e z => by
        have := (k4.trans k5).to e
        rw [← z, nmp] at this
        cases this
      have ndp3 : ∀ {b o}, H3 b = some o → dp ≠ b := fun e z => by
        rw [← z, nd] at e
        cases e
      have dm : dp ≠ mp := fun z => by
        have := k5.to (upd_same (H := H3) (a := dp) (o := .lst []))
        rw [z, nmp] at this
        cases this
      obtain ⟨s31, s32, s33, _⟩ := id s3
      refine ⟨_, _, rfl, dp, mp, d, rfl, ⟨hS3.kf k46 (fun b z => by cases z), s3.keep k46 (by simp), dp3.k0 k46, k46.to et3, (k5.trans k6).to upd_same, .nil, upd_same, rfl, fun jj b hb => ?_⟩, ndp3 s33, nmp3 s33, dm, ndp3 et3, nmp3 et3⟩
      cases jj with
      | zero =>
        cases hb
        exact ⟨kvs, k6.to ed5, md5⟩
      | succ jj => cases hb
    rintro σ' H4 ⟨dp, mp, d0, rfl, g4, n1, n2, n3, n4, n5⟩
    -- the deeds
    let Pv : Nat → L2.St → Hp → Prop := fun n σ' H' => ∃ (us : List V) (as : List Addr) (ds : List Deed) (x8 x9 x10 x11 x12 x13 x14 x15 : Option V), σ' = τ (some (.ref q)) (some (.ref tp)) (some (.ref dp)) (some (.ref mp)) x8 x9 x10 x11 x12 x13 x14 x15 ∧ Big K H' a p tp dp mp sc (.ref q) ns ls ts us as ds ds ∧ ds.length ≤ n ∧ DeedsOk ns ls (firstS ns.length) ds ∧ ∀ d ∈ ds, deedC d ≠ some ("strange" : Str)
    refine ⟨fun σ' H' => Pv 9 σ' H', ?_, ?_⟩
    · refine rx_call (rx_cons (rx_var rfl (rx_cons (rx_c (rx_nil ⟨p, _, rfl, g4.src, by decide, by decide, fun r H5 r0 r1 k5 s5 => ?_⟩)))))
      refine ⟨r, rfl, by omega, by omega, for_range (lo := 0) Pv ⟨[], [d0], [], _, _, _, _, _, _, _, _, rfl, g4.keep k5 Mild.p s5 n1 n2, Nat.le_refl _, DeedsOk.nil, fun d hd => by cases hd⟩ ?_ (fun σ' H' ⟨us, as, ds, x8, x9, x10, x11, x12, x13, x14, x15, e, g, l, o, c⟩ => ⟨us, as, ds, x8, x9, x10, x11, x12, x13, x14, x15, e, g, Nat.le_trans l (by omega), o, c⟩)⟩
      rintro lk σ H6 hlk ⟨us, as, ds, x8, x9, x10, x11, x12, x13, x14, x15, rfl, g6, lds, odk, nos⟩
      have lk9 : lk < 9 := by
        have hlk : lk < r.toNat := hlk
        omega
      let υ : L2.St := τ (some (.ref q)) (some (.ref tp)) (some (.ref dp)) (some (.ref mp)) (some (.int (0 + (lk : Int)))) x9 x10 x11 x12 x13 x14 x15
      obtain ⟨fok, mk⟩ := run_ok first_ok (mark_first _) odk ds.length (Nat.le_refl _)
      have allC := run_all (P := fun c => c ≠ some ("strange" : Str)) (fun z => by cases z) first_ok (first_not _) odk nos (mark_first _) ds.length (Nat.le_refl _)
      rw [List.take_length] at fok mk allC
      have lus := g6.du.length
      rw [List.length_map] at lus
      obtain ⟨b, hb, eb⟩ := last_at (xs := as.map V.ref) (by rw [List.length_map, g6.la]; omega)
      rw [List.length_map, g6.la, Nat.add_sub_cancel, List.getElem?_map] at eb
      obtain ⟨d, hd⟩ : ∃ d, as[ds.length]? = some d := ⟨_, List.getElem?_eq_getElem (show ds.length < as.length by rw [g6.la]; omega)⟩
      rw [hd] at eb
      cases eb
      obtain ⟨kvs, ed6, md6⟩ := g6.md _ d hd
      rw [List.take_length] at md6
      -- deeds.append
      refine ⟨fun σ' H' => ∃ u dd, σ' = υ ∧ Big K H' a p tp dp mp sc (.ref q) ns ls ts (us ++ [u]) as (ds ++ [dd]) ds ∧ DeedOk ns ls (runS ns ls (firstS ns.length) ds) dd ∧ deedC dd ≠ some ("strange" : Str) ∧ Dt K H' u (deedD dd), ?_, ?_⟩
      · refine ⟨_, rfl, .inl ⟨rfl, _, SqL.of g6.ed⟩, ?_⟩
        refine rx_cons (rx_call (rx_cons (rx_var rfl (rx_cons (rx_var rfl (rx_cons (rx_op (rx_var rfl ⟨1, rfl, .inl ⟨mp, _, -1, _, rfl, rfl, SqL.of g6.em, hb, ?_⟩⟩))))))))
        refine rx_cons (rx_var rfl (rx_nil ⟨p, d, tp, _, kvs, ns, ls, _, ts, rfl, g6.src, g6.pl, ed6, md6, fok, nm, lok, g6.tx, t3, okt, fun dd u H7 k7 s7 du dok din => ?_⟩))
        have g7 := g6.keep k7 Mild.p s7 n1 n2
        have dst : deedC dd ≠ some ("strange" : Str) := fun z => by
          rw [z] at din
          rcases List.mem_append.mp din with y | y
          · obtain ⟨t, ht, e⟩ := List.mem_map.mp y
            cases e
            exact nst ht
          · simp only [List.mem_cons, List.not_mem_nil, or_false] at y
            rcases y with y | y | y
            · cases y
            · exact atC_all allC.cs (fun z => by cases z) 0 y.symm
            · exact allC.last y.symm
        refine rx_nil ⟨dp, us, u, rfl, rfl, g7.ed, by rw [lus]; exact Nat.lt_of_le_of_lt (Nat.le_trans lds (Nat.le_of_lt lk9)) (by decide), ?_⟩
        have g8 := g7.deed du n1 n3 n4
        exact ⟨u, dd, rfl, g8, dok, dst, du.keep (Keep.at_ (m := [dp]) (by simp)) (Soft.lst g7.ed)⟩
      rintro σ' H7 ⟨u, dd, rfl, g7, dok, dst, du7⟩
      obtain ⟨kvs7, ed7, md7⟩ := g7.md _ d hd
      rw [List.take_length] at md7
      -- models.append
      refine ⟨_, rfl, .inl ⟨rfl, _, SqL.of g7.em⟩, ?_⟩
      refine rx_cons (rx_op (rx_call (rx_cons (rx_var rfl (rx_cons (rx_op (rx_var rfl ⟨1, rfl, .inl ⟨mp, _, -1, _, rfl, rfl, SqL.of g7.em, hb, ?_⟩⟩)))))))
      refine rx_cons (rx_op (rx_var rfl ⟨1, rfl, .inl ⟨dp, _, -1, _, rfl, rfl, SqL.of g7.ed, atI_last us u, ?_⟩⟩))
      refine rx_nil ⟨_, u, d, kvs7, ns, ls, _, dd, rfl, g7.pl, ed7, md7, fok, nm, lok, du7, dok, fun r2 pw pd H8 kv8 nr npw npd k8 er epw epd md8 => ?_⟩
      have g8 := g7.k0 k8
      refine .inl ⟨r2, _, 1, _, rfl, rfl, SqL.of er, rfl, ?_⟩
      refine rx_nil ⟨mp, _, _, rfl, rfl, g8.em, by rw [List.length_map, g8.la]; exact Nat.lt_of_lt_of_le (show ds.length + 1 < 100 by omega) (by decide), ?_⟩
      refine ⟨_, _, _, _, _, _, _, _, _, _, _, rfl, g8.model epd md8 n2 n3 n5, by rw [List.length_append]; show ds.length + 1 ≤ _; omega, odk.snoc dok, fun e he => ?_⟩
      rcases List.mem_append.mp he with z | z
      · exact nos e z
      · rw [List.mem_singleton.mp z]
        exact dst
    rintro σ' H5 ⟨us, as, ds, x8, x9, x10, x11, x12, x13, x14, x15, rfl, g5, lds, dks, nos⟩
    obtain ⟨fok, mk⟩ := run_ok first_ok (mark_first _) dks ds.length (Nat.le_refl _)
    have allC := run_all (P := fun c => c ≠ some ("strange" : Str)) (fun z => by cases z) first_ok (first_not _) dks nos (mark_first _) ds.length (Nat.le_refl _)
    rw [List.take_length] at fok mk allC
    have lus := g5.du.length
    rw [List.length_map] at lus
    let fs := runS ns ls (firstS ns.length) ds
    -- file
    refine ⟨fun σ' H' => ∃ x, σ' = τ (some (.ref q)) (some (.ref tp)) (some (.ref dp)) (some (.ref mp)) x8 (some (.ref x)) x10 x11 x12 x13 x14 x15 ∧ Big K H' a p tp dp mp sc (.ref q) ns ls ts us as ds ds ∧ FileIs K H' x ns ls fs, ?_, ?_⟩
    · exact rx_asg (rx_call (rx_cons (rx_var rfl (rx_cons (rx_var rfl (rx_nil ⟨_, dp, us, ns, ls, ds, rfl, g5.pl, ok, g5.ed, g5.du, dks, fun x H' nx k' hx => ⟨x, rfl, g5.k0 k', hx⟩⟩))))))
    rintro σ' H6 ⟨x, rfl, g6, hx6⟩
    -- many
    let Rv : Nat → L2.St → Hp → Prop := fun n σ' H' => ∃ (x10 x11 x12 x13 x14 x15 : Option V), σ' = τ (some (.ref q)) (some (.ref tp)) (some (.ref dp)) (some (.ref mp)) x8 (some (.ref x)) x10 x11 x12 x13 x14 x15 ∧ Big K H' a p tp dp mp sc (.ref q) ns ls ts us as ds ds ∧ FileIs K H' x ns ls fs
    refine ⟨fun σ' H' => Rv 0 σ' H', ?_, ?_⟩
    · refine rx_op ⟨_, rfl, dp, us, rfl, .inl (SqL.of g6.ed), ?_⟩
      refine rx_c ⟨_, _, rfl, rfl, rx_nil ⟨_, rfl, by omega, by rw [lus]; omega, for_range (lo := 0) Rv ⟨_, _, _, _, _, _, rfl, g6, hx6⟩ ?_ (fun σ' H' z => z)⟩⟩
      rintro mi σ H7 hmi ⟨x10, x11, x12, x13, x14, x15, rfl, g7, hx7⟩
      have hmi : mi ≤ ds.length := by
        have hmi : mi < ((us.length : Int) + 1 - 0).toNat := by simpa using hmi
        omega
      let υ : Option V → Option V → Option V → Option V → Option V → L2.St := fun x11 x12 x13 x14 x15 => τ (some (.ref q)) (some (.ref tp)) (some (.ref dp)) (some (.ref mp)) x8 (some (.ref x)) (some (.int (0 + (mi : Int)))) x11 x12 x13 x14 x15
      have em0 : (0 : Int) + (mi : Int) = (mi : Int) := Int.zero_add _
      let ms := runS ns ls (firstS ns.length) (ds.take mi)
      obtain ⟨fokm, mkm⟩ := run_ok first_ok (mark_first _) dks mi hmi
      obtain ⟨b, hb, eb⟩ := last_at (xs := as.map V.ref) (by rw [List.length_map, g7.la]; omega)
      rw [List.length_map, g7.la, Nat.add_sub_cancel, List.getElem?_map] at eb
      obtain ⟨dl, hdl⟩ : ∃ d, as[ds.length]? = some d := ⟨_, List.getElem?_eq_getElem (show ds.length < as.length by rw [g7.la]; omega)⟩
      rw [hdl] at eb
      cases eb
      obtain ⟨dm, hdm⟩ : ∃ d, as[mi]? = some d := ⟨_, List.getElem?_eq_getElem (show mi < as.length by rw [g7.la]; omega)⟩
      have atm : atI (as.map V.ref) (0 + (mi : Int)) = some (.ref dm) := by
        rw [em0]
        exact atI_nat (by rw [List.getElem?_map, hdm]; rfl)
      have mdl : ∀ {H'}, Big K H' a p tp dp mp sc (.ref q) ns ls ts us as ds ds → ∃ kvs, H' dl = some (.dK kvs) ∧ Md kvs ns fs := fun g => by
        have := g.md _ dl hdl
        rw [List.take_length] at this
        exact this
      have mdm : ∀ {H'}, Big K H' a p tp dp mp sc (.ref q) ns ls ts us as ds ds → ∃ kvs, H' dm = some (.dK kvs) ∧ Md kvs ns ms := fun g => g.md _ dm hdm
      -- other
      refine ⟨fun σ' H' => ∃ y, σ' = υ (some (.ref y)) x12 x13 x14 x15 ∧ y ≠ x ∧ Big K H' a p tp dp mp sc (.ref q) ns ls ts us as ds ds ∧ FileIs K H' x ns ls fs ∧ FileIs K H' y ns ls ms, ?_, ?_⟩
      · refine rx_asg (rx_call (rx_cons (rx_var rfl (rx_cons ⟨_, rfl, _, rfl, (0 + (mi : Int)), rfl, dp, us, rfl, SqL.of g7.ed, fun sp nsp => ?_⟩))))
        have ks : Keep [] H7 (upd H7 sp (.lst (cutV us none (some (0 + (mi : Int)))))) := Keep.new nsp
        have ec : cutV us none (some (0 + (mi : Int))) = us.take mi := by
          unfold cutV
          rw [em0, show HT.sIx us.length us.length (some (mi : Int)) = min mi us.length from sIx_n _ _ mi, HT.sIx_none, List.drop_zero, Nat.sub_zero, Nat.min_eq_left (by omega)]
        rw [ec] at ks
        rw [ec]
        have g8 := g7.k0 ks
        refine rx_nil ⟨_, sp, us.take mi, ns, ls, ds.take mi, rfl, g8.pl, ok, upd_same, by rw [List.map_take]; exact g8.du.take mi, dks.take mi, fun y H' ny k' hy => ⟨y, rfl, fun z => ?_, g8.k0 k', FileIs.k0 hx7 (ks.trans k'), hy⟩⟩
        obtain ⟨dx, r, v, hx', _⟩ := FileIs.k0 hx7 ks
        rw [z, hx'] at ny
        cases ny
      rintro σ' H8 ⟨y, rfl, yx, g8, hx8, hy8⟩
      obtain ⟨kl8, el8, ml8⟩ := mdl g8
      obtain ⟨km8, em8, mm8⟩ := mdm g8
      -- the first if
      refine ⟨fun σ' H' => σ' = υ (some (.ref y)) x12 x13 x14 x15 ∧ H' = H8, ?_, ?_⟩
      · refine rx_if (rx_or (rx_tTest (rx_op (rx_op (rx_var rfl (rx_var rfl (eqF cF CF hx8 ok.v fok mk hy8 ok.v fokm mkm fun b1 hb1 => ?_)))))))
        refine rx_op (rx_op (rx_var rfl (rx_var rfl (.inl ⟨mp, _, _, _, rfl, rfl, SqL.of g8.em, atm, ?_⟩))))
        refine rx_op (rx_var rfl ⟨1, rfl, .inl ⟨mp, _, -1, _, rfl, rfl, SqL.of g8.em, hb, md_cmp nm em8 el8 mm8 ml8 fun c hc => ⟨rfl, _, rfl, ?_⟩⟩⟩)
        have e1 : b1 = c := by
          rw [Bool.eq_iff_iff, hb1, hc]
          exact ⟨fun h => h.2.symm, fun h => ⟨⟨rfl, rfl⟩, h.symm⟩⟩
        rw [e1, Bool.false_xor, decide_eq_true rfl]
        refine iteF (rx_tTest (rx_op (rx_op (rx_var rfl (rx_var rfl (neF cF CF hy8 ok.v fokm mkm hx8 ok.v fok mk fun b2 hb2 => ?_))))))
        refine rx_op (rx_op (rx_var rfl (rx_var rfl (.inl ⟨mp, _, _, _, rfl, rfl, SqL.of g8.em, atm, ?_⟩))))
        refine rx_op (rx_var rfl ⟨1, rfl, .inl ⟨mp, _, -1, _, rfl, rfl, SqL.of g8.em, hb, md_cmp nm em8 el8 mm8 ml8 fun c2 hc2 => ⟨rfl, _, rfl, ?_⟩⟩⟩)
        have e2 : b2 = c2 := by
          rw [Bool.eq_iff_iff, hb2, hc2]
          exact ⟨fun h => h.2, fun h => ⟨⟨rfl, rfl⟩, h⟩⟩
        rw [e2, Bool.true_xor, decide_eq_true rfl]
        exact iteF ⟨rfl, rfl⟩
      rintro σ' H9 ⟨rfl, rfl⟩
      -- copy
      refine ⟨fun σ' H' => ∃ z, σ' = υ (some (.ref y)) (some (.ref z)) x13 x14 x15 ∧ z ≠ x ∧ z ≠ y ∧ Keep [] H9 H' ∧ FileIs K H' z ns ls ms, ?_, ?_⟩
      · obtain ⟨dy, ry, vy, ey, _⟩ := id hy8
        obtain ⟨dx, rx', vx, ex, _⟩ := id hx8
        refine rx_asg ⟨_, rfl, y, dy, _, rfl, ey, rfl, y, ns, ls, _, rfl, hy8, nm.n3, fun z H' nz k' hz => ⟨z, rfl, fun e => ?_, fun e => ?_, k', hz⟩⟩
        · rw [e, ex] at nz
          cases nz
        · rw [e, ey] at nz
          cases nz
      rintro σ' H10 ⟨z, rfl, zx, zy, k10, hz10⟩
      have g10 := g8.k0 k10
      have hx10 := FileIs.k0 hx8 k10
      have hy10 := FileIs.k0 hy8 k10
      obtain ⟨km10, em10, mm10⟩ := mdm g10
      -- the second if
      refine ⟨fun σ' H' => σ' = υ (some (.ref y)) (some (.ref z)) x13 x14 x15 ∧ Keep [] H10 H', ?_, ?_⟩
      · refine rx_if (rx_or (rx_not (rx_tTest (rx_op (rx_var rfl (rx_var rfl (eqF cF CF hz10 ok.v fokm mkm hy10 ok.v fokm mkm fun b1 hb1 => ⟨b1, rfl, ?_⟩)))))))
        rw [show b1 = true from hb1.mpr ⟨⟨rfl, rfl⟩, rfl⟩]
        refine iteF (rx_not (rx_tB (rx_call (rx_cons (rx_var rfl (rx_cons (rx_var rfl (rx_cons (rx_op (rx_var rfl (rx_var rfl (.inl ⟨mp, _, _, _, rfl, rfl, SqL.of g10.em, atm, ?_⟩))))))))))))
        exact rx_nil ⟨_, z, dm, km10, ns, ls, _, rfl, g10.pl, hz10, em10, mm10, fokm, nm, fun H' k' => ⟨_, rfl, iteF ⟨rfl, k'⟩⟩⟩
      rintro σ' H11 ⟨rfl, k11⟩
      have g11 := g10.k0 k11
      have hx11 := FileIs.k0 hx10 k11
      have hy11 := FileIs.k0 hy10 k11
      have hz11 := FileIs.k0 hz10 k11
      obtain ⟨km11, em11, mm11⟩ := mdm g11
      -- deed
      refine ⟨fun σ' H' => ∃ dd u, σ' = υ (some (.ref y)) (some (.ref z)) (some u) x14 x15 ∧ Big K H' a p tp dp mp sc (.ref q) ns ls ts us as ds ds ∧ FileIs K H' x ns ls fs ∧ FileIs K H' y ns ls ms ∧ FileIs K H' z ns ls ms ∧ Dt K H' u (deedD dd) ∧ DeedOk ns ls ms dd, ?_, ?_⟩
      · refine rx_asg (rx_call (rx_cons (rx_var rfl (rx_cons (rx_var rfl (rx_cons (rx_op (rx_var rfl (rx_var rfl (.inl ⟨mp, _, _, _, rfl, rfl, SqL.of g11.em, atm, ?_⟩))))))))))
        refine rx_cons (rx_var rfl (rx_nil ⟨p, dm, tp, _, km11, ns, ls, _, ts, rfl, g11.src, g11.pl, em11, mm11, fokm, nm, lok, g11.tx, t3, okt, fun dd u H12 k12 s12 du dok din => ?_⟩))
        have np : ∀ {w : Addr} {s : Fs}, FileIs K H11 w ns ls s → w ∉ [p] := fun hf e => by
          obtain ⟨dx, r, v, hx', _⟩ := hf
          obtain ⟨u1, u2, e1, _⟩ := g11.src
          rw [List.mem_singleton.mp e, e1] at hx'
          cases hx'
        exact ⟨dd, u, rfl, g11.keep k12 Mild.p s12 n1 n2, FileIs.keep hx11 k12 (np hx11) (Far.src g11.src), FileIs.keep hy11 k12 (np hy11) (Far.src g11.src), FileIs.keep hz11 k12 (np hz11) (Far.src g11.src), du, dok⟩
      rintro σ' H12 ⟨dd, u, rfl, g12, hx12, hy12, hz12, du12, dok⟩
      let ws := (behindS ns ls ms dd).1
      let s' := (behindS ns ls ms dd).2
      have fok' : FsOk ns s' := behind_ok fokm dok
      have mk' : MarkOk s' := mark_behind mkm
      obtain ⟨okws, lws⟩ := behind_words (ls := ls) (dd := dd) fokm
      obtain ⟨km12, em12, mm12⟩ := mdm g12
      -- words, model
      refine ⟨fun σ' H' => ∃ pw d kvs, σ' = υ (some (.ref y)) (some (.ref z)) (some u) (some (.ref pw)) (some (.ref d)) ∧ Keep [] H12 H' ∧ H' pw = some (.lst (ws.map V.str)) ∧ H' d = some (.dK kvs) ∧ Md kvs ns s', ?_, ?_⟩
      · refine rx_asg (rx_call (rx_cons (rx_var rfl (rx_cons (rx_op (rx_var rfl (rx_var rfl (.inl ⟨mp, _, _, _, rfl, rfl, SqL.of g12.em, atm, ?_⟩))))))))
        refine rx_cons (rx_var rfl (rx_nil ⟨_, u, dm, km12, ns, ls, _, dd, rfl, g12.pl, em12, mm12, fokm, nm, lok, du12, dok, fun r pw pd H13 kv13 nr npw npd k13 er epw epd md13 => ?_⟩))
        exact ⟨r, _, rfl, SqL.of er, rfl, _, _, rfl, _, _, rfl, rfl, pw, pd, kv13, rfl, k13, epw, epd, md13⟩
      rintro σ' H13 ⟨pw, d, kvs, rfl, k13, epw13, ed13, md13⟩
      have g13 := g12.k0 k13
      have hx13 := FileIs.k0 hx12 k13
      have hy13 := FileIs.k0 hy12 k13
      have hz13 := FileIs.k0 hz12 k13
      have du13 := du12.k0 k13
      have dpS : ∀ {H' b} {l : List Str}, H' b = some (.lst (l.map V.str)) → (∀ w ∈ l, PyData.strOk w = true) → Dp K H' (.ref b) (.list (l.map .str)) ∧ SeqAt.shaped (.list (l.map PyData.str)) = true := fun e o => ⟨.lst (SqL.of e) (dpStrs _), (Lay.list (n := 0) fun d z => by obtain ⟨u, hu, rfl⟩ := List.mem_map.mp z; exact .str (o u hu)).shaped (by decide)⟩
      -- the third if
      refine ⟨fun σ' H' => σ' = υ (some (.ref y)) (some (.ref z)) (some u) (some (.ref pw)) (some (.ref d)) ∧ Keep [z] H13 H' ∧ Src H' p ∧ FileIs K H' z ns ls s', ?_, ?_⟩
      · refine rx_if (rx_or (rx_tTest (rx_op (rx_call (rx_cons (rx_var rfl (rx_cons (rx_var rfl (rx_nil ⟨z, u, ns, ls, _, dd, rfl, hz13, fokm, nm, lok, du13, dok, fun pt H14 npt k14 ept14 hz14 => ?_⟩)))))))))
        have nz : ∀ {b o}, H13 b = some o → (∀ C dx fs, o ≠ .ins C dx fs) → b ∉ [z] := fun e n w => by
          obtain ⟨dx, r, v, hz', _⟩ := hz13
          rw [List.mem_singleton.mp w, hz'] at e
          cases e
          exact n _ _ _ rfl
        have epw14 := k14 _ _ (nz epw13 (fun _ _ _ z => by cases z)) epw13
        have ed14 := k14 _ _ (nz ed13 (fun _ _ _ z => by cases z)) ed13
        have s14 : Src H14 p := by
          obtain ⟨u1, u2, e1, _⟩ := id g13.src
          exact g13.src.keep k14 (nz e1 (fun _ _ _ z => by cases z))
        have pl14 := g13.pl.keep k14 (FileIs.far hz13).1
        obtain ⟨a1, a2⟩ := dpS ept14 okws
        obtain ⟨b1, b2⟩ := dpS epw14 okws
        refine rx_var rfl ⟨_, _, a1, b1, a2, b2, _, rfl, ?_⟩
        rw [eqv_strs, decide_eq_true rfl]
        refine iteF (rx_not (rx_tB (rx_call (rx_cons (rx_var rfl (rx_cons (rx_var rfl (rx_cons (rx_var rfl (rx_nil ⟨_, z, d, kvs, ns, ls, s', rfl, pl14, hz14, ed14, md13, fok', nm, fun H' k' => ⟨_, rfl, iteF ⟨rfl, ?_, s14.keep k' (by simp), FileIs.k0 hz14 k'⟩⟩⟩))))))))))
        exact k14.trans (Keep.of_nil k')
      rintro σ' H14 ⟨rfl, k14, s14, hz14⟩
      have nz : ∀ {b o}, H13 b = some o → (∀ C dx fs, o ≠ .ins C dx fs) → b ∉ [z] := fun e n w => by
        obtain ⟨dx, r, v, hz', _⟩ := hz13
        rw [List.mem_singleton.mp w, hz'] at e
        cases e
        exact n _ _ _ rfl
      have g14 := g13.keep k14 (Mild.file hz13) s14 n1 n2
      have hx14 := FileIs.keep hx13 k14 (by simpa using zx.symm) (FileIs.far hz13)
      have hy14 := FileIs.keep hy13 k14 (by simpa using zy.symm) (FileIs.far hz13)
      have ed14 := k14 _ _ (nz ed13 (fun _ _ _ z => by cases z)) ed13
      obtain ⟨km14, em14, mm14⟩ := mdm g14
      -- the last if
      refine rx_if (rx_or (rx_not (rx_tB (rx_call (rx_cons (rx_var rfl (rx_cons (rx_var rfl (rx_cons (rx_op (rx_var rfl (rx_var rfl (.inl ⟨mp, _, _, _, rfl, rfl, SqL.of g14.em, atm, ?_⟩)))))))))))))
      refine rx_nil ⟨_, y, dm, km14, ns, ls, _, rfl, g14.pl, hy14, em14, mm14, fokm, nm, fun H15 k15 => ⟨_, rfl, iteF ?_⟩⟩
      have g15 := g14.k0 k15
      obtain ⟨km15, em15, mm15⟩ := mdm g15
      refine rx_tTest (rx_op (rx_op (rx_var rfl (rx_var rfl (eqF cF CF (FileIs.k0 hz14 k15) ok.v fok' mk' (FileIs.k0 hy14 k15) ok.v fokm mkm fun b1 hb1 => ?_)))))
      refine rx_op (rx_var rfl (rx_op (rx_var rfl (rx_var rfl (.inl ⟨mp, _, _, _, rfl, rfl, SqL.of g15.em, atm, md_cmp nm (k15.to ed14) em15 md13 mm15 fun c hc => ⟨rfl, _, rfl, ?_⟩⟩)))))
      have e1 : b1 = c := by
        rw [Bool.eq_iff_iff, hb1, hc]
        exact ⟨fun h => h.2, fun h => ⟨⟨rfl, rfl⟩, h⟩⟩
      rw [e1, Bool.false_xor, decide_eq_true rfl]
      exact iteF ⟨_, _, _, _, _, _, rfl, g15, FileIs.k0 hx14 k15⟩
    rintro σ' H7 ⟨x10, x11, x12, x13, x14, x15, rfl, g7, hx7⟩
    refine rx_if (rx_not (rx_tB (rx_call (rx_cons (rx_var rfl (rx_cons (rx_var rfl (rx_cons (rx_var rfl (rx_nil ⟨p, x, _, ns, ls, fs, rfl, g7.src, g7.pl, ok, hx7, fok, mk, allC.mine, fun H' k' s' => ⟨_, rfl, iteF ?_⟩⟩))))))))))
    have g8 := g7.keep k' Mild.p s' n1 n2
    exact ⟨_, _, _, _, _, _, _, _, _, _, _, _, _, rfl, g8.sa, g8.src⟩
end
end La
set_option Elab.async false
set_option linter.all false
set_option maxRecDepth 100000
set_option maxHeartbeats 4000000
namespace La
open PySem PySem.Spec PyProof.Rows L2 SM
theorem facts {w : World} {K : PySem.W.Frag} {h : Heap} {mg : Str → Option Value} {fa : Addr} (X : K.In h) (G : h.Ns mainGlobals mg) (hfa : mg ("law" : Str) = some (.ref fa)) (c : SaysP fas fns prs exB K) :
    ∃ fd : FuncData, (∀ (s : Shared) (v : Value), BindsTo s fd ⟨[v], []⟩ [("script", v)]) ∧ ∀ base : Heap, K.In base → base.Ns mainGlobals mg → Sm base → FnG (PySem.Challenge.rw_stillmine_k07_files_compared_and_forked).prog w K mg base CX0 9 fa fd ["script"] (spLaw K) := by
  have hx : exB K = true := c.more
  have W : Cw fas fns K mg := ⟨⟨h, X, G⟩, c.d⟩
  obtain ⟨fd, F⟩ := c.d.def_ 66 (d := d_law) rfl
  have e := hfa.symm.trans (W.glo 61)
  cases e
  have b := FunD.bindsA (ps := ["script"]) F fun _ _ _ _ _ _ us hl => match us, hl with | [_], _ => rfl
  have Pr : PropAt K q_Rule_registers := c.prop 3
  have Pp : PropAt K q_Rule_places := c.prop 4
  have PHe : PropAt K q_File_here := c.prop 0
  have PAm : PropAt K q_File_amid := c.prop 2
  have PCh : PropAt K q_File_change := c.prop 1
  have hP := places_at hx
  refine ⟨fd, fun s v => b s [v] rfl, fun base _ _ sm => ?_⟩
  have d1 := D_law_draw (P := (PySem.Challenge.rw_stillmine_k07_files_compared_and_forked).prog) (w := w) (base := base) W
  have pk := D_law_pick W d1
  have st := D_law_steps W d1 pk
  have ts := D_law_tests W d1 pk
  have mx := D_law_mixed W d1
  have gd := D_law_good W d1 mx
  have no := D_law_noted_as (P := (PySem.Challenge.rw_stillmine_k07_files_compared_and_forked).prog) (w := w) (base := base) W
  have pl := D_law_plan W d1 pk st ts gd no
  have cf := Dchoice_of (P := (PySem.Challenge.rw_stillmine_k07_files_compared_and_forked).prog) (w := w) (base := base) W
  have am := Dare_at_most_four (P := (PySem.Challenge.rw_stillmine_k07_files_compared_and_forked).prog) (w := w) (base := base) W
  have is := Dis_step (P := (PySem.Challenge.rw_stillmine_k07_files_compared_and_forked).prog) (w := w) (base := base) W
  have it := Dis_test (P := (PySem.Challenge.rw_stillmine_k07_files_compared_and_forked).prog) (w := w) (base := base) W
  have as := Dare_steps W is am
  have il := Dis_line W it as am
  have iw := Dis_word (P := (PySem.Challenge.rw_stillmine_k07_files_compared_and_forked).prog) (w := w) (base := base) W
  have ar := Dare_registers W hx iw
  have rb := Drefuse_bad_lines W (R_BadLine W hx) il
  have ir := I_Rule Pp hP cf W (R_BadRegisters W hx) (R_BadLines W hx) ar rb
  have lr := D_law_rule W ir
  have mT := D_law_mixedT W d1
  have pS := D_law_pickS W d1
  have tx := D_law_texts W d1 pS mT
  have ed := Dedited (P := (PySem.Challenge.rw_stillmine_k07_files_compared_and_forked).prog) (w := w) (base := base) W
  have nl := Dis_needless (P := (PySem.Challenge.rw_stillmine_k07_files_compared_and_forked).prog) (w := w) (base := base) W
  have dn := Ddone (P := (PySem.Challenge.rw_stillmine_k07_files_compared_and_forked).prog) (w := w) (base := base) W
  have lt := Dline_taken (P := (PySem.Challenge.rw_stillmine_k07_files_compared_and_forked).prog) (w := w) (base := base) W
  have ha := Dharm_of (P := (PySem.Challenge.rw_stillmine_k07_files_compared_and_forked).prog) (w := w) (base := base) W
  have rm := Dremains_of (P := (PySem.Challenge.rw_stillmine_k07_files_compared_and_forked).prog) (w := w) (base := base) W
  have iT := Dis_text (P := (PySem.Challenge.rw_stillmine_k07_files_compared_and_forked).prog) (w := w) (base := base) W
  have iC := Dis_content W iT
  have iI := Dis_index (P := (PySem.Challenge.rw_stillmine_k07_files_compared_and_forked).prog) (w := w) (base := base) W
  have ra := Drefuse_bad_arrival W iC
  have IA := I_Arrival W lt
  have IS := I_ArrSteps (P := (PySem.Challenge.rw_stillmine_k07_files_compared_and_forked).prog) (w := w) (base := base) W
  have IQ := I_Quest W nl
  have IO := I_Outcome W dn ha rm IQ IS
  have IV := I_Recv W IA IS IO iI
  have IU := I_Upgrade W ra IV
  have IR := I_Renamed W Pr ra IV
  have IE := I_edit PAm W iC ed
  have fs := Dfirst_state (P := (PySem.Challenge.rw_stillmine_k07_files_compared_and_forked).prog) (w := w) (base := base) Pr W
  have IF := I_File fs W
  have nw := D_law_new (P := (PySem.Challenge.rw_stillmine_k07_files_compared_and_forked).prog) (w := w) (base := base) W
  have tk := D_law_taken (P := (PySem.Challenge.rw_stillmine_k07_files_compared_and_forked).prog) (w := w) (base := base) W
  have he := D_law_held (P := (PySem.Challenge.rw_stillmine_k07_files_compared_and_forked).prog) (w := w) (base := base) W
  have li := D_law_list W tk he
  have ia := D_law_is_asked W tk he
  have le := D_law_edited (P := (PySem.Challenge.rw_stillmine_k07_files_compared_and_forked).prog) (w := w) (base := base) W
  have an := D_law_answered (P := (PySem.Challenge.rw_stillmine_k07_files_compared_and_forked).prog) (w := w) (base := base) W
  have en := D_law_ended (P := (PySem.Challenge.rw_stillmine_k07_files_compared_and_forked).prog) (w := w) (base := base) W
  have br := D_law_brought W he li ia an en
  have de := D_law_deed W d1 pk li ia
  have bh := D_law_behind W le br
  have tl := D_law_told W IE IU IR
  have fr := D_law_file_right (P := (PySem.Challenge.rw_stillmine_k07_files_compared_and_forked).prog) (w := w) (base := base) W PHe PAm PCh Pr
  obtain ⟨cR, cF, _⟩ := ruleM_ok hx
  have IFk := I_fork W IF
  have md := D_law_made W lr tl IF
  have ul := D_law_unlike W hx PHe pl lr ir IE IF
  exact Dlaw W hx (D_law_source W) pl tx d1 nw de bh tl md ul fr IFk F
theorem script_of {K : PySem.W.Frag} {H : Hp} {a : Addr} {xs : List V} (o : Only H) (h : SqL K H a xs) : ScriptAt K H a xs := by
  rcases h with (h | ⟨ob, h⟩) | h
  · rcases o a with z | ⟨ob, ys, z⟩
    · rw [z] at h
      cases h
    · rw [z] at h
      cases h
  · exact .inl ⟨ob, h⟩
  · exact .inr fun H' => .inr h
end La
open PySem PySem.W PySem.Calls PyProof.Rows
set_option maxRecDepth 100000 in
set_option maxHeartbeats 0 in
theorem PySem.Challenge.cw_stillmine_k07_files_compared_and_forked_holds : PySem.Challenge.rw_stillmine_k07_files_compared_and_forked.Holds := by
  w_on; o_law
  refine HandSHeadRun.head_any (r := OpenLaw.row PySem.Challenge.rw_stillmine_k07_files_compared_and_forked) (q := La.qv) (H := La.hk) (ob := La.ob) (M := 20000) (loose := La.loose) (d := HandSHeadRun.topDef (OpenLaw.row PySem.Challenge.rw_stillmine_k07_files_compared_and_forked).prog 69) (kwd := []) La.ob_eq
    (by kernel_rfl) (fun s => by kernel_rfl) La.run (by kernel_rfl) (by kernel_rfl) (by kernel_rfl) (by rfl) (by first | assumption | decide +kernel) (by decide +kernel) ⟨rfl, rfl, rfl, rfl, rfl, by decide +kernel⟩ ?hw ?hc
  case hw => w_witness2
  case hc =>
    refine SM.walkG (l := PySem.Challenge.rw_stillmine_k07_files_compared_and_forked) (n := 63) (k := 9) (x := "script") (CX := L2.CX0) rfl (by decide) (by kernel_rfl) ⟨rfl, by decide, by decide⟩ (by kernel_rfl) ?F (fun _ _ _ _ z => z)
    intro w mg fa h Y G hmg0
    obtain ⟨K, KX, c⟩ := Y
    have hmg : mg ("law" : PySem.Str) = some (.ref fa) := by
      have e : (HandSHeadRun.topDef (OpenLaw.row PySem.Challenge.rw_stillmine_k07_files_compared_and_forked).prog 69).name = ("law" : PySem.Str) := by kernel_rfl
      rw [← e]
      exact hmg0
    obtain ⟨fd, hb, hF⟩ := La.facts (w := w) KX G hmg c
    exact ⟨K, fd, La.spLaw K, KX, hb, fun H a ns hl hbits ho hS => ⟨a, ns, rfl, La.script_of ho hS, hl, hbits, fun _ => rfl⟩, hF⟩
