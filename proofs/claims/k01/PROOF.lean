import PyProof.Rows.All
import Wide.All
import OpenK.AllK
import Wide.FinOn
import HandS.ForMost
import HandS.IsInst
import HandS.Wide
import HandS.TupMul
import HandS.Style
import PySem.Challenge.RW_buswindows_k01_rooms_judged
set_option Elab.async false
set_option linter.all false
set_option maxRecDepth 100000
/-! ### data: a value as it stands in the heap, read as plain data -/
namespace My
open PySem PySem.Spec PyProof.Rows L2

mutual
inductive Dd (H : Hp) : V → PyData → Prop
  | non : Dd H .non .none
  | bl (b : Bool) : Dd H (.bl b) (.bool b)
  | int (i : Int) : Dd H (.int i) (.int i)
  | str (x : Str) : Dd H (.str x) (.str x)
  | lst {a : Addr} {xs : List V} {ds : List PyData} : H a = some (.lst xs) → DdAll H xs ds → Dd H (.ref a) (.list ds)
  | tup {a : Addr} {xs : List V} {ds : List PyData} : H a = some (.tup xs) → DdAll H xs ds → Dd H (.ref a) (.tuple ds)
  | dic {a : Addr} : H a = some (.dK []) → Dd H (.ref a) (.dict [])
inductive DdAll (H : Hp) : List V → List PyData → Prop
  | nil : DdAll H [] []
  | cons {v : V} {vs : List V} {d : PyData} {ds : List PyData} : Dd H v d → DdAll H vs ds → DdAll H (v :: vs) (d :: ds)
end
mutual
theorem Dd.mono {H H' : Hp} (e : Same H H') : ∀ {d : PyData} {v : V}, Dd H v d → Dd H' v d
  | _, _, .non => .non
  | _, _, .bl b => .bl b
  | _, _, .int i => .int i
  | _, _, .str x => .str x
  | _, _, .lst h a => .lst (e _ _ h) (DdAll.mono e a)
  | _, _, .tup h a => .tup (e _ _ h) (DdAll.mono e a)
  | _, _, .dic h => .dic (e _ _ h)
theorem DdAll.mono {H H' : Hp} (e : Same H H') : ∀ {ds : List PyData} {vs : List V}, DdAll H vs ds → DdAll H' vs ds
  | _, _, .nil => .nil
  | _, _, .cons h t => .cons (Dd.mono e h) (DdAll.mono e t)
end
theorem DdAll.length {H : Hp} : ∀ {vs : List V} {ds : List PyData}, DdAll H vs ds → vs.length = ds.length
  | _, _, .nil => rfl
  | _, _, .cons _ t => congrArg (· + 1) (DdAll.length t)
theorem DdAll.get {H : Hp} : ∀ {vs : List V} {ds : List PyData} {i : Nat} {v : V}, DdAll H vs ds → vs[i]? = some v → ∃ d, ds[i]? = some d ∧ Dd H v d
  | _, _, _, _, .nil, e => by simp at e
  | _, _, 0, _, .cons h _, e => by
    simp at e
    subst e
    exact ⟨_, rfl, h⟩
  | _, _, i + 1, v, .cons _ t, e => by
    obtain ⟨d, h1, h2⟩ := DdAll.get (i := i) (v := v) t (by simpa using e)
    exact ⟨d, by simpa using h1, h2⟩
theorem DdAll.append {H : Hp} : ∀ {vs ws : List V} {ds es : List PyData}, DdAll H vs ds → DdAll H ws es → DdAll H (vs ++ ws) (ds ++ es)
  | _, _, _, _, .nil, s => s
  | _, _, _, _, .cons h t, s => .cons h (DdAll.append t s)
/-- a value's type by its data -/
def tyD : PyData → String
  | .none => "NoneType"
  | .bool _ => "bool"
  | .int _ => "int"
  | .str _ => "str"
  | .list _ => "list"
  | .tuple _ => "tuple"
  | .dict _ => "dict"
theorem Dd.ty {K : PySem.W.Frag} {H : Hp} {v : V} {d : PyData} (h : Dd H v d) : TyX K H v (.type (tyD d)) := by
  cases h with
  | non => exact .base .non
  | bl b => exact .base (.bl b)
  | int i => exact .base (.int i)
  | str x => exact .base (.str x)
  | lst h _ => exact .base (.lst h)
  | tup h _ => exact .base (.tup h)
  | dic h => exact .base (.dK h)
/-- isinstance(x, T) for a built-in T of data: the answers -/
def isIntD : PyData → Bool
  | .int _ => true
  | .bool _ => true
  | _ => false
def isBoolD : PyData → Bool
  | .bool _ => true
  | _ => false
def isTupD : PyData → Bool
  | .tuple _ => true
  | _ => false
def isLstD : PyData → Bool
  | .list _ => true
  | _ => false
theorem kit_int {K : PySem.W.Frag} (d : PyData) : PySem.W.kitOne K (.type (tyD d)) (.type "int") = some (isIntD d) := kit_ty (by cases d <;> (simp only [tyD, isIntD]; decide +kernel))
theorem kit_bool {K : PySem.W.Frag} (d : PyData) : PySem.W.kitOne K (.type (tyD d)) (.type "bool") = some (isBoolD d) := kit_ty (by cases d <;> (simp only [tyD, isBoolD]; decide +kernel))
theorem kit_tup {K : PySem.W.Frag} (d : PyData) : PySem.W.kitOne K (.type (tyD d)) (.type "tuple") = some (isTupD d) := kit_ty (by cases d <;> (simp only [tyD, isTupD]; decide +kernel))
theorem kit_lst {K : PySem.W.Frag} (d : PyData) : PySem.W.kitOne K (.type (tyD d)) (.type "list") = some (isLstD d) := kit_ty (by cases d <;> (simp only [tyD, isLstD]; decide +kernel))
mutual
theorem Dd.reads {X : Cx} {pins : List (Addr × Obj)} {σ : L2.St} {H : Hp} {s : Shared} (I : Inv X pins σ H s) : ∀ {d : PyData} {v : V} {u : Value}, Dd H v d → RelV v u → ∃ as, Reads s.heap u d as
  | _, _, _, .non, r => by
    cases r
    exact ⟨_, Reads.none⟩
  | _, _, _, .bl b, r => by
    cases r
    exact ⟨_, Reads.bool b⟩
  | _, _, _, .int i, r => by
    obtain ⟨t, rfl⟩ := r
    exact ⟨_, Reads.int i t⟩
  | _, _, _, .str x, r => by
    obtain ⟨t, rfl⟩ := r
    exact ⟨_, Reads.str x t⟩
  | _, _, _, .lst hs ha, r => by
    cases r
    obtain ⟨its, rv, ⟨o, n, ho, hc, _, hd⟩, _⟩ := I.list (.inl (.inl hs))
    obtain ⟨as, hr⟩ := DdAll.reads I ha rv
    exact ⟨_, Reads.list ho hc hd hr⟩
  | _, _, _, .tup hs ha, r => by
    cases r
    obtain ⟨its, rv, ⟨o, ho, hc, n, hd⟩, _⟩ := I.tuple (.inl (.inl hs))
    obtain ⟨as, hr⟩ := DdAll.reads I ha rv
    exact ⟨_, Reads.tuple ho hc hd hr⟩
  | _, _, _, .dic hs, r => by
    cases r
    obtain ⟨_, _, vs, rv, o, es, ep, e1, e2, e3, _, e5, _⟩ := I.hok _ _ hs
    cases rv
    have z : es.toList = [] := by
      cases h : es.toList with
      | nil => rfl
      | cons p q =>
        rw [h] at e5
        cases e5
    exact ⟨_, Reads.dict e1 e2.1 e3 (by rw [z]; exact .nil) (by rw [z]; exact .nil)⟩
theorem DdAll.reads {X : Cx} {pins : List (Addr × Obj)} {σ : L2.St} {H : Hp} {s : Shared} (I : Inv X pins σ H s) : ∀ {ds : List PyData} {vs : List V} {us : List Value}, DdAll H vs ds → Vals vs us → ∃ as, ReadsAll s.heap us ds as
  | _, _, _, .nil, r => by
    cases r
    exact ⟨_, ReadsAll.nil⟩
  | _, _, _, .cons h1 h2, r => by
    cases r with
    | cons r1 r2 =>
      obtain ⟨as, q1⟩ := Dd.reads I h1 r1
      obtain ⟨bs, q2⟩ := DdAll.reads I h2 r2
      exact ⟨_, ReadsAll.cons q1 q2⟩
end
/-- readings over lists by names that are not unfolded by themselves -/
@[irreducible] def rLenK (K : PySem.W.Frag) : List V → Hp → VK → Prop := fun xs H Q => ∃ p ys, xs = [.ref p] ∧ (SqL K H p ys ∨ SqT K H p ys) ∧ Q (.int ys.length) H
theorem call_lenK {X : Cx} : CallR X (.builtin "len") (rLenK X.K) := by
  unfold rLenK
  exact call_len_seq
@[irreducible] def rCatK : R2 := rCat
theorem op_catK {X : Cx} : OpR X (binaryOp .Add) rCatK := by
  unfold rCatK
  exact op_cat
@[irreducible] def rRepK : R2 := rRep
theorem op_repK {X : Cx} : OpR X (binaryOp .Mult) rRepK := by
  unfold rRepK
  exact op_rep
@[irreducible] def rSlK (K : PySem.W.Frag) : V → Option Int → Option Int → Hp → VK → Prop := rSlL K
theorem sl_listK {X : Cx} : SlR X (rSlK X.K) := by
  unfold rSlK
  exact sl_list
@[irreducible] def rIxK (K : PySem.W.Frag) : R2 := rIxL K
theorem ix_listK {X : Cx} : IxR X (rIxK X.K) := by
  unfold rIxK
  exact ix_list
/-- repr of data in a list or tuple, no dict within -/
def rRepr : List V → Hp → VK → Prop := fun xs H Q => ∃ a d, xs = [.ref a] ∧ Dd H (.ref a) d ∧ d.showable = true ∧ d.hasDict = false ∧ d.shown.length ≤ sizeLine ∧ d.depth ≤ 40 ∧ Q (.str d.shown) H
theorem call_repr {X : Cx} (hg : X.A.guards = some []) (hu : X.A.units + 64 < cLine) : CallR X (.builtin "repr") rRepr := by
  intro pins s σ H xs us Q I r h
  obtain ⟨a, d, rfl, hd, hs, hn, hz, hp, q⟩ := h
  obtain ⟨u, rfl, t⟩ := vals1 r
  cases t
  obtain ⟨as, rd⟩ := Dd.reads I hd rfl
  refine repr_of_reads' rd hs (PyData.noDict_hsm hn) hg (by omega) (fun _ _ e => e) (fun h' u tk hk => ⟨.str d.shown, H, I.kept hk, ⟨u, rfl⟩, q⟩) hz
end My
/-! ### defs that write reprs: the same promises where no repr is under way -/
namespace My
open PySem PySem.Spec PyProof.Rows L2
section
variable {P : Program} {w : World} {K : PySem.W.Frag} {mg : Str → Option Value} {base : Heap} {CX : CXT} {k : Nat} {f : Addr} {fd : FuncData} {ps : List Str} {sp : Sp}
/-- a def's promise, asked only where no repr is under way -/
structure FnG (P : Program) (w : World) (K : PySem.W.Frag) (mg : Str → Option Value) (base : Heap) (CX : CXT) (k : Nat) (f : Addr) (fd : FuncData) (ps : List Str) (sp : Sp) : Prop where
  len : ∀ vs H Q E, sp vs H Q E → vs.length = ps.length
  run : ∀ (A : Around) (outer : List Env) (s : Shared) (H : Hp) (args : Args) (us : List Value) (vs : List V) (Q : VK) (E : XK),
    A.guards = some [] → Room k A → Env0 P w K mg base A outer s H → BindsTo s fd args (ps.zip us) → Vals vs us → sp vs H Q E →
    codeAny (model P w) A (.call (.ref f) args) (CR CX outer P w H s Q E) s
theorem FnG.of (F : FnOk P w K mg base CX k f fd ps sp) : FnG P w K mg base CX k f fd ps sp :=
  ⟨F.len, fun A outer s H args us vs Q E _ => F.run A outer s H args us vs Q E⟩
/-- a def by its body, its own frame's guards known -/
theorem okG {x qual : Str} {st : Stmt} {N : List Str} (F : Fun K x qual st f fd) (S : FnScope N ps (defScope st)) (len : ∀ vs H Q E, sp vs H Q E → vs.length = ps.length)
    (body : ∀ (cdv : Value) (A : Around) (outer : List Env) (s : Shared) (H : Hp) (vs : List V) (Q : VK) (E : XK),
      (A.deeper (envOfC qual (defScope st) s.heap.objs.size f cdv)).guards = some [] → Room k (A.deeper (envOfC qual (defScope st) s.heap.objs.size f cdv)) → sp vs H Q E →
      ∃ t, PSs (cxOf CX P w K mg base N qual (defScope st) f cdv A outer s H E).nox (defBody st) t ∧ t { nx := fun _ H' => Q .non H', rt := Q } (start N vs) H) :
    FnG P w K mg base CX (k + 1) f fd ps sp := by
  obtain ⟨oc, od, kV, doc, pm, an, cdv, ct, osl, rfl, lk, hcd⟩ := F.ex
  constructor
  · exact len
  · intro A outer s H args us vs Q E hg hr e0 hb r hsp
    have hl := len _ _ _ _ hsp
    have stays : ∀ b o, base.get? b = some o → s.heap.get? b = some o := fun b o e => (e0.bs b o e).1
    have KX : K.In s.heap := e0.mod.kin.keeps stays
    have lim : s.heap.NoLimit := e0.mod.nolimit.keeps stays
    refine codeAny_call_function hr.depth (KX _ _ lk) rfl S.co S.gen rfl
      (PySem.W.codeRec_of KX hcd) (hb _ _ _ _ ?_)
    refine wpAny_newFunctionEnv_cells S.kind (fun y hy => ?_)
      fun env he s1 x => ?_
    · rcases S.par y.1 (List.of_mem_zip (a := y.1) (b := y.2) hy).1 with q | q
      · exact .inl q
      · exact .inr ⟨q, PySem.W.cellsFrom_some _ _ _ (.inl q)⟩
    · subst he
      refine ⟨lim.keeps x.toInCall.keep, codeAny_func ?_⟩
      obtain ⟨t, hn, hq⟩ := body cdv A outer s H vs Q E (by first | exact hg | (show pushGuards _ A.guards = _; rw [hg]; rfl)) (hr.deeper _) hsp
      have ht := hn.nox
      have I := inv_start (CX := CX) (P := P) (E := E) S hr.hd e0 hl r x
      refine wpAny_mono (ht.run [] s1 (start N vs) H _ I hq)
        (fun fl s' hs => ?_) fun e s' hs => hs
      cases fl with
      | ret u =>
        obtain ⟨v, σ', H', J, rv, q⟩ := hs
        exact ⟨v, H', J.os, J.bare, J.base, J.hok, rv, q⟩
      | next =>
        obtain ⟨σ', H', J, q⟩ := hs
        exact ⟨V.non, H', J.os, J.bare, J.base, J.hok, rfl, q⟩
      | brk =>
        obtain ⟨_, _, _, q⟩ := hs
        exact q.elim
      | cont =>
        obtain ⟨_, _, _, q⟩ := hs
        exact q.elim
end
section
variable {X : Cx} {CX : CXT} {k : Nat} {f : Addr} {fd : FuncData} {ps : List Str} {sp : Sp} {dvs : List V} {ds : List Value} {E : XK} {x : Str} {p pos : Pos} {e : Expr} {es : List Expr} {t : TA}
theorem run_g {pins : List (Addr × Obj)} {σ : L2.St} {H : Hp} {s : Shared} {Q : VK} {us : List Value} {vs : List V}
    (F : FnG X.prog X.w X.K X.mg X.base CX k f fd ps sp) (g : X.A.guards = some []) (hr : Room k X.A) (hb : Binds X.K fd ps ds) (hd : Vals dvs ds) (hx : Passes CX X E)
    (I : Inv X pins σ H s) (r : Vals vs us) (h : sp (vs ++ dvs) H Q E) : wpAny (model X.prog X.w) X.A (call (.ref f) us) (EP X pins σ Q) X.xe s := by
  have r2 : Vals (vs ++ dvs) (us ++ ds) := r.append hd
  have hl : (us ++ ds).length = ps.length := r2.length.symm.trans (F.len _ _ _ _ h)
  have c := F.run X.A X.stack s H ⟨us, []⟩ (us ++ ds) (vs ++ dvs) Q E g hr I.env0 (hb s us I.kIn hl) r2 h
  refine wpAny_call (codeAny_mono c fun r s' hq => ?_)
  match r, hq with
  | .error e, hq => exact hx pins σ H s e s' I hq
  | .ok (.ret u), hq => exact I.after hq
  | .ok .next, hq => exact False.elim hq
  | .ok .brk, hq => exact False.elim hq
  | .ok .cont, hq => exact False.elim hq
theorem pe_callG (F : FnG X.prog X.w X.K X.mg X.base CX k f fd ps sp) (g : X.A.guards = some []) (hr : Room k X.A) (hg : Gl X x) (hm : X.mg x = some (.ref f))
    (hk : PySem.W.keepIn X.K (.ref f) = true) (hb : Binds X.K fd ps ds) (hd : Vals dvs ds) (hx : Passes CX X E) (ha : PA X (e :: es) t)
    (hdb : (x == ("__debug__" : Str)) = false := by decide) (he : starEach (e :: es) X.env = (false, eval e X.env) :: starEach es X.env := by rfl)
    (hpl : (backTo pos (starEach es X.env)).any (·.1) = false := by rfl) : PE X (.Call (.Name x p) (e :: es) [] pos) (tCall sp dvs E t) := by
  constructor
  intro pins s σ H Q I h
  refine wpAny_Call_Name_kw (ld_glob I hg hm ?_ hdb)
  exact PySem.W.callWith_K (h₀ := X.base) I.ok.mod.kin hk
    (thn (ha.run pos pins s σ H _ I h) fun us s1 ⟨vs, H1, I1, r, q⟩ => ⟨I1.kIn, run_g F g hr hb hd hx I1 r q⟩) he hpl
theorem pe_call0G (F : FnG X.prog X.w X.K X.mg X.base CX k f fd ps sp) (g : X.A.guards = some []) (hr : Room k X.A) (hg : Gl X x) (hm : X.mg x = some (.ref f))
    (hk : PySem.W.keepIn X.K (.ref f) = true) (hb : Binds X.K fd ps ds) (hd : Vals dvs ds) (hx : Passes CX X E)
    (hdb : (x == ("__debug__" : Str)) = false := by decide) : PE X (.Call (.Name x p) [] [] pos) (tCall sp dvs E tNil) := by
  constructor
  intro pins s σ H Q I h
  exact wpAny_Call_Name_kw (ld_glob I hg hm (PySem.W.callWith_K0 I.kIn hk (run_g (us := []) F g hr hb hd hx I .nil h)) hdb)
end
/-- the law's call, entered where no repr is under way -/
theorem law_callG {P : Program} {w : World} {K : PySem.W.Frag} {mg mb : Str → Option Value} {k : Nat} {fa a : Addr} {fd : FuncData} {x : Str} {sp : Sp} {s1 : Shared} {vs : List Value} {ns : List Int}
    (KX : K.In s1.heap) (hns : s1.heap.Ns mainGlobals mg) (hb : s1.heap.Ns builtinsNs mb) (hbb : ∀ x : Str, x ≠ "__name__" → mb x = bootBuiltins x) (hlim : s1.heap.NoLimit) (hg : s1.gens = #[])
    (ha : s1.heap.get? a = some { cls := .type "list", data := .seq vs.toArray }) (hi : IntsAre vs ns) (hl : ns.length ≤ sizeLine) (hr : Room k callerA)
    (F : ∀ base : Heap, K.In base → base.Ns mainGlobals mg → FnG P w K mg base CX0 k fa fd [x] sp) (hbind : ∀ (s : Shared) (u : Value), BindsTo s fd ⟨[u], []⟩ [(x, u)])
    (hsp : ∀ H : Hp, Only H → SqL K H a (ns.map V.int) → sp [.ref a] H (fun v _ => v = .bl true) fun _ _ _ => False) :
    codeAny (model P w) callerA (.call (.ref fa) ⟨[.ref a], []⟩) (fun r s' => r = .ok (.ret (.bool true)) ∧ OldK s1.heap s'.heap ∧ s'.os = s1.os ∧ AllBare s'.gens) s1 := by
  have rv := vals_ints hi
  have main : ∀ H : Hp, Only H → SqL K H a (ns.map V.int) → HOk P w H s1.heap → (∀ b, H b ≠ none → b = a ∧ K.lookup a = none) →
      codeAny (model P w) callerA (.call (.ref fa) ⟨[.ref a], []⟩) (fun r s' => r = .ok (.ret (.bool true)) ∧ OldK s1.heap s'.heap ∧ s'.os = s1.os ∧ AllBare s'.gens) s1 := by
    intro H hO hS hok hA
    -- an object that is not the script is no tracked one
    have free : ∀ {b : Addr} {o : Obj}, s1.heap.get? b = some o → (b = a → False) → H b = none := fun {b o} _ n => by
      cases q : H b with
      | none => rfl
      | some u => exact (n (hA b (by rw [q]; exact fun z => nomatch z)).1).elim
    have dict : ∀ {b : Addr} {o : Obj} {es : Array DictEntry} {ep : Nat}, s1.heap.get? b = some o → o.data = .dict es ep → H b = none := fun {b o es ep} e d =>
      free e fun z => by
        subst z
        rw [ha] at e
        cases e
        exact nomatch (show Data.seq vs.toArray _ = Data.dict es ep from d)
    have ns1 : ∀ {b : Addr} {m : Str → Option Value}, s1.heap.Ns b m → (hidT s1.heap H).Ns b m := fun ⟨o, es, ep, e, d, r⟩ =>
      ⟨o, es, ep, hidT_get e (dict e d), d, r⟩
    have kin : K.In (hidT s1.heap H) := fun b o e => hidT_get (KX b o e) (by
      cases q : H b with
      | none => rfl
      | some u =>
        obtain ⟨z, z2⟩ := hA b (by rw [q]; exact fun z => nomatch z)
        subst z
        rw [z2] at e
        cases e)
    obtain ⟨mc, l1, l2⟩ := hlim
    have M : Mod K mg (hidT s1.heap H) := ⟨kin, ns1 hns, ⟨mb, ns1 hb, hbb⟩, ⟨mc, ns1 l1, l2⟩⟩
    have e0 : Env0 P w K mg (hidT s1.heap H) callerA [] s1 H :=
      ⟨rfl, M, fun b o e => of_hidT e, Nat.le_of_eq (hidT_size _ _), trivial, fun b hb => (by cases hb), hok, .of_eq hg⟩
    have c := (F _ kin (ns1 hns)).run callerA [] s1 H ⟨[.ref a], []⟩ [.ref a] [.ref a] _ _ rfl hr e0 (hbind s1 (.ref a)) (.cons rfl .nil) (hsp H hO hS)
    refine codeAny_mono c fun r s' h => ?_
    match r, h with
    | .error e, h => exact False.elim h
    | .ok .next, h => exact False.elim h
    | .ok .brk, h => exact False.elim h
    | .ok .cont, h => exact False.elim h
    | .ok (.ret u), ⟨v, H', os, bare, un, hok', r', q⟩ =>
      cases (show v = V.bl true from q)
      cases (show u = Value.bool true from r')
      refine ⟨rfl, OldK.of_keep fun b o e => ?_, os, bare⟩
      rcases hO b with z | ⟨ob, xs, z⟩
      · exact un.keep b o e z (fun y => (by cases y)) (fun y => (by cases y))
      · have e1 := (hok b _ z).1
        have e2 := (hok' b _ (un.frzs b ob _ z)).1
        rw [e1] at e
        rw [e2, e]
  have len := hi.length
  cases hk : K.lookup a with
  | some o =>
    have e := (KX a o hk).symm.trans ha
    cases e
    exact main (fun _ => none) (fun _ => .inl rfl)
      (.inr ⟨_, vs.toArray, _, hk, rfl, rfl, rfl, by rw [List.size_toArray, len]; exact hl, by simpa using rv⟩)
      (fun b u z => nomatch (show (none : Option HO) = some u from z)) fun b z => (z rfl).elim
  | none =>
    let o : Obj := { cls := .type "list", data := .seq vs.toArray }
    have here : ∀ b u, (if b = a then some (HO.frz o (.lst (ns.map V.int))) else none) = some u → b = a ∧ u = HO.frz o (.lst (ns.map V.int)) := fun b u z => by
      by_cases hb : b = a
      · rw [if_pos hb] at z
        exact ⟨hb, (Option.some.inj z).symm⟩
      · rw [if_neg hb] at z
        cases z
    refine main (fun b => if b = a then some (.frz o (.lst (ns.map V.int))) else none) (fun b => ?_) (.inl (.inr ⟨o, if_pos rfl⟩)) (fun b u z => ?_) fun b z => ?_
    · by_cases hb : b = a
      · exact .inr ⟨_, _, if_pos hb⟩
      · exact .inl (if_neg hb)
    · obtain ⟨rfl, rfl⟩ := here b u z
      exact ⟨ha, by rw [List.length_map]; exact hl, vs, _, rv, ha⟩
    · refine ⟨?_, hk⟩
      by_cases hb : b = a
      · exact hb
      · exact absurd (if_neg hb) z
theorem walkG {l : PySem.W.OpenLaw} {n k : Nat} {q : Program} {loose : List Str} {XP : (Str → Option Value) → Heap → Prop} {YP : World → Heap → Prop} {d : DefRec} {K : Params → PySem.W.Frag} {sp : PySem.W.Frag → Sp} {x : Str}
    (hn : l.most = some n) (hn2 : n ≤ sizeLine) (hdf : d.params.defaults = []) (hr : Room k callerA) (hY : ∀ (w : World) (h : Heap), YP w h → (K w.params).In h)
    (F : ∀ (w : World) (mg : Str → Option Value) (fa : Addr) (h : Heap), (K w.params).In h → h.Ns mainGlobals mg → mg d.name = some (.ref fa) →
      ∃ fd : FuncData, (∀ (s : Shared) (u : Value), BindsTo s fd ⟨[u], []⟩ [(x, u)]) ∧ ∀ base : Heap, (K w.params).In base → base.Ns mainGlobals mg → FnG l.prog w (K w.params) mg base CX0 k fa fd [x] (sp (K w.params)))
    (hsp : ∀ (w : World) (H : Hp) (a : Addr) (ns : List Int), ns.length ≤ n → Only H → SqL (K w.params) H a (ns.map V.int) → sp (K w.params) [.ref a] H (fun v _ => v = .bl true) fun _ _ _ => False) :
    PySem.W.WalkO q loose XP YP l.row.toRowW d [] (fun f vs => PySem.call f vs) := by
  refine Att.attach_call hn hdf fun w s0 s1 mg mb fa o pm cd doc a vs ns G Y ho hd hcd hmg hobj hints hlen hg => ?_
  obtain ⟨fd, hb, hF⟩ := F w mg fa _ (hY w _ Y) G.T.g hmg
  exact law_callG (hY w _ Y) G.T.g G.T.b G.T.builtins G.T.nolimit hg hobj hints (Nat.le_trans hlen hn2) hr hF hb fun H hO hS => hsp w H a ns hlen hO hS
end My
/-! ### the law's source of numbers: a dict of two lists and a count of turns -/
namespace My
open PySem PySem.Spec PyProof.Rows L2
/-- the heap without the source's dict and its list of large numbers: all else that is tracked -/
def hid (s l : Addr) (H : Hp) : Hp := fun b => if b = s ∨ b = l then none else H b
theorem hid_some {s l b : Addr} {H : Hp} {o : HO} (h : hid s l H b = some o) : b ≠ s ∧ b ≠ l ∧ H b = some o := by
  unfold hid at h
  by_cases e : b = s ∨ b = l
  · rw [if_pos e] at h
    cases h
  · rw [if_neg e] at h
    exact ⟨fun z => e (.inl z), fun z => e (.inr z), h⟩
theorem hid_of {s l b : Addr} {H : Hp} {o : HO} (h1 : b ≠ s) (h2 : b ≠ l) (h : H b = some o) : hid s l H b = some o := by
  unfold hid
  rw [if_neg fun z => z.elim h1 h2]
  exact h
theorem hid_same (s l : Addr) (H : Hp) : Same (hid s l H) H := fun _ _ h => (hid_some h).2.2
theorem Dd.out {s l : Addr} {H : Hp} {v : V} {d : PyData} (h : Dd (hid s l H) v d) : Dd H v d := h.mono (hid_same s l H)
/-- the source stands: its dict at s, the large numbers at l, the cells at c, t turns so far -/
structure Src (H : Hp) (s l c : Addr) (t : Int) : Prop where
  d : H s = some (.dK [((.inr ("large" : Str) : Key), .ref l), (.inr ("cells" : Str), .ref c), (.inr ("turn" : Str), .int t)])
  lg : ∃ xs : List Int, H l = some (.lst (xs.map V.int)) ∧ xs.length ≤ 63
  ce : ∃ ys : List Int, H c = some (.lst (ys.map V.int)) ∧ ys ≠ [] ∧ ys.length ≤ 64
  cl : c ≠ l
  t0 : 0 ≤ t
theorem Src.sl {H : Hp} {s l c : Addr} {t : Int} (S : Src H s l c t) : s ≠ l := by
  obtain ⟨xs, e, _⟩ := S.lg
  exact ne_of S.d e (fun z => by cases z)
theorem Src.sc {H : Hp} {s l c : Addr} {t : Int} (S : Src H s l c t) : s ≠ c := by
  obtain ⟨xs, e, _⟩ := S.ce
  exact ne_of S.d e (fun z => by cases z)
theorem Src.new {H : Hp} {s l c p : Addr} {t : Int} {o : HO} (S : Src H s l c t) (h : H p = none) : Src (upd H p o) s l c t := by
  obtain ⟨xs, e, hx⟩ := S.lg
  obtain ⟨ys, e2, hy⟩ := S.ce
  exact ⟨by rw [upd_ne (ne_of_none S.d h)]; exact S.d, ⟨xs, by rw [upd_ne (ne_of_none e h)]; exact e, hx⟩, ⟨ys, by rw [upd_ne (ne_of_none e2 h)]; exact e2, hy⟩, S.cl, S.t0⟩
/-- a new object is seen beside the source -/
theorem Src.hidNew {H : Hp} {s l c p : Addr} {t : Int} {o : HO} (S : Src H s l c t) (h : H p = none) : hid s l (upd H p o) p = some o := by
  obtain ⟨xs, e, _⟩ := S.lg
  exact hid_of (ne_of_none S.d h).symm (ne_of_none e h).symm upd_same
theorem same_new {H : Hp} {p : Addr} {o : HO} (h : H p = none) : Same H (upd H p o) := fun b x e => by
  rw [upd_ne (ne_of_none e h)]
  exact e
theorem hid_mono {s l : Addr} {H H' : Hp} (e : Same H H') : Same (hid s l H) (hid s l H') := fun b o h => by
  obtain ⟨h1, h2, h3⟩ := hid_some h
  exact hid_of h1 h2 (e b o h3)
/-- behind at most n turns of the source: what is tracked beside it is tracked still -/
structure Goes (s l c : Addr) (n : Int) (H H' : Hp) (t t' : Int) : Prop where
  src : Src H' s l c t'
  le : t ≤ t'
  up : t' ≤ t + n
  keep : Same (hid s l H) (hid s l H')
section
variable {H H1 H2 : Hp} {s l c p : Addr} {t t1 t2 m n : Int} {o : HO}
theorem Goes.refl (S : Src H s l c t) : Goes s l c 0 H H t t := ⟨S, Int.le_refl _, by omega, Same.refl _⟩
theorem Goes.trans (a : Goes s l c m H H1 t t1) (b : Goes s l c n H1 H2 t1 t2) : Goes s l c (m + n) H H2 t t2 :=
  ⟨b.src, Int.le_trans a.le b.le, by have := a.up; have := b.up; omega, a.keep.trans b.keep⟩
theorem Goes.wide (a : Goes s l c m H H1 t t1) (h : m ≤ n) : Goes s l c n H H1 t t1 := ⟨a.src, a.le, by have := a.up; omega, a.keep⟩
theorem Goes.new (a : Goes s l c n H H1 t t1) (h : H1 p = none) : Goes s l c n H (upd H1 p o) t t1 :=
  ⟨a.src.new h, a.le, a.up, a.keep.trans (hid_mono (same_new h))⟩
theorem Src.goesNew (S : Src H s l c t) (h : H p = none) : Goes s l c 0 H (upd H p o) t t := (Goes.refl S).new h
theorem Goes.same (a : Goes s l c n H H1 t t1) (e : Same H1 H2) : Goes s l c n H H2 t t1 := by
  obtain ⟨xs, e1, hx⟩ := a.src.lg
  obtain ⟨ys, e2, hy⟩ := a.src.ce
  exact ⟨⟨e _ _ a.src.d, ⟨xs, e _ _ e1, hx⟩, ⟨ys, e _ _ e2, hy⟩, a.src.cl, a.src.t0⟩, a.le, a.up, a.keep.trans (hid_mono e)⟩
theorem Goes.dd {v : V} {d : PyData} (g : Goes s l c n H H1 t t1) (h : Dd (hid s l H) v d) : Dd (hid s l H1) v d := h.mono g.keep
theorem Goes.dds {vs : List V} {ds : List PyData} (g : Goes s l c n H H1 t t1) (h : DdAll (hid s l H) vs ds) : DdAll (hid s l H1) vs ds := h.mono g.keep
end

theorem kLC : ¬ (("large" : Str) = "cells") := by decide +kernel
theorem kLT : ¬ (("large" : Str) = "turn") := by decide +kernel
theorem kCT : ¬ (("cells" : Str) = "turn") := by decide +kernel
theorem inr_ne {a b : Str} (h : ¬ a = b) : ¬ ((Sum.inr a : Key) = Sum.inr b) := fun z => h (Sum.inr.inj z)
section
variable {l c : Addr} {t u : Int}
abbrev srcD (l c : Addr) (t : Int) : List (Key × V) := [((.inr ("large" : Str) : Key), .ref l), (.inr ("cells" : Str), .ref c), (.inr ("turn" : Str), .int t)]
theorem src_large : valV (srcD l c t) (.inr ("large" : Str)) = some (.ref l) := valV_pos rfl
theorem src_cells : valV (srcD l c t) (.inr ("cells" : Str)) = some (.ref c) := by
  unfold valV
  rw [List.find?_cons, decide_eq_false (inr_ne kLC), List.find?_cons, decide_eq_true rfl]
  rfl
theorem src_turn : valV (srcD l c t) (.inr ("turn" : Str)) = some (.int t) := by
  unfold valV
  rw [List.find?_cons, decide_eq_false (inr_ne kLT), List.find?_cons, decide_eq_false (inr_ne kCT), List.find?_cons, decide_eq_true rfl]
  rfl
theorem src_put : putK (srcD l c t) (.inr ("turn" : Str)) (.int u) = srcD l c u := by
  unfold putK
  have h : ((srcD l c t).any fun kv => decide (kv.1 = (.inr ("turn" : Str) : Key))) = true := by
    rw [List.any_cons, List.any_cons, List.any_cons, decide_eq_true (p := (Sum.inr ("turn" : Str) : Key) = Sum.inr ("turn" : Str)) rfl]
    simp
  rw [if_pos h, List.map_cons, List.map_cons, List.map_cons, if_neg (inr_ne kLT), if_neg (inr_ne kCT), if_pos rfl]
  rfl
end
theorem Src.getL {H : Hp} {s l c : Addr} {t : Int} (S : Src H s l c t) : DGet H s (.str "large") (some (.ref l)) := by
  have h := DGet.k (k := (.inr ("large" : Str) : Key)) S.d
  rw [src_large] at h
  exact h
theorem Src.getC {H : Hp} {s l c : Addr} {t : Int} (S : Src H s l c t) : DGet H s (.str "cells") (some (.ref c)) := by
  have h := DGet.k (k := (.inr ("cells" : Str) : Key)) S.d
  rw [src_cells] at h
  exact h
theorem Src.getT {H : Hp} {s l c : Addr} {t : Int} (S : Src H s l c t) : DGet H s (.str "turn") (some (.int t)) := by
  have h := DGet.k (k := (.inr ("turn" : Str) : Key)) S.d
  rw [src_turn] at h
  exact h
theorem Src.put {H : Hp} {s l c : Addr} {t u : Int} (S : Src H s l c t) : DPut H s (.str "turn") (.int u) (upd H s (.dK (srcD l c u))) := by
  have h := DPut.k (k := (.inr ("turn" : Str) : Key)) (v := .int u) S.d (by show 3 < sizeLine; decide)
  rw [src_put] at h
  exact h
/-- the turn stored -/
theorem Src.turned {H : Hp} {s l c : Addr} {t : Int} (S : Src H s l c t) : Goes s l c 1 H (upd H s (.dK (srcD l c (t + 1)))) t (t + 1) := by
  obtain ⟨xs, e, hx⟩ := S.lg
  obtain ⟨ys, e2, hy⟩ := S.ce
  refine ⟨⟨upd_same, ⟨xs, by rw [upd_ne S.sl.symm]; exact e, hx⟩, ⟨ys, by rw [upd_ne S.sc.symm]; exact e2, hy⟩, S.cl, by have := S.t0; omega⟩, by omega, by omega, fun b o hb => ?_⟩
  obtain ⟨h1, h2, h3⟩ := hid_some hb
  exact hid_of h1 h2 (by rw [upd_ne h1]; exact h3)
/-- the large numbers stored -/
theorem Src.stored {H : Hp} {s l c : Addr} {t : Int} (S : Src H s l c t) (zs : List Int) (hz : zs.length ≤ 63) : Goes s l c 0 H (upd H l (.lst (zs.map V.int))) t t := by
  obtain ⟨ys, e2, hy⟩ := S.ce
  refine ⟨⟨by rw [upd_ne S.sl]; exact S.d, ⟨zs, upd_same, hz⟩, ⟨ys, by rw [upd_ne S.cl]; exact e2, hy⟩, S.cl, S.t0⟩, Int.le_refl _, by omega, fun b o hb => ?_⟩
  obtain ⟨h1, h2, h3⟩ := hid_some hb
  exact hid_of h1 h2 (by rw [upd_ne h2]; exact h3)
/-! lists of ints as data -/
def intsD (xs : List Int) : PyData := .list (xs.map PyData.int)
theorem dp_ints {K : PySem.W.Frag} {H : Hp} {a : Addr} : ∀ {xs : List Int}, DpAll K H (xs.map V.int) (xs.map PyData.int)
  | [] => .nil
  | x :: xs => .cons (.int x) (dp_ints (xs := xs) (a := a))
theorem lay_ints : ∀ xs : List Int, PyData.canLayAll0 (xs.map PyData.int) = true
  | [] => by simp [PyData.canLayAll0]
  | x :: xs => by simp [PyData.canLayAll0, PyData.canLay0, lay_ints xs]
theorem depth_ints : ∀ xs : List Int, PyData.depthAll (xs.map PyData.int) ≤ 1
  | [] => by simp [PyData.depthAll]
  | x :: xs => by
    have := depth_ints xs
    simp only [List.map_cons, PyData.depthAll, PyData.depth]
    omega
theorem shaped_ints (xs : List Int) : SeqAt.shaped (intsD xs) = true := by
  unfold SeqAt.shaped intsD
  have h := depth_ints xs
  have e : PyData.depth (.list (xs.map PyData.int)) ≤ 64 := by
    simp only [PyData.depth]
    omega
  rw [Bool.and_eq_true]
  exact ⟨by simp only [PyData.canLay0, lay_ints], decide_eq_true e⟩
theorem eqv_nil (x : Int) (xs : List Int) : PyData.eqv (intsD (x :: xs)) (intsD []) = false := by
  simp [intsD, PyData.eqv, PyData.eqvAll]
theorem eqv_nil0 : PyData.eqv (intsD []) (intsD []) = true := by
  simp [intsD, PyData.eqv, PyData.eqvAll]
/-- xs != [] of a list of ints, the empty list new -/
theorem ne_nil {K : PySem.W.Frag} {H : Hp} {a p : Addr} {xs : List Int} {Q : VK} (h : H a = some (.lst (xs.map V.int))) (hp : H p = some (.lst [])) (q : Q (.bl (!decide (xs = []))) H) : rNeD K (.ref a) (.ref p) H Q := by
  refine ⟨intsD xs, intsD [], .lst (SqL.of h) (dp_ints (a := a)), .lst (SqL.of hp) .nil, shaped_ints xs, shaped_ints [], ?_⟩
  cases xs with
  | nil =>
    rw [eqv_nil0]
    exact q
  | cons x r =>
    rw [eqv_nil]
    exact q
end My
/-! ### what the three defs of every law's source promise -/
namespace My
open PySem PySem.Spec PyProof.Rows L2
def sp_l_source (K : PySem.W.Frag) : Sp := fun vs H Q _ => ∃ (a : Addr) (ns : List Int), vs = [.ref a] ∧ SqL K H a (ns.map V.int) ∧ ns.length ≤ 63 ∧
  ∀ (H' : Hp) (s l c : Addr), Src H' s l c 0 → Same H (hid s l H') → Q (.ref s) H'
def sp_l_below : Sp := fun vs H Q _ => ∃ (s l c : Addr) (t many : Int), vs = [.ref s, .int many] ∧ Src H s l c t ∧ t < 2 ^ 40 ∧ 0 < many ∧ many < 2 ^ 64 ∧
  ∀ (H' : Hp) (r t' : Int), Goes s l c 1 H H' t t' → 0 ≤ r → r < many → Q (.int r) H'
def sp_l_pick : Sp := fun vs H Q _ => ∃ (s l c p : Addr) (t : Int) (xs : List V), vs = [.ref s, .ref p] ∧ Src H s l c t ∧ t < 2 ^ 40 ∧ hid s l H p = some (.lst xs) ∧ 0 < xs.length ∧ xs.length ≤ 1000 ∧
  ∀ (H' : Hp) (i : Nat) (v : V) (t' : Int), Goes s l c 1 H H' t t' → xs[i]? = some v → Q v H'
theorem get_ints {xs : List Int} {i : Nat} {v : V} (h : (xs.map V.int)[i]? = some v) : ∃ z, xs[i]? = some z ∧ v = V.int z := by
  rw [List.getElem?_map] at h
  cases e : xs[i]? with
  | none =>
    rw [e] at h
    cases h
  | some z =>
    rw [e] at h
    exact ⟨z, rfl, (Option.some.inj h).symm⟩
theorem log_of {n : Int} {k : Nat} (h0 : 0 < n) (h : n < 2 ^ k) (hk : 0 < k) (h9 : k ≤ 9000) (m : Int) : CDivW m n := by
  refine wide_div h0 (b := k) ?_ hk h9
  have e : ((2 ^ k : Nat) : Int) = (2 : Int) ^ k := by simp
  omega
end My
namespace My
open PySem PySem.Spec PyProof.Rows L2
theorem putK_out {kvs : List (Key × V)} {k : Key} {v : V} (h : ∀ p ∈ kvs, ¬ p.1 = k) : putK kvs k v = kvs ++ [(k, v)] := by
  unfold putK
  have e : (kvs.any fun kv => decide (kv.1 = k)) = false := by
    rw [List.any_eq_false]
    intro p hp
    simpa using h p hp
  rw [if_neg (by rw [e]; exact Bool.false_ne_true)]
theorem src_merge {l c : Addr} {t : Int} : mergeK [] (srcD l c t) = srcD l c t := by
  unfold mergeK
  rw [List.foldl_cons, List.foldl_cons, List.foldl_cons, List.foldl_nil, putK_out (kvs := []) (fun _ h => by cases h)]
  rw [putK_out (k := (.inr ("cells" : Str) : Key)) (fun p h => ?_), putK_out (k := (.inr ("turn" : Str) : Key)) (fun p h => ?_)]
  · rfl
  · rcases List.mem_append.mp h with h | h
    · rcases List.mem_append.mp h with h | h
      · cases h
      · rw [List.mem_singleton.mp h]
        exact inr_ne kLT
    · rw [List.mem_singleton.mp h]
      exact inr_ne kCT
  · rcases List.mem_append.mp h with h | h
    · cases h
    · rw [List.mem_singleton.mp h]
      exact inr_ne kLC
end My
namespace My
open PySem PySem.Spec PyProof.Rows L2
theorem ixN_nat {n j : Nat} (h : j < n) : ixN n (j : Int) = some j := by
  unfold ixN
  rw [if_pos (by omega), if_pos (by omega), Int.toNat_natCast]
theorem ixN_zero {n : Nat} (h : 0 < n) : ixN n 0 = some 0 := ixN_nat (j := 0) h
end My
namespace My
open PySem PySem.Spec PyProof.Rows L2
theorem seq_zero {n : Nat} (h : 0 < n) : seqIndex? 0 n = some 0 := by
  unfold seqIndex?
  simp
  omega
end My
/-! ### new data beside the source -/
namespace My
open PySem PySem.Spec PyProof.Rows L2
/-- one step of building: the source as it was, what stood stands, one more value -/
structure More (s l c : Addr) (H H1 : Hp) (t : Int) (vs : List V) (ds : List PyData) : Prop where
  src : Src H1 s l c t
  keep : Same (hid s l H) (hid s l H1)
  all : DdAll (hid s l H1) vs ds
section
variable {H H1 H2 : Hp} {s l c p : Addr} {t : Int} {vs xs : List V} {ds es : List PyData} {v : V} {d : PyData}
theorem More.start (S : Src H s l c t) : More s l c H H t [] [] := ⟨S, Same.refl _, .nil⟩
theorem More.new {o : HO} (m : More s l c H H1 t vs ds) (h : H1 p = none) : More s l c H (upd H1 p o) t vs ds :=
  ⟨m.src.new h, m.keep.trans (hid_mono (same_new h)), m.all.mono (hid_mono (same_new h))⟩
theorem More.add (m : More s l c H H1 t vs ds) (h : Dd (hid s l H1) v d) : More s l c H H1 t (v :: vs) (d :: ds) := ⟨m.src, m.keep, .cons h m.all⟩
/-- a new tuple, list, dict -/
theorem More.tup (m : More s l c H H1 t vs ds) (h : H1 p = none) (hx : DdAll (hid s l H1) xs es) : More s l c H (upd H1 p (.tup xs)) t (.ref p :: vs) (.tuple es :: ds) :=
  (m.new h).add (.tup (m.src.hidNew h) (hx.mono (hid_mono (same_new h))))
theorem More.lst (m : More s l c H H1 t vs ds) (h : H1 p = none) (hx : DdAll (hid s l H1) xs es) : More s l c H (upd H1 p (.lst xs)) t (.ref p :: vs) (.list es :: ds) :=
  (m.new h).add (.lst (m.src.hidNew h) (hx.mono (hid_mono (same_new h))))
theorem More.dic (m : More s l c H H1 t vs ds) (h : H1 p = none) : More s l c H (upd H1 p (.dK [])) t (.ref p :: vs) (.dict [] :: ds) := (m.new h).add (.dic (m.src.hidNew h))
theorem More.goes (m : More s l c H H1 t vs ds) : Goes s l c 0 H H1 t t := ⟨m.src, Int.le_refl _, by omega, m.keep⟩
theorem More.hd (m : More s l c H H1 t (v :: vs) (d :: ds)) : Dd (hid s l H1) v d := by
  cases m.all with
  | cons h _ => exact h
theorem More.tl (m : More s l c H H1 t (v :: vs) (d :: ds)) : More s l c H H1 t vs ds := by
  cases m.all with
  | cons _ h => exact ⟨m.src, m.keep, h⟩
/-- the same where the heap behind has a name -/
theorem More.tupE (m : More s l c H H1 t vs ds) (h : H1 p = none) (e : upd H1 p (.tup xs) = H2) (hx : DdAll (hid s l H1) xs es) : More s l c H H2 t (.ref p :: vs) (.tuple es :: ds) := e ▸ m.tup h hx
theorem More.lstE (m : More s l c H H1 t vs ds) (h : H1 p = none) (e : upd H1 p (.lst xs) = H2) (hx : DdAll (hid s l H1) xs es) : More s l c H H2 t (.ref p :: vs) (.list es :: ds) := e ▸ m.lst h hx
/-- the list that a data list stands for -/
theorem Dd.list {G : Hp} {a : Addr} (h : Dd G (.ref a) (.list ds)) : ∃ xs, G a = some (.lst xs) ∧ DdAll G xs ds := by
  cases h with
  | lst h1 h2 => exact ⟨_, h1, h2⟩
theorem Dd.tuple {G : Hp} {a : Addr} (h : Dd G (.ref a) (.tuple ds)) : ∃ xs, G a = some (.tup xs) ∧ DdAll G xs ds := by
  cases h with
  | tup h1 h2 => exact ⟨_, h1, h2⟩
end
def oddL : List PyData := [.none, .bool true, .bool false, .int (-16), .int 0, .int 1, .int 8, .int 16, .int 17, .int 281474976710656, .int 281474976710672,
  .int 1000000000000000000000000000000000000000, .str "", .str "16", .tuple [], .list [], .dict [], .tuple [.int 0],
  .list [.int 0, .int 16], .tuple [.int 0, .int 16], .tuple [.int 0, .int 16, .int 0], .tuple [.int 16, .int 32], .tuple [.bool true, .int 16], .tuple [.int 0, .bool true],
  .tuple [.str "0", .int 16], .tuple [.tuple [.int 0, .int 16]], .list [.tuple [.int 0, .int 16]], .tuple [.none, .none]]
def sp_l_odd : Sp := fun vs H Q _ => ∃ (s l c : Addr) (t : Int), vs = [.ref s] ∧ Src H s l c t ∧ t < 2 ^ 40 ∧
  ∀ (H' : Hp) (v : V) (d : PyData) (t' : Int), Goes s l c 1 H H' t t' → Dd (hid s l H') v d → d ∈ oddL → Q v H'
end My
/-! ### sizes and blocks as data -/
namespace My
open PySem PySem.Spec PyProof.Rows L2
def withinD : PyData → Int → Int → Bool
  | .int i, lo, hi => decide (lo ≤ i) && decide (i ≤ hi)
  | _, _, _ => false
def sizeD : PyData → Bool
  | .int i => (decide (16 ≤ i) && decide (i ≤ 281474976710656)) && decide (Builtin.bitAnd i (i - 1) = 0)
  | _ => false
def blockD : PyData → Bool
  | .tuple [.int i, .int j] => sizeD (.int j) && (withinD (.int i) 0 281474976710655 && decide (i % j = 0))
  | _ => false
def sp_q_is_within : Sp := fun vs H Q _ => ∃ (v : V) (d : PyData) (lo hi : Int), vs = [v, .int lo, .int hi] ∧ Dd H v d ∧ Q (.bl (withinD d lo hi)) H
def sp_q_is_size : Sp := fun vs H Q _ => ∃ (v : V) (d : PyData), vs = [v] ∧ Dd H v d ∧ Q (.bl (sizeD d)) H
def sp_q_is_block : Sp := fun vs H Q _ => ∃ (v : V) (d : PyData), vs = [v] ∧ Dd H v d ∧ Q (.bl (blockD d)) H
/-- a size by the law's own look: one of 45 powers -/
def sizeDue : PyData → Bool
  | .int i => (List.range 45).any fun k => decide (16 * 2 ^ k = i)
  | _ => false
def intD : PyData → Bool
  | .int _ => true
  | _ => false
def blockDue : PyData → Bool
  | .tuple [.int i, .int j] => sizeDue (.int j) && (decide (0 ≤ i) && (decide (i % j = 0) && decide (i + j ≤ 281474976710656)))
  | _ => false
theorem int_two {i : Int} (h : 0 ≤ i) : ∃ n : Nat, i = n := ⟨i.toNat, by omega⟩
theorem and_pred_pow (k : Nat) : (2 ^ k) &&& (2 ^ k - 1) = 0 := by
  rw [Nat.and_two_pow_sub_one_eq_mod]
  exact Nat.mod_self _
/-- n and n - 1 have no bit in common: n is a power of two -/
theorem pow_of_and : ∀ n : Nat, 0 < n → n &&& (n - 1) = 0 → ∃ k, n = 2 ^ k := by
  intro n
  induction n using Nat.strongRecOn with
  | ind n ih =>
    intro h0 h
    by_cases h1 : n = 1
    · exact ⟨0, by rw [h1]⟩
    rcases Nat.mod_two_eq_zero_or_one n with e | e
    · -- even
      have hd : 0 < n / 2 := by omega
      have h2 : (n / 2) &&& (n / 2 - 1) = 0 := by
        have q : (n &&& (n - 1)) / 2 = (n / 2) &&& ((n - 1) / 2) := Nat.and_div_two
        have r : (n - 1) / 2 = n / 2 - 1 := by omega
        rw [← r, ← q, h]
      obtain ⟨k, hk⟩ := ih (n / 2) (by omega) hd h2
      refine ⟨k + 1, ?_⟩
      rw [Nat.pow_succ, ← hk]
      omega
    · -- odd, above 1: n and n - 1 share a bit
      have q : (n &&& (n - 1)) / 2 = (n / 2) &&& ((n - 1) / 2) := Nat.and_div_two
      have r : (n - 1) / 2 = n / 2 := by omega
      rw [h, r, Nat.and_self] at q
      omega
theorem bit_nat (n : Nat) (h : 0 < n) : Builtin.bitAnd (n : Int) ((n : Int) - 1) = ((n &&& (n - 1) : Nat) : Int) := by
  have e : ((n : Int) - 1) = ((n - 1 : Nat) : Int) := by omega
  rw [e]
  rfl
theorem size_same (d : PyData) : sizeD d = sizeDue d := by
  cases d with
  | int i =>
    show ((decide (16 ≤ i) && decide (i ≤ 281474976710656)) && decide (Builtin.bitAnd i (i - 1) = 0)) = (List.range 45).any fun k => decide (16 * 2 ^ k = i)
    by_cases h : 16 ≤ i ∧ i ≤ 281474976710656 ∧ Builtin.bitAnd i (i - 1) = 0
    · obtain ⟨h1, h2, h3⟩ := h
      rw [decide_eq_true h1, decide_eq_true h2, decide_eq_true h3]
      obtain ⟨n, rfl⟩ := int_two (show 0 ≤ i by omega)
      rw [bit_nat n (by omega)] at h3
      obtain ⟨k, hk⟩ := pow_of_and n (by omega) (by omega)
      subst hk
      have k4 : 4 ≤ k := by
        refine Nat.le_of_not_lt fun q => ?_
        have : 2 ^ k ≤ 2 ^ 3 := Nat.pow_le_pow_right (by decide) (by omega)
        omega
      have k48 : k ≤ 48 := by
        refine Nat.le_of_not_lt fun q => ?_
        have : 2 ^ 49 ≤ 2 ^ k := Nat.pow_le_pow_right (by decide) (by omega)
        omega
      symm
      show _ = true
      rw [List.any_eq_true]
      refine ⟨k - 4, List.mem_range.mpr (by omega), decide_eq_true ?_⟩
      have e : k = 4 + (k - 4) := by omega
      rw [e, Nat.pow_add]
      have e2 : 4 + (k - 4) - 4 = k - 4 := by omega
      rw [e2]
      simp
    · have hf : ((decide (16 ≤ i) && decide (i ≤ 281474976710656)) && decide (Builtin.bitAnd i (i - 1) = 0)) = false := by
        rw [Bool.eq_false_iff]
        intro q
        simp only [Bool.and_eq_true, decide_eq_true_eq] at q
        exact h ⟨q.1.1, q.1.2, q.2⟩
      rw [hf]
      symm
      rw [List.any_eq_false]
      intro k hk q
      have hk := List.mem_range.mp hk
      have q := of_decide_eq_true q
      refine h ?_
      have e : i = ((2 ^ (k + 4) : Nat) : Int) := by
        rw [← q, Nat.pow_add]
        simp
        omega
      have b1 : 2 ^ 4 ≤ 2 ^ (k + 4) := Nat.pow_le_pow_right (by decide) (by omega)
      have b2 : 2 ^ (k + 4) ≤ 2 ^ 48 := Nat.pow_le_pow_right (by decide) (by omega)
      rw [e]
      refine ⟨by omega, by omega, ?_⟩
      rw [bit_nat _ (by omega), and_pred_pow]
      rfl
  | _ => rfl
theorem block_same (d : PyData) : blockD d = blockDue d := by
  unfold blockD blockDue
  split
  · rename_i i j
    rw [size_same]
    by_cases h : sizeDue (.int j) = true
    · rw [h]
      have h2 : sizeD (.int j) = true := by rw [size_same]; exact h
      have h3 : 16 ≤ j ∧ j ≤ 281474976710656 := by
        have q : ((decide (16 ≤ j) && decide (j ≤ 281474976710656)) && decide (Builtin.bitAnd j (j - 1) = 0)) = true := h2
        simp only [Bool.and_eq_true, decide_eq_true_eq] at q
        exact q.1
      obtain ⟨k, hk, e⟩ : ∃ k, k < 45 ∧ (16 * 2 ^ k : Int) = j := by
        have q : ((List.range 45).any fun k => decide (16 * 2 ^ k = j)) = true := h
        obtain ⟨k, h1, h2⟩ := List.any_eq_true.mp q
        exact ⟨k, List.mem_range.mp h1, of_decide_eq_true h2⟩
      -- the size divides all addresses
      have hd : (281474976710656 : Int) % j = 0 := by
        have e3 : (281474976710656 : Int) = j * 2 ^ (44 - k) := by
          rw [← e, Int.mul_assoc, ← Int.pow_add, show k + (44 - k) = 44 by omega]
          decide
        rw [e3]
        exact Int.mul_emod_right _ _
      show (true && ((decide (0 ≤ i) && decide (i ≤ 281474976710655)) && decide (i % j = 0))) = (true && (decide (0 ≤ i) && (decide (i % j = 0) && decide (i + j ≤ 281474976710656))))
      rw [Bool.eq_iff_iff]
      simp only [Bool.true_and, Bool.and_eq_true, decide_eq_true_eq]
      constructor
      · rintro ⟨⟨a, b⟩, c⟩
        refine ⟨a, c, ?_⟩
        obtain ⟨x, hx⟩ := Int.dvd_of_emod_eq_zero c
        obtain ⟨y, hy⟩ := Int.dvd_of_emod_eq_zero hd
        have : x < y := by
          refine Int.lt_of_not_ge fun q => ?_
          have : j * y ≤ j * x := Int.mul_le_mul_of_nonneg_left q (by omega)
          omega
        have : j * (x + 1) ≤ j * y := Int.mul_le_mul_of_nonneg_left (by omega) (by omega)
        rw [Int.mul_add] at this
        omega
      · rintro ⟨a, b, c⟩
        exact ⟨⟨a, by omega⟩, b⟩
    · have h := Bool.eq_false_iff.mpr h
      rw [h, Bool.false_and, Bool.false_and]
  · rfl
end My
namespace My
open PySem PySem.Spec PyProof.Rows L2
def sp_l_is_int : Sp := fun vs H Q _ => ∃ (v : V) (d : PyData), vs = [v] ∧ Dd H v d ∧ Q (.bl (intD d)) H
def sp_l_size_due : Sp := fun vs H Q _ => ∃ (v : V) (d : PyData), vs = [v] ∧ Dd H v d ∧ ∀ H', Same H H' → Q (.bl (sizeDue d)) H'
def sp_l_block_due : Sp := fun vs H Q _ => ∃ (v : V) (d : PyData), vs = [v] ∧ Dd H v d ∧ ∀ H', Same H H' → Q (.bl (blockDue d)) H'
/-- a drawn value of any kind -/
def spDraw (n : Int) : Sp := fun vs H Q _ => ∃ (s l c : Addr) (t : Int), vs = [.ref s] ∧ Src H s l c t ∧ t + n < 2 ^ 40 ∧
  ∀ (H' : Hp) (v : V) (d : PyData) (t' : Int), Goes s l c n H H' t t' → Dd (hid s l H') v d → Q v H'
abbrev sp_l_pair : Sp := spDraw 6
abbrev sp_l_number : Sp := spDraw 3
theorem all_ints {xs : List V} {i : Nat} {v : V} (h : ∀ x ∈ xs, ∃ z, x = V.int z) (e : xs[i]? = some v) : ∃ z, v = V.int z := h v (List.mem_of_getElem? e)
theorem pow_bounds {r : Int} (h0 : 0 ≤ r) (h1 : r < 45) : 16 ≤ (16 : Int) * 2 ^ r.toNat ∧ (16 : Int) * 2 ^ r.toNat ≤ 281474976710656 := by
  have a : 2 ^ 0 ≤ 2 ^ r.toNat := Nat.pow_le_pow_right (by decide) (by omega)
  have b : 2 ^ r.toNat ≤ 2 ^ 44 := Nat.pow_le_pow_right (by decide) (by omega)
  have e : ((2 ^ r.toNat : Nat) : Int) = (2 : Int) ^ r.toNat := by simp
  rw [← e]
  omega
end My
/-! ### data of tuples alone; the marks of a room and the blocks by the law's own walk -/
namespace My
open PySem PySem.Spec PyProof.Rows L2
mutual
def tupOnly : PyData → Bool
  | .list _ => false
  | .dict _ => false
  | .tuple ds => tupOnlyAll ds
  | _ => true
def tupOnlyAll : List PyData → Bool
  | [] => true
  | d :: ds => tupOnly d && tupOnlyAll ds
end
def Tups (H H' : Hp) : Prop := ∀ a xs, H a = some (.tup xs) → H' a = some (.tup xs)
mutual
theorem Dd.tups {H H' : Hp} (e : Tups H H') : ∀ {d : PyData} {v : V}, tupOnly d = true → Dd H v d → Dd H' v d
  | _, _, _, .non => .non
  | _, _, _, .bl b => .bl b
  | _, _, _, .int i => .int i
  | _, _, _, .str x => .str x
  | _, _, z, .lst _ _ => by simp [tupOnly] at z
  | _, _, z, .tup h a => .tup (e _ _ h) (DdAll.tups e (by simpa [tupOnly] using z) a)
  | _, _, z, .dic _ => by simp [tupOnly] at z
theorem DdAll.tups {H H' : Hp} (e : Tups H H') : ∀ {ds : List PyData} {vs : List V}, tupOnlyAll ds = true → DdAll H vs ds → DdAll H' vs ds
  | _, _, _, .nil => .nil
  | _, _, z, .cons h t => .cons (Dd.tups e (by simp [tupOnlyAll] at z; exact z.1) h) (DdAll.tups e (by simp [tupOnlyAll] at z; exact z.2) t)
end
theorem Src.tups {H : Hp} {s l c : Addr} {t : Int} (S : Src H s l c t) : Tups H (hid s l H) := fun a xs h => by
  obtain ⟨ys, e, _⟩ := S.lg
  exact hid_of (ne_of h S.d (fun z => by cases z)) (ne_of h e (fun z => by cases z)) h
theorem tups_upd {H : Hp} {p : Addr} {xs : List V} {o : HO} (h : H p = some (.lst xs)) : Tups H (upd H p o) := fun a ys e => by
  rw [upd_ne (ne_of e h (fun z => by cases z))]
  exact e
theorem Same.tups {H H' : Hp} (e : Same H H') : Tups H H' := fun a xs h => e a _ h
theorem Tups.trans {H H1 H2 : Hp} (a : Tups H H1) (b : Tups H1 H2) : Tups H H2 := fun x xs h => b x xs (a x xs h)
theorem Src.ne {H : Hp} {s l c p : Addr} {t : Int} (S : Src H s l c t) (h : H p = none) : p ≠ s ∧ p ≠ l ∧ p ≠ c := by
  obtain ⟨ys, e, _⟩ := S.lg
  obtain ⟨zs, e2, _⟩ := S.ce
  exact ⟨(ne_of_none S.d h).symm, (ne_of_none e h).symm, (ne_of_none e2 h).symm⟩
/-- an object of one's own is changed -/
theorem Goes.mut {H H2 : Hp} {s l c p : Addr} {t t2 n : Int} {o : HO} (S : Src H s l c t) (g : Goes s l c n H H2 t t2) (h : H p = none) : Goes s l c n H (upd H2 p o) t t2 := by
  obtain ⟨n1, n2, n3⟩ := S.ne h
  obtain ⟨ys, e, hy⟩ := g.src.lg
  obtain ⟨zs, e2, hz⟩ := g.src.ce
  refine ⟨⟨by rw [upd_ne n1.symm]; exact g.src.d, ⟨ys, by rw [upd_ne n2.symm]; exact e, hy⟩, ⟨zs, by rw [upd_ne n3.symm]; exact e2, hz⟩, g.src.cl, g.src.t0⟩, g.le, g.up, fun b u hb => ?_⟩
  have q := g.keep b u hb
  obtain ⟨h1, h2, h3⟩ := hid_some q
  have hbp : b ≠ p := ne_of_none (hid_some hb).2.2 h
  exact hid_of h1 h2 (by rw [upd_ne hbp]; exact h3)
theorem Src.hidUpd {H : Hp} {s l c p : Addr} {t : Int} {o : HO} (S : Src H s l c t) {H' : Hp} (h : H p = none) : hid s l (upd H' p o) p = some o := by
  obtain ⟨n1, n2, _⟩ := S.ne h
  exact hid_of n1 n2 upd_same

/-! the law's own walk through marks -/
def fits (bs : List Bool) (spot w : Nat) : Bool := decide (spot % w = 0) && !((bs.drop spot).take w).contains false
def widthM (bs : List Bool) (spot : Nat) (w : Nat) : Nat :=
  if h : w ≤ 1 then w else if fits bs spot w = true then w else widthM bs spot (w / 2)
termination_by w
decreasing_by omega
theorem widthM_eq (bs : List Bool) (spot w : Nat) : widthM bs spot w = if w ≤ 1 then w else if fits bs spot w = true then w else widthM bs spot (w / 2) := by
  rw [widthM]
  split <;> rfl
theorem widthM_pos (bs : List Bool) (spot : Nat) : ∀ w, 0 < w → 0 < widthM bs spot w := by
  intro w
  induction w using Nat.strongRecOn with
  | ind w ih =>
    intro h
    rw [widthM_eq]
    split
    · exact h
    · split
      · exact h
      · exact ih (w / 2) (by omega) (by omega)
theorem widthM_le (bs : List Bool) (spot : Nat) : ∀ w, widthM bs spot w ≤ w := by
  intro w
  induction w using Nat.strongRecOn with
  | ind w ih =>
    rw [widthM_eq]
    split
    · exact Nat.le_refl _
    · split
      · exact Nat.le_refl _
      · exact Nat.le_trans (ih (w / 2) (by omega)) (Nat.div_le_self _ _)
/-- the blocks from a spot on: spot and width of each -/
def roomM (bs : List Bool) (spot : Nat) : List (Nat × Nat) :=
  if h : spot < bs.length then
    (if bs[spot] = true then [(spot, widthM bs spot bs.length)] else []) ++ roomM bs (spot + widthM bs spot bs.length)
  else []
termination_by bs.length - spot
decreasing_by
  have := widthM_pos bs spot bs.length (by omega)
  omega
theorem roomM_lt {bs : List Bool} {spot : Nat} (h : spot < bs.length) : roomM bs spot = (if bs[spot] = true then [(spot, widthM bs spot bs.length)] else []) ++ roomM bs (spot + widthM bs spot bs.length) := by
  rw [roomM, dif_pos h]
theorem roomM_ge {bs : List Bool} {spot : Nat} (h : bs.length ≤ spot) : roomM bs spot = [] := by
  rw [roomM, dif_neg (by omega)]
theorem roomM_len (bs : List Bool) : ∀ n spot, bs.length - spot = n → (roomM bs spot).length ≤ n := by
  intro n
  induction n using Nat.strongRecOn with
  | ind n ih =>
    intro spot hn
    by_cases h : spot < bs.length
    · have hw := widthM_pos bs spot bs.length (by omega)
      rw [roomM_lt h, List.length_append]
      have := ih (bs.length - (spot + widthM bs spot bs.length)) (by omega) _ rfl
      have : (if bs[spot] = true then [(spot, widthM bs spot bs.length)] else []).length ≤ 1 := by split <;> simp
      omega
    · rw [roomM_ge (by omega)]
      exact Nat.zero_le _
/-- blocks as data -/
def blkD (unit first : Int) (b : Nat × Nat) : PyData := .tuple [.int (first + b.1 * unit), .int (b.2 * unit)]
def blksD (unit first : Int) (bs : List (Nat × Nat)) : List PyData := bs.map (blkD unit first)
theorem tup_blks (unit first : Int) : ∀ bs, tupOnlyAll (blksD unit first bs) = true
  | [] => by simp [blksD, tupOnlyAll]
  | b :: bs => by
    have := tup_blks unit first bs
    simp [blksD, tupOnlyAll, blkD, tupOnly] at this ⊢
    exact this
theorem in_bools (bs : List Bool) : inV (.bl false) (bs.map V.bl) = bs.contains false := by
  unfold inV
  induction bs with
  | nil => rfl
  | cons b bs ih =>
    rw [List.map_cons, List.any_cons, ih, List.contains_cons]
    cases b <;> rfl
theorem flat_bools (bs : List Bool) : (bs.map V.bl).all flatV = true := by
  rw [List.all_eq_true]
  intro x hx
  obtain ⟨b, _, rfl⟩ := List.mem_map.mp hx
  rfl
theorem cut_bools (bs : List Bool) (i w : Nat) : cutV (bs.map V.bl) (some (i : Int)) (some ((i : Int) + (w : Int))) = ((bs.drop i).take w).map V.bl := by
  have e : ((i : Int) + (w : Int)) = ((i + w : Nat) : Int) := by omega
  rw [e]
  unfold cutV
  rw [HT.sIx_nat, HT.sIx_nat, List.map_take, List.map_drop]
  rw [show (bs.map V.bl).length = bs.length from List.length_map _]
  by_cases h : i ≤ bs.length
  · rw [Nat.min_eq_left h]
    by_cases h2 : i + w ≤ bs.length
    · rw [Nat.min_eq_left h2, Nat.add_sub_cancel_left]
    · rw [Nat.min_eq_right (by omega)]
      rw [List.take_of_length_le, List.take_of_length_le]
      · rw [List.length_drop, List.length_map]
        omega
      · rw [List.length_drop, List.length_map]
        omega
  · rw [Nat.min_eq_right (show bs.length ≤ i by omega), List.drop_of_length_le (by rw [List.length_map]; exact Nat.le_refl _), List.drop_of_length_le (by rw [List.length_map]; omega)]
    simp
def sp_l_world : Sp := fun vs H Q _ => ∃ (s l c : Addr) (t : Int), vs = [.ref s] ∧ Src H s l c t ∧ t + 3 < 2 ^ 40 ∧
  ∀ (H' : Hp) (v : V) (t' : Int) (k : Nat) (m : Int), Goes s l c 3 H H' t t' → k ≤ 38 → 0 ≤ m → m < 2 ^ (38 - k) →
    Dd (hid s l H') v (.tuple [.int (16 * 2 ^ k), .int (m * 64 * (16 * 2 ^ k))]) → Q v H'
def sp_l_marks : Sp := fun vs H Q _ => ∃ (s l c : Addr) (t : Int) (n : Nat), vs = [.ref s, .int n] ∧ Src H s l c t ∧ t + (n + 30) < 2 ^ 40 ∧ 0 < n ∧ n ≤ 1000 ∧
  ∀ (H' : Hp) (p : Addr) (t' : Int) (bs : List Bool), Goes s l c (n + 30) H H' t t' → H p = none → hid s l H' p = some (.lst (bs.map V.bl)) → bs.length = n → Q (.ref p) H'
def sp_l_room (K : PySem.W.Frag) : Sp := fun vs H Q _ => ∃ (p : Addr) (bs : List Bool) (unit first : Int), vs = [.ref p, .int unit, .int first] ∧ H p = some (.lst (bs.map V.bl)) ∧ 0 < bs.length ∧ bs.length ≤ 1000 ∧
  ∀ (H' : Hp) (v : V), Same H H' → Dd H' v (.tuple (blksD unit first (roomM bs 0))) → Q v H'
end My
/-! ### what is wrong with a room, as data -/
namespace My
open PySem PySem.Spec PyProof.Rows L2
theorem DdAll.getD {H : Hp} : ∀ {vs : List V} {ds : List PyData} {i : Nat} {d : PyData}, DdAll H vs ds → ds[i]? = some d → ∃ v, vs[i]? = some v ∧ Dd H v d
  | _, _, _, _, .nil, e => by simp at e
  | _, _, 0, _, .cons h _, e => by
    simp at e
    subst e
    exact ⟨_, rfl, h⟩
  | _, _, i + 1, d, .cons _ t, e => by
    obtain ⟨v, h1, h2⟩ := DdAll.getD (i := i) (d := d) t (by simpa using e)
    exact ⟨v, by simpa using h1, h2⟩
theorem block_shape {d : PyData} (h : blockD d = true) : ∃ i j : Int, d = .tuple [.int i, .int j] ∧ 16 ≤ j ∧ j ≤ 281474976710656 ∧ 0 ≤ i ∧ i ≤ 281474976710655 ∧ i % j = 0 := by
  unfold blockD at h
  split at h
  · rename_i i j
    have h1 : ((decide (16 ≤ j) && decide (j ≤ 281474976710656)) && decide (Builtin.bitAnd j (j - 1) = 0)) = true := (Bool.and_eq_true_iff.mp h).1
    have h2 : ((decide (0 ≤ i) && decide (i ≤ 281474976710655)) && decide (i % j = 0)) = true := (Bool.and_eq_true_iff.mp h).2
    simp only [Bool.and_eq_true, decide_eq_true_eq] at h1 h2
    exact ⟨i, j, rfl, h1.1.1, h1.1.2, h2.1.1, h2.1.2, h2.2⟩
  · cases h
/-- a pair of ints in the heap -/
theorem Dd.pair {H : Hp} {v : V} {i j : Int} (h : Dd H v (.tuple [.int i, .int j])) : ∃ a, v = .ref a ∧ H a = some (.tup [.int i, .int j]) := by
  cases h with
  | tup h1 h2 =>
    cases h2 with
    | cons a h2 =>
      cases a
      cases h2 with
      | cons b h2 =>
        cases b
        cases h2
        exact ⟨_, rfl, h1⟩
def pairWord (b z i j : Int) : Option Str :=
  if i < b + z then some "order" else if j = z ∧ i = b + j ∧ b % (2 * j) = 0 then some "halves" else none
def wordD (prev : Option PyData) (d : PyData) : Option Str :=
  if blockD d = true then
    match prev, d with
    | some (.tuple [.int b, .int z]), .tuple [.int i, .int j] => pairWord b z i j
    | _, _ => none
  else some "block"
def firstErr : Nat → Option PyData → List PyData → PyData
  | _, _, [] => .none
  | i, prev, d :: r => match wordD prev d with
    | some w => .tuple [.int i, .str w]
    | none => firstErr (i + 1) (some d) r
def roomErrD : PyData → PyData
  | .tuple ds => if 128 < ds.length then .tuple [.none, .str "room"] else firstErr 0 none ds
  | _ => .tuple [.none, .str "room"]
def wordV : Option Str → V
  | none => .non
  | some w => .str w
def prevAt (ds : List PyData) (i : Nat) : Option PyData := if i = 0 then none else ds[i - 1]?
theorem first_step {ds : List PyData} {i : Nat} {d : PyData} (h : ds[i]? = some d) : firstErr i (prevAt ds i) (ds.drop i) = match wordD (prevAt ds i) d with
    | some w => .tuple [.int i, .str w]
    | none => firstErr (i + 1) (prevAt ds (i + 1)) (ds.drop (i + 1)) := by
  obtain ⟨hi, e⟩ := List.getElem?_eq_some_iff.mp h
  rw [List.drop_eq_getElem_cons hi, e]
  have ep : prevAt ds (i + 1) = some d := by
    unfold prevAt
    rw [if_neg (Nat.succ_ne_zero i), Nat.add_sub_cancel, h]
  rw [ep]
  rfl
theorem word_block {prev : Option PyData} {d : PyData} (h : wordD prev d = none) : blockD d = true := by
  unfold wordD at h
  split at h
  · assumption
  · cases h
/-- the halves by both looks -/
theorem halves_same {b z i j : Int} (hz : 0 < z) (hb : b % z = 0) : (j = z ∧ i = b + j ∧ b % (2 * j) = 0) ↔ (j = z ∧ b + z = i ∧ b / z % 2 = 0) := by
  constructor
  · rintro ⟨rfl, rfl, h⟩
    refine ⟨rfl, rfl, ?_⟩
    obtain ⟨q, rfl⟩ := Int.dvd_of_emod_eq_zero hb
    rw [Int.mul_comm 2 j, Int.mul_emod_mul_of_pos _ _ hz] at h
    rw [Int.mul_ediv_cancel_left _ (by omega)]
    rcases Int.mul_eq_zero.mp h with z | z
    · omega
    · exact z
  · rintro ⟨rfl, rfl, h⟩
    refine ⟨rfl, rfl, ?_⟩
    obtain ⟨q, rfl⟩ := Int.dvd_of_emod_eq_zero hb
    rw [Int.mul_ediv_cancel_left _ (by omega)] at h
    rw [Int.mul_comm 2 j, Int.mul_emod_mul_of_pos _ _ hz, h, Int.mul_zero]
def sp_p_item_error : Sp := fun vs H Q _ => ∃ (v : V) (ds : List PyData) (i : Nat) (d : PyData), vs = [v, .int i] ∧ Dd H v (.tuple ds) ∧ ds[i]? = some d ∧ (0 < i → ∃ b, ds[i - 1]? = some b ∧ blockD b = true) ∧
  Q (wordV (wordD (prevAt ds i) d)) H
def sp_q_room_error : Sp := fun vs H Q _ => ∃ (v : V) (d : PyData), vs = [v] ∧ Dd H v d ∧ (∀ ds, d = .tuple ds → ds.length ≤ 1000) ∧ ∀ (H' : Hp) (r : V), Same H H' → Dd H' r (roomErrD d) → Q r H'
abbrev sp_l_due1 : Sp := sp_q_room_error
def sp_l_is_block : Sp := fun vs H Q _ => ∃ (v : V) (d : PyData), vs = [v] ∧ Dd H v d ∧ ∀ H', Same H H' → Q (.bl (blockD d)) H'
/-- xs == [] of a list of ints, the empty list new -/
theorem eq_nil {K : PySem.W.Frag} {H : Hp} {a p : Addr} {xs : List Int} {Q : VK} (h : H a = some (.lst (xs.map V.int))) (hp : H p = some (.lst [])) (q : Q (.bl (decide (xs = []))) H) : rEqD K (.ref a) (.ref p) H Q := by
  refine ⟨intsD xs, intsD [], .lst (SqL.of h) (dp_ints (a := a)), .lst (SqL.of hp) .nil, shaped_ints xs, shaped_ints [], ?_⟩
  cases xs with
  | nil =>
    rw [eqv_nil0]
    exact q
  | cons x r =>
    rw [eqv_nil]
    exact q
end My
namespace My
open PySem PySem.Spec PyProof.Rows L2
theorem DdAll.take {H : Hp} : ∀ {vs : List V} {ds : List PyData} (n : Nat), DdAll H vs ds → DdAll H (vs.take n) (ds.take n)
  | _, _, 0, _ => .nil
  | _, _, _ + 1, .nil => .nil
  | _, _, n + 1, .cons h t => .cons h (DdAll.take n t)
theorem DdAll.drop {H : Hp} : ∀ {vs : List V} {ds : List PyData} (n : Nat), DdAll H vs ds → DdAll H (vs.drop n) (ds.drop n)
  | _, _, 0, h => h
  | _, _, _ + 1, .nil => .nil
  | _, _, n + 1, .cons _ t => DdAll.drop n t
theorem DdAll.rev {H : Hp} : ∀ {vs : List V} {ds : List PyData}, DdAll H vs ds → DdAll H vs.reverse ds.reverse
  | _, _, .nil => .nil
  | _, _, .cons h t => by
    rw [List.reverse_cons, List.reverse_cons]
    exact (DdAll.rev t).append (.cons h .nil)
/-- a slice of data -/
def cutD (ds : List PyData) (lo hi : Option Int) : List PyData := (ds.drop (HT.sIx ds.length 0 lo)).take (HT.sIx ds.length ds.length hi - HT.sIx ds.length 0 lo)
theorem DdAll.cut {H : Hp} {vs : List V} {ds : List PyData} (h : DdAll H vs ds) (lo hi : Option Int) : DdAll H (cutV vs lo hi) (cutD ds lo hi) := by
  unfold cutV cutD
  rw [h.length]
  exact (h.drop _).take _
theorem cutD_to (ds : List PyData) (n : Nat) : (cutD ds none (some (n : Int))).length ≤ n := by
  unfold cutD
  rw [HT.sIx_nat, HT.sIx_none, List.length_take, List.drop_zero]
  omega
theorem cutD_from (ds : List PyData) (n : Nat) : (cutD ds (some (n : Int)) none).length ≤ ds.length - n := by
  unfold cutD
  rw [HT.sIx_nat, HT.sIx_none, List.length_take, List.length_drop]
  omega
theorem cutD_one (ds : List PyData) (n : Nat) : (cutD ds (some (n : Int)) (some ((n : Int) + 1))).length ≤ 1 := by
  unfold cutD
  rw [show ((n : Int) + 1) = ((n + 1 : Nat) : Int) by omega, HT.sIx_nat, HT.sIx_nat, List.length_take]
  omega
section
variable {K : PySem.W.Frag} {G H : Hp} {a b : Addr} {ds es : List PyData} {Q : VK}
theorem Dd.sql (h : Dd H (.ref a) (.list ds)) : ∃ xs, SqL K H a xs ∧ H a = some (.lst xs) ∧ DdAll H xs ds := by
  cases h with
  | lst h1 h2 => exact ⟨_, SqL.of h1, h1, h2⟩
/-- readings over lists of data -/
theorem rd_len (e : Same G H) (h : Dd G (.ref a) (.list ds)) (q : Q (.int ds.length) H) : rLenK K [.ref a] H Q := by
  unfold rLenK
  obtain ⟨xs, h1, _, h3⟩ := (h.mono e).sql (K := K)
  refine ⟨a, xs, rfl, .inl h1, ?_⟩
  rw [h3.length]
  exact q
theorem rd_cat (e : Same G H) (ha : Dd G (.ref a) (.list ds)) (hb : Dd G (.ref b) (.list es)) (hz : ds.length + es.length ≤ 1000)
    (q : ∀ p xs, H p = none → DdAll G xs (ds ++ es) → Q (.ref p) (upd H p (.lst xs))) : rCatK (.ref a) (.ref b) H Q := by
  unfold rCatK
  cases ha with
  | lst h1 h2 =>
    cases hb with
    | lst h3 h4 =>
      refine ⟨a, b, _, _, rfl, rfl, e _ _ h1, e _ _ h3, ?_, fun p np => q p _ np (h2.append h4)⟩
      rw [h2.length, h4.length]
      exact Nat.le_of_lt (small1000 hz)
theorem rd_slice {lo hi : Option Int} (e : Same G H) (ha : Dd G (.ref a) (.list ds)) (q : ∀ p xs, H p = none → DdAll G xs (cutD ds lo hi) → Q (.ref p) (upd H p (.lst xs))) : rSlK K (.ref a) lo hi H Q := by
  unfold rSlK
  cases ha with
  | lst h1 h2 => exact ⟨a, _, rfl, SqL.of (e _ _ h1), fun p np => q p _ np (h2.cut lo hi)⟩
theorem rd_item {i : Int} {j : Nat} {d : PyData} (e : Same G H) (ha : Dd G (.ref a) (.list ds)) (hi : i = j) (hd : ds[j]? = some d) (q : ∀ v, Dd G v d → Q v H) : rIxK K (.ref a) (.int i) H Q := by
  unfold rIxK
  cases ha with
  | lst h1 h2 =>
    obtain ⟨v, hv, dv⟩ := h2.getD hd
    exact ⟨a, _, i, v, rfl, rfl, SqL.of (e _ _ h1), at_of hi hv, q v dv⟩
theorem rd_twice (e : Same G H) (ha : Dd G (.ref a) (.list ds)) (hz : ds.length ≤ 400) (q : ∀ p xs, H p = none → DdAll G xs (ds ++ ds) → Q (.ref p) (upd H p (.lst xs))) : rRepK (.ref a) (.int 2) H Q := by
  unfold rRepK
  cases ha with
  | @lst _ xs _ h1 h2 =>
    have l := h2.length
    refine ⟨a, 2, _, rfl, rfl, e _ _ h1, by decide, by decide, (by show xs.length * 2 ≤ sizeLine; exact Nat.le_of_lt (small1000 (by omega))), fun p np => ?_⟩
    have e2 : (List.replicate (2 : Int).toNat xs).flatten = xs ++ xs := by
      show xs ++ (xs ++ []) = xs ++ xs
      rw [List.append_nil]
    rw [e2]
    exact q p _ np (h2.append h2)
end
theorem More.call {H H1 H2 : Hp} {s l c : Addr} {t t2 n : Int} {vs : List V} {ds : List PyData} (m : More s l c H H1 t vs ds) (g : Goes s l c n H1 H2 t t2) : More s l c H H2 t2 vs ds :=
  ⟨g.src, m.keep.trans g.keep, g.dds m.all⟩
/-- what a room's error looks like -/
def errForms : List PyData := (.none : PyData) :: .tuple [.none, .str "room"] :: (List.range 129).flatMap fun (i : Nat) => [.tuple [.int (i : Int), .str "block"], .tuple [.int (i : Int), .str "order"], .tuple [.int (i : Int), .str "halves"]]
theorem word_forms {prev : Option PyData} {d : PyData} {w : Str} (h : wordD prev d = some w) : w = "block" ∨ w = "order" ∨ w = "halves" := by
  unfold wordD at h
  split at h
  · split at h
    · unfold pairWord at h
      split at h
      · exact .inr (.inl (Option.some.inj h).symm)
      · split at h
        · exact .inr (.inr (Option.some.inj h).symm)
        · cases h
    · cases h
  · exact .inl (Option.some.inj h).symm
theorem first_forms : ∀ (ds : List PyData) (i : Nat) (prev : Option PyData), i + ds.length ≤ 129 → firstErr i prev ds ∈ errForms
  | [], _, _, _ => List.mem_cons_self
  | d :: r, i, prev, h => by
    show (match wordD prev d with
      | some w => PyData.tuple [.int i, .str w]
      | none => firstErr (i + 1) (some d) r) ∈ errForms
    cases e : wordD prev d with
    | none => exact first_forms r (i + 1) (some d) (by rw [List.length_cons] at h; omega)
    | some w =>
      refine List.mem_cons_of_mem _ (List.mem_cons_of_mem _ (List.mem_flatMap.mpr ⟨i, List.mem_range.mpr (by rw [List.length_cons] at h; omega), ?_⟩))
      rcases word_forms e with rfl | rfl | rfl <;> simp
theorem err_forms (d : PyData) : roomErrD d ∈ errForms := by
  have bad : PyData.tuple [.none, .str "room"] ∈ errForms := List.mem_cons_of_mem _ List.mem_cons_self
  cases d with
  | tuple ds =>
    show (if 128 < ds.length then PyData.tuple [.none, .str "room"] else firstErr 0 none ds) ∈ errForms
    split
    · exact bad
    · exact first_forms ds 0 none (by omega)
  | _ => exact bad
theorem two_errs : ∀ e ∈ errForms, (PyData.list [e, e]).shown.length ≤ sizeLine ∧ (PyData.list [e, e]).showable = true ∧ (PyData.list [e, e]).hasDict = false ∧ (PyData.list [e, e]).depth ≤ 40 := by decide +kernel
/-- a list drawn and bent -/
def sp_l_bent : Sp := fun vs H Q _ => ∃ (s l c p : Addr) (t : Int) (ds : List PyData), vs = [.ref s, .ref p] ∧ Src H s l c t ∧ t + 4 < 2 ^ 40 ∧ Dd (hid s l H) (.ref p) (.list ds) ∧ ds.length ≤ 300 ∧
  ∀ (H' : Hp) (r : Addr) (t' : Int) (es : List PyData), Src H' s l c t' → t' ≤ t + 4 → Same (hid s l H) (hid s l H') → Dd (hid s l H') (.ref r) (.list es) → es.length ≤ ds.length + 1 → Q (.ref r) H'
end My
namespace My
open PySem PySem.Spec PyProof.Rows L2
def topS (i : Nat) : Stmt := PySem.Challenge.pw_buswindows_k01_rooms_judged.main.body.getD i (.Pass ⟨0, 0, 0, 0⟩)
abbrev s_q_is_integer : Stmt := topS 4
abbrev n_q_is_integer : List Str := ["value"]
theorem sc_q_is_integer : FnScope n_q_is_integer ["value"] (defScope s_q_is_integer) := ⟨rfl, rfl, rfl, by decide +kernel, rfl, by decide +kernel, by decide +kernel⟩
abbrev s_q_is_within : Stmt := topS 5
abbrev n_q_is_within : List Str := ["value", "low", "high"]
theorem sc_q_is_within : FnScope n_q_is_within ["value", "low", "high"] (defScope s_q_is_within) := ⟨rfl, rfl, rfl, by decide +kernel, rfl, by decide +kernel, by decide +kernel⟩
abbrev s_q_is_size : Stmt := topS 7
abbrev n_q_is_size : List Str := ["value"]
theorem sc_q_is_size : FnScope n_q_is_size ["value"] (defScope s_q_is_size) := ⟨rfl, rfl, rfl, by decide +kernel, rfl, by decide +kernel, by decide +kernel⟩
abbrev s_q_is_block : Stmt := topS 8
abbrev n_q_is_block : List Str := ["value", "start", "size"]
theorem sc_q_is_block : FnScope n_q_is_block ["value"] (defScope s_q_is_block) := ⟨rfl, rfl, rfl, by decide +kernel, rfl, by decide +kernel, by decide +kernel⟩
abbrev s_q_room_error : Stmt := topS 9
abbrev n_q_room_error : List Str := ["value", "index", "word"]
theorem sc_q_room_error : FnScope n_q_room_error ["value"] (defScope s_q_room_error) := ⟨rfl, rfl, rfl, by decide +kernel, rfl, by decide +kernel, by decide +kernel⟩
abbrev s_p_item_error : Stmt := topS 10
abbrev n_p_item_error : List Str := ["blocks", "index", "before", "size_before", "start", "size"]
theorem sc_p_item_error : FnScope n_p_item_error ["blocks", "index"] (defScope s_p_item_error) := ⟨rfl, rfl, rfl, by decide +kernel, rfl, by decide +kernel, by decide +kernel⟩
abbrev s_l_source : Stmt := topS 12
abbrev n_l_source : List Str := ["_law_script", "_law_cells", "_law_cell"]
theorem sc_l_source : FnScope n_l_source ["_law_script"] (defScope s_l_source) := ⟨rfl, rfl, rfl, by decide +kernel, rfl, by decide +kernel, by decide +kernel⟩
abbrev s_l_below : Stmt := topS 13
abbrev n_l_below : List Str := ["_law_source_here", "_law_many", "_law_large", "_law_found", "_law_turn", "_law_cell", "_law_mixed"]
theorem sc_l_below : FnScope n_l_below ["_law_source_here", "_law_many"] (defScope s_l_below) := ⟨rfl, rfl, rfl, by decide +kernel, rfl, by decide +kernel, by decide +kernel⟩
abbrev s_l_pick : Stmt := topS 14
abbrev n_l_pick : List Str := ["_law_source_here", "_law_items"]
theorem sc_l_pick : FnScope n_l_pick ["_law_source_here", "_law_items"] (defScope s_l_pick) := ⟨rfl, rfl, rfl, by decide +kernel, rfl, by decide +kernel, by decide +kernel⟩
abbrev s_l_odd : Stmt := topS 15
abbrev n_l_odd : List Str := ["_law_source_here", "_law_some"]
theorem sc_l_odd : FnScope n_l_odd ["_law_source_here"] (defScope s_l_odd) := ⟨rfl, rfl, rfl, by decide +kernel, rfl, by decide +kernel, by decide +kernel⟩
abbrev s_l_world : Stmt := topS 16
abbrev n_l_world : List Str := ["_law_source_here", "_law_unit", "_law_most", "_law_spot"]
theorem sc_l_world : FnScope n_l_world ["_law_source_here"] (defScope s_l_world) := ⟨rfl, rfl, rfl, by decide +kernel, rfl, by decide +kernel, by decide +kernel⟩
abbrev s_l_marks : Stmt := topS 17
abbrev n_l_marks : List Str := ["_law_source_here", "_law_many", "_law_way", "_law_k", "_law_found", "_law_turn", "_law_spot", "_law_length"]
theorem sc_l_marks : FnScope n_l_marks ["_law_source_here", "_law_many"] (defScope s_l_marks) := ⟨rfl, rfl, rfl, by decide +kernel, rfl, by decide +kernel, by decide +kernel⟩
abbrev s_l_room : Stmt := topS 18
abbrev n_l_room : List Str := ["_law_marks_here", "_law_unit", "_law_first", "_law_found", "_law_spot", "_law_width"]
theorem sc_l_room : FnScope n_l_room ["_law_marks_here", "_law_unit", "_law_first"] (defScope s_l_room) := ⟨rfl, rfl, rfl, by decide +kernel, rfl, by decide +kernel, by decide +kernel⟩
abbrev s_l_is_int : Stmt := topS 19
abbrev n_l_is_int : List Str := ["_law_value"]
theorem sc_l_is_int : FnScope n_l_is_int ["_law_value"] (defScope s_l_is_int) := ⟨rfl, rfl, rfl, by decide +kernel, rfl, by decide +kernel, by decide +kernel⟩
abbrev s_l_is_block : Stmt := topS 20
abbrev n_l_is_block : List Str := ["_law_value", "_law_k"]
theorem sc_l_is_block : FnScope n_l_is_block ["_law_value"] (defScope s_l_is_block) := ⟨rfl, rfl, rfl, by decide +kernel, rfl, by decide +kernel, by decide +kernel⟩
abbrev s_l_due : Stmt := topS 21
abbrev n_l_due : List Str := ["_law_value", "_law_index", "_law_item", "_law_before"]
theorem sc_l_due : FnScope n_l_due ["_law_value"] (defScope s_l_due) := ⟨rfl, rfl, rfl, by decide +kernel, rfl, by decide +kernel, by decide +kernel⟩
abbrev s_l_bent : Stmt := topS 22
abbrev n_l_bent : List Str := ["_law_source_here", "_law_items", "_law_spot", "_law_start", "_law_size", "_law_some", "_law_way"]
theorem sc_l_bent : FnScope n_l_bent ["_law_source_here", "_law_items"] (defScope s_l_bent) := ⟨rfl, rfl, rfl, by decide +kernel, rfl, by decide +kernel, by decide +kernel⟩
abbrev s_law : Stmt := topS 23
abbrev n_law : List Str := ["_law_script", "_law_source_here", "_law_turn", "_law_unit", "_law_first", "_law_items", "_law_k", "_law_values", "_law_value"]
theorem sc_law : FnScope n_law ["_law_script"] (defScope s_law) := ⟨rfl, rfl, rfl, by decide +kernel, rfl, by decide +kernel, by decide +kernel⟩
/-- what the top has left -/
structure Txt (K : PySem.W.Frag) (mg : Str → Option Value) where
  f_q_is_integer : Addr
  d_q_is_integer : FuncData
  F_q_is_integer : Fun K "is_integer" "is_integer" s_q_is_integer f_q_is_integer d_q_is_integer
  g_q_is_integer : mg "is_integer" = some (.ref f_q_is_integer)
  bd_q_is_integer : Binds K d_q_is_integer ["value"] []
  f_q_is_within : Addr
  d_q_is_within : FuncData
  F_q_is_within : Fun K "is_within" "is_within" s_q_is_within f_q_is_within d_q_is_within
  g_q_is_within : mg "is_within" = some (.ref f_q_is_within)
  bd_q_is_within : Binds K d_q_is_within ["value", "low", "high"] []
  f_q_is_size : Addr
  d_q_is_size : FuncData
  F_q_is_size : Fun K "is_size" "is_size" s_q_is_size f_q_is_size d_q_is_size
  g_q_is_size : mg "is_size" = some (.ref f_q_is_size)
  bd_q_is_size : Binds K d_q_is_size ["value"] []
  f_q_is_block : Addr
  d_q_is_block : FuncData
  F_q_is_block : Fun K "is_block" "is_block" s_q_is_block f_q_is_block d_q_is_block
  g_q_is_block : mg "is_block" = some (.ref f_q_is_block)
  bd_q_is_block : Binds K d_q_is_block ["value"] []
  f_q_room_error : Addr
  d_q_room_error : FuncData
  F_q_room_error : Fun K "room_error" "room_error" s_q_room_error f_q_room_error d_q_room_error
  g_q_room_error : mg "room_error" = some (.ref f_q_room_error)
  bd_q_room_error : Binds K d_q_room_error ["value"] []
  f_p_item_error : Addr
  d_p_item_error : FuncData
  F_p_item_error : Fun K "_item_error" "_item_error" s_p_item_error f_p_item_error d_p_item_error
  g_p_item_error : mg "_item_error" = some (.ref f_p_item_error)
  bd_p_item_error : Binds K d_p_item_error ["blocks", "index"] []
  f_l_source : Addr
  d_l_source : FuncData
  F_l_source : Fun K "_law_source" "_law_source" s_l_source f_l_source d_l_source
  g_l_source : mg "_law_source" = some (.ref f_l_source)
  bd_l_source : Binds K d_l_source ["_law_script"] []
  f_l_below : Addr
  d_l_below : FuncData
  F_l_below : Fun K "_law_below" "_law_below" s_l_below f_l_below d_l_below
  g_l_below : mg "_law_below" = some (.ref f_l_below)
  bd_l_below : Binds K d_l_below ["_law_source_here", "_law_many"] []
  f_l_pick : Addr
  d_l_pick : FuncData
  F_l_pick : Fun K "_law_pick" "_law_pick" s_l_pick f_l_pick d_l_pick
  g_l_pick : mg "_law_pick" = some (.ref f_l_pick)
  bd_l_pick : Binds K d_l_pick ["_law_source_here", "_law_items"] []
  f_l_odd : Addr
  d_l_odd : FuncData
  F_l_odd : Fun K "_law_odd" "_law_odd" s_l_odd f_l_odd d_l_odd
  g_l_odd : mg "_law_odd" = some (.ref f_l_odd)
  bd_l_odd : Binds K d_l_odd ["_law_source_here"] []
  f_l_world : Addr
  d_l_world : FuncData
  F_l_world : Fun K "_law_world" "_law_world" s_l_world f_l_world d_l_world
  g_l_world : mg "_law_world" = some (.ref f_l_world)
  bd_l_world : Binds K d_l_world ["_law_source_here"] []
  f_l_marks : Addr
  d_l_marks : FuncData
  F_l_marks : Fun K "_law_marks" "_law_marks" s_l_marks f_l_marks d_l_marks
  g_l_marks : mg "_law_marks" = some (.ref f_l_marks)
  bd_l_marks : Binds K d_l_marks ["_law_source_here", "_law_many"] []
  f_l_room : Addr
  d_l_room : FuncData
  F_l_room : Fun K "_law_room" "_law_room" s_l_room f_l_room d_l_room
  g_l_room : mg "_law_room" = some (.ref f_l_room)
  bd_l_room : Binds K d_l_room ["_law_marks_here", "_law_unit", "_law_first"] []
  f_l_is_int : Addr
  d_l_is_int : FuncData
  F_l_is_int : Fun K "_law_is_int" "_law_is_int" s_l_is_int f_l_is_int d_l_is_int
  g_l_is_int : mg "_law_is_int" = some (.ref f_l_is_int)
  bd_l_is_int : Binds K d_l_is_int ["_law_value"] []
  f_l_is_block : Addr
  d_l_is_block : FuncData
  F_l_is_block : Fun K "_law_is_block" "_law_is_block" s_l_is_block f_l_is_block d_l_is_block
  g_l_is_block : mg "_law_is_block" = some (.ref f_l_is_block)
  bd_l_is_block : Binds K d_l_is_block ["_law_value"] []
  f_l_due : Addr
  d_l_due : FuncData
  F_l_due : Fun K "_law_due" "_law_due" s_l_due f_l_due d_l_due
  g_l_due : mg "_law_due" = some (.ref f_l_due)
  bd_l_due : Binds K d_l_due ["_law_value"] []
  f_l_bent : Addr
  d_l_bent : FuncData
  F_l_bent : Fun K "_law_bent" "_law_bent" s_l_bent f_l_bent d_l_bent
  g_l_bent : mg "_law_bent" = some (.ref f_l_bent)
  bd_l_bent : Binds K d_l_bent ["_law_source_here", "_law_items"] []
  f_law : Addr
  d_law : FuncData
  F_law : Fun K "law" "law" s_law f_law d_law
  g_law : mg "law" = some (.ref f_law)
  bd_law : Binds K d_law ["_law_script"] []
  t_SPACE : Tok
  g_SPACE : mg "SPACE" = some (.int 281474976710656 t_SPACE)
  t_LEAST : Tok
  g_LEAST : mg "LEAST" = some (.int 16 t_LEAST)
  t_MAX_ROOM : Tok
  g_MAX_ROOM : mg "MAX_ROOM" = some (.int 128 t_MAX_ROOM)
  b_abs : mg "abs" = none
  b_bool : mg "bool" = none
  b_int : mg "int" = none
  b_isinstance : mg "isinstance" = none
  b_len : mg "len" = none
  b_list : mg "list" = none
  b_min : mg "min" = none
  b_range : mg "range" = none
  b_repr : mg "repr" = none
  b_tuple : mg "tuple" = none
section
variable {P : Program} {w : World} {K : PySem.W.Frag} {mg : Str → Option Value} {base : Heap}
set_option maxHeartbeats 4000000
theorem ok_l_source (T : Txt K mg) : FnOk P w K mg base CX0 1 T.f_l_source T.d_l_source ["_law_script"]  (sp_l_source K) := by
  refine T.F_l_source.ok sc_l_source (fun vs H Q E h => ?_) (fun cdv A outer s H vs Q E hr h => ?_)
  · obtain ⟨a, ns, rfl, _⟩ := h
    rfl
  · obtain ⟨a, ns, rfl, hS, hlen, q⟩ := h
    refine ⟨_, (pss_cons (ps_setLc (i := 1) (own := [("_law_cell", 2)]) (g := gName 2) (by rfl) sc_l_source.nd rfl rfl (sw_true rfl rfl rfl (by decide +kernel)) (pi_list (pv 0)) (blkOk_by (own := [("_law_cell", 2)]) (N := n_l_source) (sc := defScope s_l_source) (by decide +kernel)) (fun _ _ _ _ _ => (pg_name (i := 2) sc_l_source.nd rfl (Or.inl rfl))) (fun _ _ _ _ _ => pts_nil) (fun _ _ _ _ _ => (pe_callB call_abs (by rfl) T.b_abs (by decide +kernel) (pa_cons (pv 2) pa_nil))))
      (pss_one (ps_ret (pe_disp (pps_cons pe_str (pe_lc (own := [("_law_cell", 2)]) (g := gName 2) (by rfl) sc_l_source.nd (pi_list (pv 1)) (blkOk_by (own := [("_law_cell", 2)]) (N := n_l_source) (sc := defScope s_l_source) (by decide +kernel)) (fun _ _ _ _ _ => (pg_name (i := 2) sc_l_source.nd rfl (Or.inl rfl))) (fun _ _ _ _ _ => (pts_one (pt_cmpR op_gt (pv 2) (pe_op op_pow pe_int pe_int) (nomark _)))) (fun _ _ _ _ _ => (pv 2))) (pps_cons pe_str (pe_op op_cat (pv 1) (pe_lst (pa_cons (pe_op op_add (pe_callB call_len_seq (by rfl) T.b_len (by decide +kernel) (pa_cons (pv 1) pa_nil)) pe_int) pa_nil))) (pps_cons pe_str pe_int pps_nil))) (by rfl) (by rfl) (fun z => by cases z) (by decide))))), ?_⟩
    -- the cells: abs of each number
    refine ⟨.ref a, rfl, a, rfl, ⟨_, hS⟩, fun C hC => lc_list (K := K) (a := a) (xs := ns.map V.int) (fun i H1 => Same H H1 ∧ H C = none ∧ ∃ ys : List Int, H1 C = some (.lst (ys.map V.int)) ∧ ys.length = i) ⟨same_new hC, hC, [], upd_same, rfl⟩
      (fun i H1 _ p => p.1.seq hS) ?_ ?_⟩
    · rintro i x H1 hi ⟨sm, nC, ys, e, el⟩
      obtain ⟨z, hz, rfl⟩ := get_ints hi
      have hil : i < ns.length := (List.getElem?_eq_some_iff.mp hz).1
      refine ⟨rfl, ?_⟩
      refine iteT (B := Same H H1 ∧ H C = none ∧ ∃ ys : List Int, H1 C = some (.lst (ys.map V.int)) ∧ ys.length = i + 1) ?_
      refine ⟨_, rfl, z, rfl, _, e, ?_, fun b o h => ?_, nC, ys ++ [if z < 0 then -z else z], ?_, ?_⟩
      · rw [List.length_map]
        exact small1000 (by omega)
      · rw [upd_ne (ne_of_none h nC)]
        exact sm b o h
      · rw [upd_same, List.map_append]
        rfl
      · rw [List.length_append, el]
        rfl
    · rintro H1 ⟨sm, nC, ys, e, el⟩
      rw [List.length_map] at el
      -- the dict
      intro s ns0
      -- the large ones
      refine ⟨.ref C, rfl, C, rfl, ⟨_, SqL.of (by rw [upd_ne (ne_of_none e ns0)]; exact e)⟩, fun l hl => ?_⟩
      have nls : l ≠ s := fun z => by
        subst z
        rw [upd_same] at hl
        cases hl
      have nlC : C ≠ l := ne_of_none (by rw [upd_ne (ne_of_none e ns0)]; exact e) hl
      have hl1 : H1 l = none := by
        rw [upd_ne nls] at hl
        exact hl
      refine lc_list (K := K) (a := C) (xs := ys.map V.int) (fun i H2 => Same H H2 ∧ H2 C = some (.lst (ys.map V.int)) ∧ H2 s = some (.dK []) ∧ ∃ zs : List Int, H2 l = some (.lst (zs.map V.int)) ∧ zs.length ≤ i)
        ⟨fun b o h => ?_, by rw [upd_ne nlC, upd_ne (ne_of_none e ns0)]; exact e, by rw [upd_ne nls.symm, upd_same], [], upd_same, Nat.le_refl _⟩ (fun i H2 _ p => SqL.of p.2.1) ?_ ?_
      · have h1 := sm b o h
        rw [upd_ne (ne_of_none h1 hl1), upd_ne (ne_of_none h1 ns0)]
        exact h1
      · rintro i x H2 hi ⟨sm2, eC, es, zs, ez, lz⟩
        obtain ⟨z, hz, rfl⟩ := get_ints hi
        have hil : i < ys.length := (List.getElem?_eq_some_iff.mp hz).1
        refine ⟨rfl, ?_⟩
        refine ⟨_, rfl, _, _, rfl, rfl, (by unfold CPow; decide), z, _, rfl, rfl, _, rfl, ?_⟩
        refine ite2 (fun _ => ?_) (fun _ => ?_)
        · refine ⟨_, rfl, _, ez, ?_, fun b o h => ?_, by rw [upd_ne nlC]; exact eC, by rw [upd_ne nls.symm]; exact es, zs ++ [z], ?_, ?_⟩
          · rw [List.length_map]
            exact small1000 (by omega)
          · rw [upd_ne (ne_of_none (sm b o h) hl1)]
            exact sm2 b o h
          · rw [upd_same, List.map_append]
            rfl
          · rw [List.length_append]
            show zs.length + 1 ≤ i + 1
            omega
        · exact ⟨sm2, eC, es, zs, ez, by omega⟩
      · rintro H2 ⟨sm2, eC, es, zs, ez, lz⟩
        rw [List.length_map] at lz
        -- the cells and one more
        refine ⟨_, rfl, _, rfl, C, _, rfl, .inl (SqL.of eC), _, _, rfl, rfl, (by show 1 ≤ sizeLine; decide), fun p np => ?_⟩
        refine ⟨C, p, _, _, rfl, rfl, by rw [upd_ne (ne_of_none eC np)]; exact eC, upd_same, ?_, fun c hc => ?_⟩
        · rw [List.length_map]
          exact Nat.le_of_lt (small1000 (by show ys.length + 1 ≤ 1000; omega))
        have nsp : s ≠ p := ne_of_none es np
        have nlp : l ≠ p := ne_of_none ez np
        have ncp : c ≠ p := fun z => by
          subst z
          rw [upd_same] at hc
          cases hc
        have hc2 : H2 c = none := by
          rw [upd_ne ncp] at hc
          exact hc
        have nsc : s ≠ c := ne_of_none es hc2
        have nlc : l ≠ c := ne_of_none ez hc2
        refine ⟨by rw [upd_ne nsc, upd_ne nsp]; exact es, [(.inr ("large" : Str), .ref l), (.inr ("cells" : Str), .ref c), (.inr ("turn" : Str), .int 0)], rfl, (by show 3 ≤ 15; decide), ?_⟩
        have em : mergeK [] ([(.inr ("large" : Str), .ref l), (.inr ("cells" : Str), .ref c), (.inr ("turn" : Str), .int 0)] : List (Key × V)) = srcD l c 0 := src_merge
        rw [em]
        refine q _ s l c ⟨upd_same, ⟨zs, by rw [upd_ne nls, upd_ne nlc, upd_ne nlp]; exact ez, by omega⟩, ⟨ys ++ [_], by rw [upd_ne nsc.symm, upd_same, List.map_append]; rfl, by simp, by rw [List.length_append]; show ys.length + 1 ≤ 64; omega⟩, nlc.symm, Int.le_refl _⟩ fun b o h => ?_
        have h1 := sm b o h
        have h2 := sm2 b o h
        refine hid_of (ne_of_none h1 ns0) (ne_of_none h1 hl1) ?_
        rw [upd_ne (ne_of_none h1 ns0), upd_ne (ne_of_none h2 hc2), upd_ne (ne_of_none h2 np)]
        exact h2
theorem ok_l_below (T : Txt K mg) : FnOk P w K mg base CX0 1 T.f_l_below T.d_l_below ["_law_source_here", "_law_many"] sp_l_below := by
  refine T.F_l_below.ok sc_l_below (fun vs H Q E h => ?_) (fun cdv A outer s H vs Q E hr h => ?_)
  · obtain ⟨s, l, c, t, many, rfl, _⟩ := h
    rfl
  · obtain ⟨s, l, c, t, many, rfl, S, ht, m0, m1, q⟩ := h
    have hu := hu_of hr
    have S0 := S
    obtain ⟨xs, el, hx⟩ := S.lg
    refine ⟨_, (pss_cons (ps_set (i := 2) sc_l_below.nd rfl (by first | exact Or.inl rfl | exact Or.inr rfl) (pe_dget hu (pv 0) pe_str (fun _ _ => rfl)))
      (pss_cons (ps_if (pt_cmpR (op_neD hr.units) (pv 2) (pe_lst pa_nil) (nomark _))
      (pss_cons (ps_set (i := 3) sc_l_below.nd rfl (by first | exact Or.inl rfl | exact Or.inr rfl) (pe_op op_mod (pe_ix ix_list (pv 2) pe_int (fun _ _ => rfl)) (pv 1)))
      (pss_cons (ps_asg (pe_op op_fdivW (pe_ix ix_list (pv 2) pe_int (fun _ _ => rfl)) (pv 1)) (pg_sub (pv 2) pe_int set_list))
      (pss_cons (ps_if (pt_cmpR op_eq (pe_ix ix_list (pv 2) pe_int (fun _ _ => rfl)) pe_int (nomark _))
      (pss_one (ps_expr (pe_bm PySem.F.plainAttrs_list PySem.F.slot_list_pop PySem.F.type_list_pop mt_popAt (pv 2) (pa_cons pe_int pa_nil))))
      pss_nil)
      (pss_one (ps_ret (pv 3))))))
      pss_nil)
      (pss_cons (ps_set (i := 4) sc_l_below.nd rfl (by first | exact Or.inl rfl | exact Or.inr rfl) (pe_op op_add (pe_dget hu (pv 0) pe_str (fun _ _ => rfl)) pe_int))
      (pss_cons (ps_dput hu (pv 0) pe_str (pv 4) rfl)
      (pss_cons (ps_set (i := 5) sc_l_below.nd rfl (by first | exact Or.inl rfl | exact Or.inr rfl) (pe_op op_mod (pe_ix ix_list (pe_dget hu (pv 0) pe_str (fun _ _ => rfl)) (pe_op op_mod (pv 4) (pe_callB call_len_seq (by rfl) T.b_len (by decide +kernel) (pa_cons (pe_dget hu (pv 0) pe_str (fun _ _ => rfl)) pa_nil))) (fun _ _ => rfl)) pe_int))
      (pss_cons (ps_set (i := 6) sc_l_below.nd rfl (by first | exact Or.inl rfl | exact Or.inr rfl) (pe_op op_mod (pe_op op_add (pe_op op_add (pe_op op_mul (pv 5) (pe_op op_add pe_int (pe_op op_mul pe_int (pv 4)))) (pe_op op_mul (pe_op op_mul pe_int (pv 4)) (pv 4))) pe_int) pe_int))
      (pss_one (ps_ret (pe_op op_mod (pe_op op_mod (pe_op op_fdivW (pe_op op_mul (pv 6) (pv 6)) pe_int) pe_int) (pv 1)))))))))), ?_⟩
    refine ⟨_, rfl, s, _, rfl, S.getL, ?_⟩
    refine ⟨_, rfl, Nat.zero_le _, fun p np => ne_nil (xs := xs) (by rw [upd_ne (ne_of_none el np)]; exact el) upd_same ⟨_, rfl, ?_⟩⟩
    have g1 : Goes s l c 0 H (upd H p (.lst [])) t t := S.goesNew np
    have el1 : (upd H p (.lst [])) l = some (.lst (xs.map V.int)) := by
      rw [upd_ne (ne_of_none el np)]
      exact el
    generalize upd H p (.lst []) = H1 at g1 el1 ⊢
    cases xs with
    | cons x r =>
      refine iteT ?_
      -- found = large[0] % many
      refine ⟨_, rfl, l, _, _, .int x, rfl, rfl, SqL.of el1, atI_nat (j := 0) rfl, _, rfl, x, many, rfl, rfl, m0, ?_⟩
      -- large[0] = large[0] // many
      refine ⟨_, rfl, l, _, _, .int x, rfl, rfl, SqL.of el1, atI_nat (j := 0) rfl, _, rfl, x, many, rfl, rfl, log_of m0 m1 (by decide) (by decide) x, ?_⟩
      refine ⟨_, rfl, l, _, 0, 0, rfl, rfl, el1, ixN_zero (by rw [List.length_map]; exact Nat.succ_pos _), ?_⟩
      have g2 := g1.src.stored ((x / many) :: r) (by simpa using hx)
      have e2 : (upd H1 l (.lst (((x :: r).map V.int).set 0 (.int (x / many))))) = upd H1 l (.lst (((x / many) :: r).map V.int)) := rfl
      rw [e2]
      -- if large[0] == 0: large.pop(0)
      refine ⟨_, rfl, l, _, _, .int (x / many), rfl, rfl, SqL.of upd_same, atI_nat (j := 0) rfl, rfl, _, rfl, ?_⟩
      have rl := Int.emod_nonneg x (show many ≠ 0 by omega)
      have rh := Int.emod_lt_of_pos x m0
      refine ite2 (fun _ => ?_) (fun _ => ?_)
      · refine ⟨_, rfl, .inl ⟨rfl, _, SqL.of upd_same⟩, l, _, 0, 0, .int (x / many), rfl, rfl, upd_same, by decide, by decide, ?_, rfl, ?_⟩
        · exact seq_zero (by rw [List.length_map]; exact Nat.succ_pos _)
        refine ⟨_, rfl, ?_⟩
        have g3 := g2.src.stored r (by simp at hx; omega)
        exact q _ _ _ (((g1.trans g2).trans g3).wide (by decide)) rl rh
      · refine ⟨_, rfl, ?_⟩
        exact q _ _ _ ((g1.trans g2).wide (by decide)) rl rh
    | nil =>
      refine iteF ?_
      -- turn = source['turn'] + 1; stored
      refine ⟨_, rfl, s, _, rfl, g1.src.getT, _, _, rfl, rfl, ?_⟩
      refine ⟨_, rfl, _, rfl, s, _, rfl, g1.src.put, ?_⟩
      have g2 := g1.trans g1.src.turned
      generalize (upd H1 s (.dK (srcD l c (t + 1)))) = H2 at g2 ⊢
      obtain ⟨ys, ec, ny, hy⟩ := g2.src.ce
      have t0 := S0.t0
      have yl : 0 < ys.length := List.length_pos_iff.mpr ny
      -- the cell
      have b0 := Int.emod_nonneg (t + 1) (show (ys.length : Int) ≠ 0 by omega)
      have b1 := Int.emod_lt_of_pos (t + 1) (show (0 : Int) < ys.length by omega)
      have bk : ((t + 1) % (ys.length : Int)).toNat < ys.length := by omega
      refine ⟨_, rfl, s, .ref c, rfl, g2.src.getC, _, rfl, _, rfl, s, .ref c, rfl, g2.src.getC, c, _, rfl, .inl (SqL.of ec), t + 1, (ys.length : Int), rfl, (by rw [List.length_map]), by omega, ?_⟩
      refine ⟨c, _, _, .int ys[((t + 1) % (ys.length : Int)).toNat], rfl, rfl, SqL.of ec, at_of (j := ((t + 1) % (ys.length : Int)).toNat) (by omega) (by rw [List.getElem?_map, List.getElem?_eq_getElem bk]; rfl), ?_⟩
      generalize ys[((t + 1) % (ys.length : Int)).toNat] = y
      refine ⟨y, 2147483629, rfl, rfl, (by show (0 : Int) < 2147483629; decide), ?_⟩
      dsimp only
      have c0 := Int.emod_nonneg y (show (2147483629 : Int) ≠ 0 by decide)
      have c1 := Int.emod_lt_of_pos y (show (0 : Int) < 2147483629 by decide)
      generalize y % 2147483629 = z at c0 c1 ⊢
      -- mixed
      refine ⟨_, rfl, _, rfl, 69621, t + 1, rfl, rfl, .inl ⟨by decide, by decide⟩, 40014, _, rfl, rfl, z, _, rfl, rfl, .inl ⟨by omega, by omega⟩, ?_⟩
      refine ⟨_, rfl, 48271, t + 1, rfl, rfl, .inl ⟨by decide, by decide⟩, _, rfl, _, t + 1, rfl, rfl, .inr ⟨by omega, by omega⟩, _, _, rfl, rfl, _, 7, rfl, rfl, _, 2147483647, rfl, rfl, (by show (0 : Int) < 2147483647; decide), ?_⟩
      dsimp only
      generalize (z * (40014 + 69621 * (t + 1)) + 48271 * (t + 1) * (t + 1) + 7) = m
      have d0 := Int.emod_nonneg m (show (2147483647 : Int) ≠ 0 by decide)
      have d1 := Int.emod_lt_of_pos m (show (0 : Int) < 2147483647 by decide)
      generalize m % 2147483647 = x at d0 d1 ⊢
      refine ⟨_, rfl, _, rfl, x, x, rfl, rfl, .inl ⟨by omega, by omega⟩, _, 32, rfl, rfl, log_of (k := 6) (by decide) (by decide) (by decide) (by decide) _, _, 2147483587, rfl, rfl, (by show (0 : Int) < 2147483587; decide), _, rfl, _, many, rfl, rfl, m0, ?_⟩
      exact q _ _ _ (g2.wide (by decide)) (Int.emod_nonneg _ (show many ≠ 0 by omega)) (Int.emod_lt_of_pos _ m0)
theorem ok_l_pick (T : Txt K mg) : FnOk P w K mg base CX0 2 T.f_l_pick T.d_l_pick ["_law_source_here", "_law_items"] sp_l_pick := by
  refine T.F_l_pick.ok sc_l_pick (fun vs H Q E h => ?_) (fun cdv A outer s H vs Q E hr h => ?_)
  · obtain ⟨s, l, c, p, t, xs, rfl, _⟩ := h
    rfl
  · obtain ⟨s, l, c, p, t, xs, rfl, S, ht, hp, x0, x1, q⟩ := h
    refine ⟨_, (pss_one (ps_ret (pe_ix ix_list (pv 1) (pe_call (ok_l_below T) (hr.mono (by decide)) (by rfl) T.g_l_below T.F_l_below.kp T.bd_l_below .nil pass0 (pa_cons (pv 0) (pa_cons (pe_callB call_len_seq (by rfl) T.b_len (by decide +kernel) (pa_cons (pv 1) pa_nil)) pa_nil))) (fun _ _ => rfl)))), ?_⟩
    refine ⟨_, rfl, _, rfl, _, rfl, p, xs, rfl, .inl (SqL.of (hid_some hp).2.2), ?_⟩
    refine ⟨s, l, c, t, xs.length, rfl, S, ht, by omega, by omega, fun H' r t' g r0 r1 => ?_⟩
    have hk : r.toNat < xs.length := by omega
    exact ⟨p, xs, r, xs[r.toNat], rfl, rfl, SqL.of (hid_some (g.keep _ _ hp)).2.2, at_of (j := r.toNat) (by omega) (List.getElem?_eq_getElem hk), q H' r.toNat _ t' g (List.getElem?_eq_getElem hk)⟩
def sp_q_is_integer : Sp := fun vs H Q _ => ∃ (v : V) (d : PyData), vs = [v] ∧ Dd H v d ∧ Q (.bl (intD d)) H
theorem ok_q_is_integer (T : Txt K mg) : FnOk P w K mg base CX0 1 T.f_q_is_integer T.d_q_is_integer ["value"] sp_q_is_integer := by
  refine T.F_q_is_integer.ok sc_q_is_integer (fun vs H Q E h => ?_) (fun cdv A outer s H vs Q E hr h => ?_)
  · obtain ⟨v, d, rfl, _⟩ := h
    rfl
  · obtain ⟨v, d, rfl, hd, q⟩ := h
    refine ⟨_, (pss_one (ps_ret (pe_and (pe_callB call_isi (by rfl) T.b_isinstance (by decide +kernel) (pa_cons (pv 0) (pa_cons (pe_bltn (v := .ty "int") (u := .type "int") (by rfl) T.b_int (by decide +kernel) rfl) pa_nil))) (pe_one (pe_not (pe_callB call_isi (by rfl) T.b_isinstance (by decide +kernel) (pa_cons (pv 0) (pa_cons (pe_bltn (v := .ty "bool") (u := .type "bool") (by rfl) T.b_bool (by decide +kernel) rfl) pa_nil)))))))), ?_⟩
    refine ⟨_, rfl, _, _, _, _, _, rfl, .ty _, hd.ty, kit_int d, _, rfl, ?_⟩
    cases hd with
    | int i =>
      refine iteT ?_
      exact ⟨_, rfl, _, _, _, _, _, rfl, .ty _, (Dd.int i).ty, kit_bool _, _, rfl, q⟩
    | bl b =>
      refine iteT ?_
      exact ⟨_, rfl, _, _, _, _, _, rfl, .ty _, (Dd.bl b).ty, kit_bool _, _, rfl, q⟩
    | non => exact iteF q
    | str x => exact iteF q
    | lst h1 h2 => exact iteF q
    | tup h1 h2 => exact iteF q
    | dic h1 => exact iteF q
theorem ok_q_is_within (T : Txt K mg) : FnOk P w K mg base CX0 2 T.f_q_is_within T.d_q_is_within ["value", "low", "high"] sp_q_is_within := by
  refine T.F_q_is_within.ok sc_q_is_within (fun vs H Q E h => ?_) (fun cdv A outer s H vs Q E hr h => ?_)
  · obtain ⟨v, d, lo, hi, rfl, _⟩ := h
    rfl
  · obtain ⟨v, d, lo, hi, rfl, hd, q⟩ := h
    refine ⟨_, (pss_one (ps_ret (pe_and (pe_call (ok_q_is_integer T) (hr.mono (by decide)) (by rfl) T.g_q_is_integer T.F_q_is_integer.kp T.bd_q_is_integer .nil pass0 (pa_cons (pv 0) pa_nil)) (pe_one (pe_chain op_le op_le (pv 1) (pv 0) (pv 2)))))), ?_⟩
    refine ⟨_, rfl, _, d, rfl, hd, _, rfl, ?_⟩
    cases hd with
    | int i =>
      refine iteT ?_
      refine ⟨_, rfl, _, rfl, lo, i, rfl, rfl, _, rfl, ?_⟩
      by_cases h : lo ≤ i
      · rw [decide_eq_true h]
        refine iteT ?_
        refine ⟨_, rfl, i, hi, rfl, rfl, ?_⟩
        have e : withinD (.int i) lo hi = decide (i ≤ hi) := by
          show (decide (lo ≤ i) && decide (i ≤ hi)) = _
          rw [decide_eq_true h, Bool.true_and]
        rw [e] at q
        exact q
      · rw [decide_eq_false h]
        refine iteF ?_
        have e : withinD (.int i) lo hi = false := by
          show (decide (lo ≤ i) && decide (i ≤ hi)) = _
          rw [decide_eq_false h, Bool.false_and]
        rw [e] at q
        exact q
    | bl b => exact iteF q
    | non => exact iteF q
    | str x => exact iteF q
    | lst h1 h2 => exact iteF q
    | tup h1 h2 => exact iteF q
    | dic h1 => exact iteF q
theorem ok_q_is_size (T : Txt K mg) : FnOk P w K mg base CX0 3 T.f_q_is_size T.d_q_is_size ["value"] sp_q_is_size := by
  refine T.F_q_is_size.ok sc_q_is_size (fun vs H Q E h => ?_) (fun cdv A outer s H vs Q E hr h => ?_)
  · obtain ⟨v, d, rfl, _⟩ := h
    rfl
  · obtain ⟨v, d, rfl, hd, q⟩ := h
    refine ⟨_, (pss_one (ps_ret (pe_and (pe_call (ok_q_is_within T) (hr.mono (by decide)) (by rfl) T.g_q_is_within T.F_q_is_within.kp T.bd_q_is_within .nil pass0 (pa_cons (pv 0) (pa_cons (pe_glob (v := .int 16) (by rfl) T.g_LEAST ⟨_, rfl⟩) (pa_cons (pe_glob (v := .int 281474976710656) (by rfl) T.g_SPACE ⟨_, rfl⟩) pa_nil)))) (pe_one (pe_cmpR op_eq (pe_op op_and (pv 0) (pe_op op_sub (pv 0) pe_int)) pe_int (nomark _)))))), ?_⟩
    refine ⟨_, rfl, _, d, 16, 281474976710656, rfl, hd, _, rfl, ?_⟩
    cases e : withinD d 16 281474976710656 with
    | true =>
      refine iteT ?_
      cases hd with
      | int i =>
        refine ⟨_, rfl, _, rfl, i, 1, rfl, rfl, i, i - 1, rfl, rfl, rfl, ?_⟩
        have e2 : sizeD (.int i) = decide (V.int (Builtin.bitAnd i (i - 1)) = V.int 0) := by
          show (withinD (.int i) 16 281474976710656 && decide (Builtin.bitAnd i (i - 1) = 0)) = _
          rw [e, Bool.true_and]
          exact decide_eq_decide.mpr ⟨fun h => congrArg V.int h, fun h => V.int.inj h⟩
        rw [e2] at q
        exact q
      | _ => cases e
    | false =>
      refine iteF ?_
      have e2 : sizeD d = false := by
        cases d with
        | int i =>
          show (withinD (.int i) 16 281474976710656 && decide (Builtin.bitAnd i (i - 1) = 0)) = _
          rw [e, Bool.false_and]
        | _ => rfl
      rw [e2] at q
      exact q
theorem ok_q_is_block (T : Txt K mg) : FnOk P w K mg base CX0 4 T.f_q_is_block T.d_q_is_block ["value"] sp_q_is_block := by
  refine T.F_q_is_block.ok sc_q_is_block (fun vs H Q E h => ?_) (fun cdv A outer s H vs Q E hr h => ?_)
  · obtain ⟨v, d, rfl, _⟩ := h
    rfl
  · obtain ⟨v, d, rfl, hd, q⟩ := h
    refine ⟨_, (pss_cons (ps_if (PW.pt (pw_or (pt_not (pt_val (pe_callB call_isi (by rfl) T.b_isinstance (by decide +kernel) (pa_cons (pv 0) (pa_cons (pe_bltn (v := .ty "tuple") (u := .type "tuple") (by rfl) T.b_tuple (by decide +kernel) rfl) pa_nil))))) (pw_or1 (pt_cmpR op_ne (pe_callB call_len_seq (by rfl) T.b_len (by decide +kernel) (pa_cons (pv 0) pa_nil)) pe_int (nomark _)))))
      (pss_one (ps_ret pe_bl))
      pss_nil)
      (pss_cons (ps_asg (pv 0) (pg_tup rfl (pgs_cons (pg_name (i := 1) sc_q_is_block.nd rfl (Or.inl rfl)) (pgs_cons (pg_name (i := 2) sc_q_is_block.nd rfl (Or.inl rfl)) pgs_nil))))
      (pss_one (ps_ret (pe_and (pe_call (ok_q_is_size T) (hr.mono (by decide)) (by rfl) T.g_q_is_size T.F_q_is_size.kp T.bd_q_is_size .nil pass0 (pa_cons (pv 2) pa_nil)) (pe_and (pe_call (ok_q_is_within T) (hr.mono (by decide)) (by rfl) T.g_q_is_within T.F_q_is_within.kp T.bd_q_is_within .nil pass0 (pa_cons (pv 1) (pa_cons pe_int (pa_cons (pe_op op_sub (pe_glob (v := .int 281474976710656) (by rfl) T.g_SPACE ⟨_, rfl⟩) pe_int) pa_nil)))) (pe_one (pe_cmpR op_eq (pe_op op_mod (pv 1) (pv 2)) pe_int (nomark _))))))))), ?_⟩
    refine ⟨_, rfl, _, _, _, _, _, rfl, .ty _, hd.ty, kit_tup d, _, rfl, ?_⟩
    by_cases ht : isTupD d = true
    · cases hd with
      | @tup a xs ds h1 h2 =>
        refine iteF ?_
        refine ⟨_, rfl, a, xs, rfl, .inr (SqT.of h1), rfl, _, rfl, ?_⟩
        by_cases hl : xs.length = 2
        · have e : (!decide (V.int (xs.length : Int) = V.int 2)) = false := by
            rw [hl]
            rfl
          rw [e]
          refine iteF ?_
          obtain ⟨x, y, rfl⟩ : ∃ x y, xs = [x, y] := by
            match xs, hl with
            | [x, y], _ => exact ⟨x, y, rfl⟩
          cases h2 with
          | cons hx h2 =>
            cases h2 with
            | cons hy h2 =>
              cases h2
              rename_i dx dy
              refine ⟨_, rfl, a, [x, y], rfl, SqT.of h1, rfl, x, [y], rfl, y, [], rfl, rfl, ?_⟩
              refine ⟨_, rfl, y, dy, rfl, hy, _, rfl, ?_⟩
              have cut : ∀ b, sizeD dy = b → b = false → blockD (.tuple [dx, dy]) = false := fun b e1 e2 => by
                unfold blockD
                split
                · rename_i h
                  injection h with h
                  injection h with ha h
                  injection h with hb h
                  subst hb
                  rw [e1, e2, Bool.false_and]
                · rfl
              cases e1 : sizeD dy with
              | false =>
                rw [cut _ e1 rfl] at q
                exact iteF q
              | true =>
                refine iteT ?_
                refine ⟨_, rfl, _, _, rfl, rfl, x, dx, 0, 281474976710655, rfl, hx, _, rfl, ?_⟩
                cases hy with
                | int j =>
                  have jp : 0 < j := by
                    have q : ((decide (16 ≤ j) && decide (j ≤ 281474976710656)) && decide (Builtin.bitAnd j (j - 1) = 0)) = true := e1
                    simp only [Bool.and_eq_true, decide_eq_true_eq] at q
                    omega
                  cases e2 : withinD dx 0 281474976710655 with
                  | false =>
                    have e3 : blockD (.tuple [dx, .int j]) = false := by
                      unfold blockD
                      split
                      · rename_i h
                        injection h with h
                        injection h with ha h
                        subst ha
                        rw [e2, Bool.false_and, Bool.and_false]
                      · rfl
                    rw [e3] at q
                    exact iteF q
                  | true =>
                    refine iteT ?_
                    cases hx with
                    | int i =>
                      refine ⟨_, rfl, _, rfl, i, j, rfl, rfl, jp, rfl, ?_⟩
                      have e3 : blockD (.tuple [.int i, .int j]) = decide (V.int (i % j) = V.int 0) := by
                        show (sizeD (.int j) && (withinD (.int i) 0 281474976710655 && decide (i % j = 0))) = _
                        rw [e1, e2, Bool.true_and, Bool.true_and]
                        exact decide_eq_decide.mpr ⟨fun h => congrArg V.int h, fun h => V.int.inj h⟩
                      rw [e3] at q
                      exact q
                    | _ => cases e2
                | _ => cases e1
        · have e : (!decide (V.int (xs.length : Int) = V.int 2)) = true := by
            rw [decide_eq_false fun z => hl (by have := V.int.inj z; omega)]
            rfl
          rw [e]
          refine iteT ?_
          have e3 : blockD (.tuple ds) = false := by
            unfold blockD
            split
            · rename_i h
              injection h with h
              subst h
              exact absurd h2.length hl
            · rfl
          rw [e3] at q
          exact q
      | _ => cases ht
    · have e3 : blockD d = false := by
        cases d with
        | tuple ds => exact absurd rfl ht
        | _ => rfl
      rw [e3] at q
      have ht := Bool.eq_false_iff.mpr ht
      rw [ht]
      exact iteT q
theorem ok_l_odd (T : Txt K mg) : FnOk P w K mg base CX0 3 T.f_l_odd T.d_l_odd ["_law_source_here"] sp_l_odd := by
  refine T.F_l_odd.ok sc_l_odd (fun vs H Q E h => ?_) (fun cdv A outer s H vs Q E hr h => ?_)
  · obtain ⟨s, l, c, t, rfl, _⟩ := h
    rfl
  · obtain ⟨s, l, c, t, rfl, S, ht, q⟩ := h
    refine ⟨_, (pss_cons (ps_set (i := 1) sc_l_odd.nd rfl (by first | exact Or.inl rfl | exact Or.inr rfl) (pe_lst (pa_cons pe_non (pa_cons pe_bl (pa_cons pe_bl (pa_cons (pe_un un_neg pe_int) (pa_cons pe_int (pa_cons pe_int (pa_cons pe_int (pa_cons pe_int (pa_cons pe_int (pa_cons (pe_op op_pow pe_int pe_int) (pa_cons (pe_op op_add (pe_op op_pow pe_int pe_int) pe_int) (pa_cons (pe_op op_pow pe_int pe_int) (pa_cons pe_str (pa_cons pe_str (pa_cons (pe_tup pa_nil) (pa_cons (pe_lst pa_nil) (pa_cons pe_dnewK (pa_cons (pe_tup (pa_cons pe_int pa_nil)) pa_nil))))))))))))))))))))
      (pss_cons (ps_set (i := 1) sc_l_odd.nd rfl (by first | exact Or.inl rfl | exact Or.inr rfl) (pe_op op_cat (pv 1) (pe_lst (pa_cons (pe_lst (pa_cons pe_int (pa_cons pe_int pa_nil))) (pa_cons (pe_tup (pa_cons pe_int (pa_cons pe_int pa_nil))) (pa_cons (pe_tup (pa_cons pe_int (pa_cons pe_int (pa_cons pe_int pa_nil)))) (pa_cons (pe_tup (pa_cons pe_int (pa_cons pe_int pa_nil))) (pa_cons (pe_tup (pa_cons pe_bl (pa_cons pe_int pa_nil))) (pa_cons (pe_tup (pa_cons pe_int (pa_cons pe_bl pa_nil))) (pa_cons (pe_tup (pa_cons pe_str (pa_cons pe_int pa_nil))) (pa_cons (pe_tup (pa_cons (pe_tup (pa_cons pe_int (pa_cons pe_int pa_nil))) pa_nil)) pa_nil)))))))))))
      (pss_cons (ps_set (i := 1) sc_l_odd.nd rfl (by first | exact Or.inl rfl | exact Or.inr rfl) (pe_op op_cat (pv 1) (pe_lst (pa_cons (pe_lst (pa_cons (pe_tup (pa_cons pe_int (pa_cons pe_int pa_nil))) pa_nil)) (pa_cons (pe_op op_repT (pe_tup (pa_cons pe_non pa_nil)) pe_int) pa_nil)))))
      (pss_one (ps_ret (pe_call (ok_l_pick T) (hr.mono (by decide)) (by rfl) T.g_l_pick T.F_l_pick.kp T.bd_l_pick .nil pass0 (pa_cons (pv 0) (pa_cons (pv 1) pa_nil)))))))), ?_⟩
    have m0 := More.start S
    -- the first row
    refine ⟨16, rfl, 2, 48, rfl, rfl, (by unfold CPow; decide), 2, 48, rfl, rfl, (by unfold CPow; decide), _, 16, rfl, rfl, 10, 39, rfl, rfl, (by unfold CPow; decide), Nat.zero_le _, fun p1 n1 => ?_⟩
    replace m0 := m0.tup n1 .nil
    generalize upd H p1 (.tup []) = H1 at m0 ⊢
    refine ⟨Nat.zero_le _, fun p2 n2 => ?_⟩
    replace m0 := m0.lst n2 .nil
    generalize upd H1 p2 (.lst []) = H2 at m0 ⊢
    intro p3 n3
    replace m0 := m0.dic n3
    generalize upd H2 p3 (.dK []) = H3 at m0 ⊢
    refine ⟨(by show 1 ≤ sizeLine; decide), fun p4 n4 => ?_⟩
    replace m0 := m0.tup n4 (.cons (.int 0) .nil)
    generalize upd H3 p4 (.tup [.int 0]) = H4 at m0 ⊢
    refine ⟨(by show 18 ≤ sizeLine; decide), fun a na => ?_⟩
    have x4 := m0.hd
    have x3 := m0.tl.hd
    have x2 := m0.tl.tl.hd
    have x1 := m0.tl.tl.tl.hd
    generalize hH : upd H4 a _ = H5
    replace m0 : More s l c H H5 t [.ref a] [.list [.none, .bool true, .bool false, .int (-16), .int 0, .int 1, .int 8, .int 16, .int 17, .int 281474976710656, .int 281474976710672,
        .int 1000000000000000000000000000000000000000, .str "", .str "16", .tuple [], .list [], .dict [], .tuple [.int 0]]] := by
      rw [← hH]
      exact m0.tl.tl.tl.tl.lst na (.cons .non (.cons (.bl true) (.cons (.bl false) (.cons (.int (-16)) (.cons (.int 0) (.cons (.int 1) (.cons (.int 8) (.cons (.int 16) (.cons (.int 17) (.cons (.int 281474976710656) (.cons (.int 281474976710672)
        (.cons (.int 1000000000000000000000000000000000000000) (.cons (.str "") (.cons (.str "16") (.cons x1 (.cons x2 (.cons x3 (.cons x4 .nil))))))))))))))))))
    clear hH
    clear x1 x2 x3 x4 n1 n2 n3 n4 na
    -- the second row
    refine ⟨_, rfl, (by show 2 ≤ sizeLine; decide), fun p1 n1 => ?_⟩
    replace m0 := m0.lst n1 (.cons (.int 0) (.cons (.int 16) .nil))
    generalize upd H5 p1 _ = H6 at m0 ⊢
    refine ⟨(by show 2 ≤ sizeLine; decide), fun p2 n2 => ?_⟩
    replace m0 := m0.tup n2 (.cons (.int 0) (.cons (.int 16) .nil))
    generalize upd H6 p2 _ = H7 at m0 ⊢
    refine ⟨(by show 3 ≤ sizeLine; decide), fun p3 n3 => ?_⟩
    replace m0 := m0.tup n3 (.cons (.int 0) (.cons (.int 16) (.cons (.int 0) .nil)))
    generalize upd H7 p3 _ = H8 at m0 ⊢
    refine ⟨(by show 2 ≤ sizeLine; decide), fun p4 n4 => ?_⟩
    replace m0 := m0.tup n4 (.cons (.int 16) (.cons (.int 32) .nil))
    generalize upd H8 p4 _ = H9 at m0 ⊢
    refine ⟨(by show 2 ≤ sizeLine; decide), fun p5 n5 => ?_⟩
    replace m0 := m0.tup n5 (.cons (.bl true) (.cons (.int 16) .nil))
    generalize upd H9 p5 _ = H10 at m0 ⊢
    refine ⟨(by show 2 ≤ sizeLine; decide), fun p6 n6 => ?_⟩
    replace m0 := m0.tup n6 (.cons (.int 0) (.cons (.bl true) .nil))
    generalize upd H10 p6 _ = H11 at m0 ⊢
    refine ⟨(by show 2 ≤ sizeLine; decide), fun p7 n7 => ?_⟩
    replace m0 := m0.tup n7 (.cons (.str "0") (.cons (.int 16) .nil))
    generalize upd H11 p7 _ = H12 at m0 ⊢
    refine ⟨(by show 2 ≤ sizeLine; decide), fun p8 n8 => ?_⟩
    have z8 := m0.src.hidNew (o := .tup [.int 0, .int 16]) n8
    replace m0 := m0.new (o := .tup [.int 0, .int 16]) n8
    generalize upd H12 p8 (.tup [.int 0, .int 16]) = H13 at m0 z8 ⊢
    refine ⟨(by show 1 ≤ sizeLine; decide), fun p9 n9 => ?_⟩
    replace m0 := m0.tup n9 (.cons (.tup z8 (.cons (.int 0) (.cons (.int 16) .nil))) .nil)
    generalize upd H13 p9 _ = H14 at m0 ⊢
    refine ⟨(by show 8 ≤ sizeLine; decide), fun b nb => ?_⟩
    have x8 := m0.hd
    have x7 := m0.tl.hd
    have x6 := m0.tl.tl.hd
    have x5 := m0.tl.tl.tl.hd
    have x4 := m0.tl.tl.tl.tl.hd
    have x3 := m0.tl.tl.tl.tl.tl.hd
    have x2 := m0.tl.tl.tl.tl.tl.tl.hd
    have x1 := m0.tl.tl.tl.tl.tl.tl.tl.hd
    replace m0 := m0.tl.tl.tl.tl.tl.tl.tl.tl.lst nb (.cons x1 (.cons x2 (.cons x3 (.cons x4 (.cons x5 (.cons x6 (.cons x7 (.cons x8 .nil))))))))
    generalize upd H14 b _ = H15 at m0 ⊢
    clear x1 x2 x3 x4 x5 x6 x7 x8 n1 n2 n3 n4 n5 n6 n7 n8 n9 nb z8
    obtain ⟨ys, eb, yb⟩ := m0.hd.list
    obtain ⟨xs, ea, xa⟩ := m0.tl.hd.list
    have lx := xa.length
    have ly := yb.length
    refine ⟨a, b, _, _, rfl, rfl, (hid_some ea).2.2, (hid_some eb).2.2, (by rw [lx, ly]; show 26 ≤ sizeLine; decide), fun d nd => ?_⟩
    replace m0 := m0.tl.tl.lst nd (xa.append yb)
    generalize upd H15 d _ = H16 at m0 ⊢
    clear xa yb lx ly ea eb
    -- the third row
    refine ⟨_, rfl, (by show 2 ≤ sizeLine; decide), fun p1 n1 => ?_⟩
    have z1 := m0.src.hidNew (o := .tup [.int 0, .int 16]) n1
    replace m0 := m0.new (o := .tup [.int 0, .int 16]) n1
    generalize upd H16 p1 (.tup [.int 0, .int 16]) = H17 at m0 z1 ⊢
    refine ⟨(by show 1 ≤ sizeLine; decide), fun p2 n2 => ?_⟩
    replace m0 := m0.lst n2 (.cons (.tup z1 (.cons (.int 0) (.cons (.int 16) .nil))) .nil)
    generalize upd H17 p2 _ = H18 at m0 ⊢
    refine ⟨(by show 1 ≤ sizeLine; decide), fun p3 n3 => ?_⟩
    have z3 := m0.src.hidNew (o := .tup [.non]) n3
    replace m0 := m0.new (o := .tup [.non]) n3
    generalize upd H18 p3 (.tup [.non]) = H19 at m0 z3 ⊢
    refine ⟨p3, 2, _, rfl, rfl, SqT.of (hid_some z3).2.2, (fun z => by cases z), (by decide), (by decide), (by show 1 ≤ 1000; decide), fun p4 n4 => ?_⟩
    replace m0 := m0.tup n4 (xs := [.non, .non]) (.cons .non (.cons .non .nil))
    generalize hH : upd H19 p4 _ = H20
    have e20 : upd H19 p4 (.tup [.non, .non]) = H20 := hH
    rw [e20] at m0
    clear hH e20
    refine ⟨(by show 2 ≤ sizeLine; decide), fun b nb => ?_⟩
    have x2 := m0.hd
    have x1 := m0.tl.hd
    replace m0 := m0.tl.tl.lst nb (.cons x1 (.cons x2 .nil))
    generalize upd H20 b _ = H21 at m0 ⊢
    clear x1 x2 n1 n2 n3 n4 nb z1 z3
    obtain ⟨ys, eb, yb⟩ := m0.hd.list
    obtain ⟨xs, ea, xa⟩ := m0.tl.hd.list
    have lx := xa.length
    have ly := yb.length
    refine ⟨d, b, _, _, rfl, rfl, (hid_some ea).2.2, (hid_some eb).2.2, (by rw [lx, ly]; show 28 ≤ sizeLine; decide), fun p np => ?_⟩
    replace m0 := m0.tl.tl.lst np (xa.append yb)
    generalize upd H21 p _ = H22 at m0 ⊢
    clear xa yb lx ly ea eb
    obtain ⟨xs, ea, xa⟩ := m0.hd.list
    have lx : xs.length = 28 := xa.length
    -- return pick
    refine ⟨_, rfl, _, rfl, s, l, c, p, t, xs, rfl, m0.src, ht, ea, by omega, by omega, fun H' i v t' g e => ?_⟩
    obtain ⟨dd, hd, hv⟩ := xa.get e
    have g2 := (m0.goes.trans g).wide (n := 1) (by decide)
    exact q H' v dd t' g2 (g.dd hv) (List.mem_of_getElem? hd)
theorem ok_p_item_error (T : Txt K mg) : FnOk P w K mg base CX0 5 T.f_p_item_error T.d_p_item_error ["blocks", "index"] sp_p_item_error := by
  refine T.F_p_item_error.ok sc_p_item_error (fun vs H Q E h => ?_) (fun cdv A outer s H vs Q E hr h => ?_)
  · obtain ⟨v, ds, i, d, rfl, _⟩ := h
    rfl
  · obtain ⟨v, ds, i, d, rfl, hv, hi, hb, q⟩ := h
    refine ⟨_, (pss_cons (ps_if (pt_not (pt_val (pe_call (ok_q_is_block T) (hr.mono (by decide)) (by rfl) T.g_q_is_block T.F_q_is_block.kp T.bd_q_is_block .nil pass0 (pa_cons (pe_ix ix_tup (pv 0) (pv 1) (fun _ _ => rfl)) pa_nil))))
      (pss_one (ps_ret pe_str))
      pss_nil)
      (pss_cons (ps_if (pt_cmpR op_eq (pv 1) pe_int (nomark _))
      (pss_one (ps_ret pe_non))
      pss_nil)
      (pss_cons (ps_asg (pe_ix ix_tup (pv 0) (pe_op op_sub (pv 1) pe_int) (fun _ _ => rfl)) (pg_tup rfl (pgs_cons (pg_name (i := 2) sc_p_item_error.nd rfl (Or.inl rfl)) (pgs_cons (pg_name (i := 3) sc_p_item_error.nd rfl (Or.inl rfl)) pgs_nil))))
      (pss_cons (ps_asg (pe_ix ix_tup (pv 0) (pv 1) (fun _ _ => rfl)) (pg_tup rfl (pgs_cons (pg_name (i := 4) sc_p_item_error.nd rfl (Or.inl rfl)) (pgs_cons (pg_name (i := 5) sc_p_item_error.nd rfl (Or.inl rfl)) pgs_nil))))
      (pss_cons (ps_if (pt_cmpR op_lt (pv 4) (pe_op op_add (pv 2) (pv 3)) (nomark _))
      (pss_one (ps_ret pe_str))
      pss_nil)
      (pss_cons (ps_if (PW.pt (pw_and (pt_cmpR op_eq (pv 5) (pv 3) (nomark _)) (pw_and (pt_cmpR op_eq (pv 4) (pe_op op_add (pv 2) (pv 5)) (nomark _)) (pw_and1 (pt_cmpR op_eq (pe_op op_mod (pv 2) (pe_op op_mul pe_int (pv 5))) pe_int (nomark _))))))
      (pss_one (ps_ret pe_str))
      pss_nil)
      (pss_one (ps_ret pe_non)))))))), ?_⟩
    cases hv with
    | @tup a xs _ ha hd =>
      obtain ⟨x, hx, dx⟩ := hd.getD hi
      refine ⟨_, rfl, _, rfl, a, xs, i, x, rfl, rfl, SqT.of ha, at_of rfl hx, x, d, rfl, dx, _, rfl, ?_⟩
      cases eb : blockD d with
      | false =>
        refine iteT ?_
        have e : wordD (prevAt ds i) d = some ("block" : Str) := by
          unfold wordD
          rw [if_neg (by rw [eb]; exact Bool.false_ne_true)]
        rw [e] at q
        exact q
      | true =>
        refine iteF ?_
        refine ⟨_, rfl, rfl, _, rfl, ite2 (fun h0 => ?_) (fun h0 => ?_)⟩
        · have h0 : i = 0 := by
            have h := V.int.inj (of_decide_eq_true h0)
            omega
          subst h0
          have e : wordD (prevAt ds 0) d = none := by
            unfold wordD prevAt
            rw [if_pos eb, if_pos rfl]
          rw [e] at q
          exact q
        · have h0 : 0 < i := by
            refine Nat.pos_of_ne_zero fun z => h0 (decide_eq_true ?_)
            rw [z]
            rfl
          obtain ⟨b, eb1, eb2⟩ := hb h0
          obtain ⟨b0, z0, rfl, c1, c2, c3, c4, c5⟩ := block_shape eb2
          obtain ⟨i0, j0, rfl, d1, d2, d3, d4, d5⟩ := block_shape eb
          obtain ⟨y, hy, dy⟩ := hd.getD eb1
          obtain ⟨ay, rfl, hay⟩ := dy.pair
          obtain ⟨ax, rfl, hax⟩ := dx.pair
          refine ⟨_, rfl, _, rfl, (i : Int), 1, rfl, rfl, a, xs, _, _, rfl, rfl, SqT.of ha, at_of (j := i - 1) (by omega) hy, ?_⟩
          refine ⟨ay, _, rfl, SqT.of hay, rfl, _, _, rfl, _, _, rfl, rfl, ?_⟩
          refine ⟨_, rfl, _, rfl, a, xs, i, _, rfl, rfl, SqT.of ha, at_of rfl hx, ?_⟩
          refine ⟨ax, _, rfl, SqT.of hax, rfl, _, _, rfl, _, _, rfl, rfl, ?_⟩
          have e : wordD (prevAt ds i) (.tuple [.int i0, .int j0]) = pairWord b0 z0 i0 j0 := by
            unfold wordD prevAt
            rw [if_pos eb, if_neg (by omega), eb1]
          rw [e] at q
          unfold pairWord at q
          refine ⟨_, rfl, _, rfl, _, rfl, b0, z0, rfl, rfl, i0, b0 + z0, rfl, rfl, _, rfl, ite2 (fun h1 => ?_) (fun h1 => ?_)⟩
          · rw [if_pos (of_decide_eq_true h1)] at q
            exact q
          · rw [if_neg (fun z => h1 (decide_eq_true z))] at q
            refine ⟨_, rfl, _, rfl, rfl, _, rfl, ite2 (fun h2 => ?_) (fun h2 => ?_)⟩
            · have h2 : j0 = z0 := V.int.inj (of_decide_eq_true h2)
              refine ⟨_, rfl, _, rfl, _, rfl, b0, j0, rfl, rfl, rfl, _, rfl, ite2 (fun h3 => ?_) (fun h3 => ?_)⟩
              · have h3 : i0 = b0 + j0 := V.int.inj (of_decide_eq_true h3)
                refine ⟨_, rfl, _, rfl, 2, j0, rfl, rfl, .inl ⟨by decide, by decide⟩, b0, _, rfl, rfl, (by show 0 < 2 * j0; omega), rfl, _, rfl, ite2 (fun h4 => ?_) (fun h4 => ?_)⟩
                · rw [if_pos ⟨h2, h3, V.int.inj (of_decide_eq_true h4)⟩] at q
                  exact q
                · rw [if_neg fun z => h4 (decide_eq_true (congrArg V.int z.2.2))] at q
                  exact q
              · rw [if_neg fun z => h3 (decide_eq_true (congrArg V.int z.2.1))] at q
                exact iteF q
            · rw [if_neg fun z => h2 (decide_eq_true (congrArg V.int z.1))] at q
              exact iteF q
theorem ok_q_room_error (T : Txt K mg) : FnOk P w K mg base CX0 6 T.f_q_room_error T.d_q_room_error ["value"] sp_q_room_error := by
  refine T.F_q_room_error.ok sc_q_room_error (fun vs H Q E h => ?_) (fun cdv A outer s H vs Q E hr h => ?_)
  · obtain ⟨v, d, rfl, _⟩ := h
    rfl
  · obtain ⟨v, d, rfl, hd, hz, q⟩ := h
    refine ⟨_, (pss_cons (ps_if (PW.pt (pw_or (pt_not (pt_val (pe_callB call_isi (by rfl) T.b_isinstance (by decide +kernel) (pa_cons (pv 0) (pa_cons (pe_bltn (v := .ty "tuple") (u := .type "tuple") (by rfl) T.b_tuple (by decide +kernel) rfl) pa_nil))))) (pw_or1 (pt_cmpR op_gt (pe_callB call_len_seq (by rfl) T.b_len (by decide +kernel) (pa_cons (pv 0) pa_nil)) (pe_glob (v := .int 128) (by rfl) T.g_MAX_ROOM ⟨_, rfl⟩) (nomark _)))))
      (pss_one (ps_ret (pe_tup (pa_cons pe_non (pa_cons pe_str pa_nil)))))
      pss_nil)
      (pss_cons (ps_for PassesOwn.never rfl (pi_range1 (by rfl) T.b_range (pa_cons (pe_callB call_len_seq (by rfl) T.b_len (by decide +kernel) (pa_cons (pv 0) pa_nil)) pa_nil)) (pg_name (i := 1) sc_q_room_error.nd rfl (Or.inl rfl))
      (pss_cons (ps_set (i := 2) sc_q_room_error.nd rfl (by first | exact Or.inl rfl | exact Or.inr rfl) (pe_call (ok_p_item_error T) (hr.mono (by decide)) (by rfl) T.g_p_item_error T.F_p_item_error.kp T.bd_p_item_error .nil pass0 (pa_cons (pv 0) (pa_cons (pv 1) pa_nil))))
      (pss_one (ps_if (pt_cmpR op_notN (pv 2) pe_non (nomark _))
      (pss_one (ps_ret (pe_tup (pa_cons (pv 1) (pa_cons (pv 2) pa_nil)))))
      pss_nil))))
      (pss_one (ps_ret pe_non)))), ?_⟩
    refine ⟨_, rfl, _, _, _, _, _, rfl, .ty _, hd.ty, kit_tup d, _, rfl, ?_⟩
    have bad : roomErrD d = .tuple [.none, .str "room"] → (∀ p, H p = none → Q (.ref p) (upd H p (.tup [.non, .str "room"]))) := fun e p np =>
      q _ _ (same_new np) (by rw [e]; exact .tup upd_same (.cons .non (.cons (.str _) .nil)))
    cases hd with
    | @tup a xs ds ha hx =>
      have ln := hx.length
      have hz := hz ds rfl
      refine iteF ?_
      refine ⟨_, rfl, a, xs, rfl, .inr (SqT.of ha), (xs.length : Int), 128, rfl, rfl, _, rfl, ite2 (fun h => ?_) (fun h => ?_)⟩
      · have h : 128 < ds.length := by
          have h := of_decide_eq_true h
          omega
        exact ⟨(by show 2 ≤ sizeLine; decide), bad (by show (if 128 < ds.length then _ else _) = _; rw [if_pos h])⟩
      · have h : ¬ 128 < ds.length := fun z => h (decide_eq_true (by omega))
        have e0 : roomErrD (.tuple ds) = firstErr 0 none ds := by
          show (if 128 < ds.length then _ else _) = _
          rw [if_neg h]
        rw [e0] at q
        refine ⟨_, rfl, a, xs, rfl, .inr (SqT.of ha), (xs.length : Int), rfl, by omega, by omega, ?_⟩
        refine for_range (lo := 0) (n := ((xs.length : Int)).toNat) (fun i σ H1 => ∃ y1 y2 : Option V, σ = [some (.ref a), y1, y2] ∧ H1 = H ∧ firstErr i (prevAt ds i) (ds.drop i) = firstErr 0 none ds ∧ (0 < i → ∃ b, ds[i - 1]? = some b ∧ blockD b = true))
          ⟨none, none, rfl, rfl, rfl, fun z => absurd z (Nat.lt_irrefl 0)⟩ ?_ ?_
        · rintro i σ H1 hi ⟨y1, y2, rfl, rfl, ef, hb⟩
          have hi2 : i < ds.length := by omega
          have ed := List.getElem?_eq_getElem hi2
          generalize ds[i] = d at ed
          rw [first_step ed] at ef
          have ei : (0 + (i : Int)) = (i : Int) := by omega
          rw [ei]
          refine ⟨_, rfl, _, rfl, .ref a, ds, i, d, rfl, .tup ha hx, ed, hb, ?_⟩
          cases ew : wordD (prevAt ds i) d with
          | some wd =>
            rw [ew] at ef
            refine ⟨_, rfl, rfl, _, rfl, ?_⟩
            refine iteT ?_
            refine ⟨_, rfl, _, rfl, (by show 2 ≤ sizeLine; decide), fun p np => ?_⟩
            refine q _ _ (same_new np) ?_
            rw [← ef]
            exact .tup upd_same (.cons (.int _) (.cons (.str _) .nil))
          | none =>
            rw [ew] at ef
            refine ⟨_, rfl, rfl, _, rfl, ?_⟩
            refine iteF ?_
            exact ⟨_, _, rfl, rfl, ef, fun _ => ⟨d, by rw [Nat.add_sub_cancel]; exact ed, word_block ew⟩⟩
        · rintro σ H1 ⟨y1, y2, rfl, rfl, ef, hb⟩
          have e1 : ds.drop ((xs.length : Int)).toNat = [] := List.drop_of_length_le (by omega)
          rw [e1] at ef
          refine q H1 _ (Same.refl _) ?_
          rw [← ef]
          exact .non
    | _ => exact iteT ⟨(by show 2 ≤ sizeLine; decide), bad rfl⟩
theorem ok_l_is_int (T : Txt K mg) : FnOk P w K mg base CX0 1 T.f_l_is_int T.d_l_is_int ["_law_value"] sp_l_is_int := by
  refine T.F_l_is_int.ok sc_l_is_int (fun vs H Q E h => ?_) (fun cdv A outer s H vs Q E hr h => ?_)
  · obtain ⟨v, d, rfl, _⟩ := h
    rfl
  · obtain ⟨v, d, rfl, hd, q⟩ := h
    refine ⟨_, (pss_one (ps_ret (pe_and (pe_callB call_isi (by rfl) T.b_isinstance (by decide +kernel) (pa_cons (pv 0) (pa_cons (pe_bltn (v := .ty "int") (u := .type "int") (by rfl) T.b_int (by decide +kernel) rfl) pa_nil))) (pe_one (pe_not (pe_callB call_isi (by rfl) T.b_isinstance (by decide +kernel) (pa_cons (pv 0) (pa_cons (pe_bltn (v := .ty "bool") (u := .type "bool") (by rfl) T.b_bool (by decide +kernel) rfl) pa_nil)))))))), ?_⟩
    refine ⟨_, rfl, _, _, _, _, _, rfl, .ty _, hd.ty, kit_int d, _, rfl, ?_⟩
    cases hd with
    | int i =>
      refine iteT ?_
      exact ⟨_, rfl, _, _, _, _, _, rfl, .ty _, (Dd.int i).ty, kit_bool _, _, rfl, q⟩
    | bl b =>
      refine iteT ?_
      exact ⟨_, rfl, _, _, _, _, _, rfl, .ty _, (Dd.bl b).ty, kit_bool _, _, rfl, q⟩
    | _ => exact iteF q
theorem ok_l_is_block (T : Txt K mg) : FnOk P w K mg base CX0 2 T.f_l_is_block T.d_l_is_block ["_law_value"] sp_l_is_block := by
  refine T.F_l_is_block.ok sc_l_is_block (fun vs H Q E h => ?_) (fun cdv A outer s H vs Q E hr h => ?_)
  · obtain ⟨v, d, rfl, _⟩ := h
    rfl
  · obtain ⟨v, d, rfl, hd, q⟩ := h
    refine ⟨_, (pss_cons (ps_if (PW.pt (pw_or (pt_not (pt_val (pe_callB call_isi (by rfl) T.b_isinstance (by decide +kernel) (pa_cons (pv 0) (pa_cons (pe_bltn (v := .ty "tuple") (u := .type "tuple") (by rfl) T.b_tuple (by decide +kernel) rfl) pa_nil))))) (pw_or (pt_cmpR op_ne (pe_callB call_len_seq (by rfl) T.b_len (by decide +kernel) (pa_cons (pv 0) pa_nil)) pe_int (nomark _)) (pw_or (pt_not (pt_val (pe_call (ok_l_is_int T) (hr.mono (by decide)) (by rfl) T.g_l_is_int T.F_l_is_int.kp T.bd_l_is_int .nil pass0 (pa_cons (pe_ix ix_tup (pv 0) pe_int (fun _ _ => rfl)) pa_nil)))) (pw_or1 (pt_not (pt_val (pe_call (ok_l_is_int T) (hr.mono (by decide)) (by rfl) T.g_l_is_int T.F_l_is_int.kp T.bd_l_is_int .nil pass0 (pa_cons (pe_ix ix_tup (pv 0) pe_int (fun _ _ => rfl)) pa_nil)))))))))
      (pss_one (ps_ret pe_bl))
      pss_nil)
      (pss_cons (ps_if (pt_cmpR (op_eqD hr.units) (pe_lc (own := [("_law_k", 1)]) (g := gName 1) (by rfl) sc_l_is_block.nd (pi_range1 (by rfl) T.b_range (pa_cons pe_int pa_nil)) (blkOk_by (own := [("_law_k", 1)]) (N := n_l_is_block) (sc := defScope s_l_is_block) (by decide +kernel)) (fun _ _ _ _ _ => (pg_name (i := 1) sc_l_is_block.nd rfl (Or.inl rfl))) (fun _ _ _ _ _ => (pts_one (pt_cmpR op_eq (pe_op op_shl pe_int (pv 1)) (pe_ix (r := rIxT K) ix_tup (pv 0) pe_int (fun _ _ => rfl)) (nomark _)))) (fun _ _ _ _ _ => (pv 1))) (pe_lst pa_nil) (nomark _))
      (pss_one (ps_ret pe_bl))
      pss_nil)
      (pss_one (ps_ret (pe_and (pe_cmpR op_ge (pe_ix ix_tup (pv 0) pe_int (fun _ _ => rfl)) pe_int (nomark _)) (pe_and (pe_cmpR op_eq (pe_op op_mod (pe_ix ix_tup (pv 0) pe_int (fun _ _ => rfl)) (pe_ix ix_tup (pv 0) pe_int (fun _ _ => rfl))) pe_int (nomark _)) (pe_one (pe_cmpR op_le (pe_op op_add (pe_ix ix_tup (pv 0) pe_int (fun _ _ => rfl)) (pe_ix ix_tup (pv 0) pe_int (fun _ _ => rfl))) (pe_op op_pow pe_int pe_int) (nomark _))))))))), ?_⟩
    rw [block_same] at q
    refine ⟨_, rfl, _, _, _, _, _, rfl, .ty _, hd.ty, kit_tup d, _, rfl, ?_⟩
    cases hd with
    | @tup a xs ds h1 h2 =>
      refine iteF ?_
      refine ⟨_, rfl, a, xs, rfl, .inr (SqT.of h1), rfl, _, rfl, ?_⟩
      by_cases hl : xs.length = 2
      · have e : (!decide (V.int (xs.length : Int) = V.int 2)) = false := by
          rw [hl]
          rfl
        rw [e]
        refine iteF ?_
        obtain ⟨x, y, rfl⟩ : ∃ x y, xs = [x, y] := by
          match xs, hl with
          | [x, y], _ => exact ⟨x, y, rfl⟩
        cases h2 with
        | cons hx h2 =>
          cases h2 with
          | cons hy h2 =>
            cases h2
            rename_i dx dy
            refine ⟨_, rfl, a, [x, y], 0, x, rfl, rfl, SqT.of h1, atI_nat (j := 0) rfl, x, dx, rfl, hx, _, rfl, ?_⟩
            cases hx with
            | int i =>
              refine iteF ?_
              refine ⟨_, rfl, a, [.int i, y], 1, y, rfl, rfl, SqT.of h1, atI_nat (j := 1) rfl, y, dy, rfl, hy, _, rfl, ?_⟩
              cases hy with
              | int j =>
                refine iteF ?_
                refine ⟨45, rfl, by decide, by decide, fun D hD => lc_range (lo := 0) (n := 45) (fun i H' => Same H H' ∧ ∃ ks : List Int, H' D = some (.lst (ks.map V.int)) ∧ ks.length ≤ i ∧ (ks ≠ [] ↔ ∃ k, k < i ∧ (16 * 2 ^ k : Int) = j))
                  ⟨same_new hD, [], upd_same, Nat.le_refl _, fun z => absurd rfl z, fun ⟨k, h, _⟩ => absurd h (Nat.not_lt_zero _)⟩ ?_ ?_⟩
                · rintro k H1 hi ⟨sm, ks, ek, lk, hk⟩
                  refine ⟨rfl, ?_⟩
                  refine ⟨_, rfl, 16, _, rfl, rfl, ⟨by omega, by omega, by decide⟩, _, rfl, a, [.int i, .int j], 1, .int j, rfl, rfl, SqT.of (sm _ _ h1), atI_nat (j := 1) rfl, rfl, _, rfl, ?_⟩
                  have et : (0 + (k : Int)).toNat = k := by omega
                  refine ite2 (fun h => ?_) (fun h => ?_)
                  · have h : (16 * 2 ^ k : Int) = j := by
                      have h := V.int.inj (of_decide_eq_true h)
                      rw [et] at h
                      exact h
                    refine ⟨_, rfl, _, ek, ?_, fun b o hb => ?_, ks ++ [0 + (k : Int)], ?_, ?_, fun _ => ⟨k, Nat.lt_succ_self k, h⟩, fun _ z => ?_⟩
                    · rw [List.length_map]
                      exact small1000 (by omega)
                    · rw [upd_ne (ne_of_none hb hD)]
                      exact sm b o hb
                    · rw [upd_same, List.map_append]
                      rfl
                    · rw [List.length_append]
                      show ks.length + 1 ≤ k + 1
                      omega
                    · exact absurd z (by simp)
                  · have h : ¬ (16 * 2 ^ k : Int) = j := fun z => h (decide_eq_true (by dsimp only; rw [et, z]))
                    refine ⟨sm, ks, ek, by omega, fun z => ?_, fun ⟨m, h1, h2⟩ => ?_⟩
                    · obtain ⟨m, h1, h2⟩ := hk.mp z
                      exact ⟨m, by omega, h2⟩
                    · refine hk.mpr ⟨m, ?_, h2⟩
                      refine Nat.lt_of_le_of_ne (by omega) fun e => h (e ▸ h2)
                · rintro H1 ⟨sm, ks, ek, lk, hk⟩
                  refine ⟨Nat.zero_le _, fun p np => ?_⟩
                  have sp : Same H (upd H1 p (.lst [])) := sm.trans (same_new np)
                  refine eq_nil (xs := ks) (by rw [upd_ne (ne_of_none ek np)]; exact ek) upd_same ⟨_, rfl, ?_⟩
                  have e : sizeDue (.int j) = !decide (ks = []) := by
                    show ((List.range 45).any fun k => decide (16 * 2 ^ k = j)) = _
                    rw [Bool.eq_iff_iff, List.any_eq_true]
                    simp only [Bool.not_eq_true', decide_eq_false_iff_not]
                    rw [← ne_eq, hk]
                    constructor
                    · rintro ⟨k, h1, h2⟩
                      exact ⟨k, List.mem_range.mp h1, of_decide_eq_true h2⟩
                    · rintro ⟨k, h1, h2⟩
                      exact ⟨k, List.mem_range.mpr h1, decide_eq_true h2⟩
                  have e3 : blockDue (.tuple [.int i, .int j]) = (sizeDue (.int j) && (decide (0 ≤ i) && (decide (i % j = 0) && decide (i + j ≤ 281474976710656)))) := rfl
                  rw [e3, e] at q
                  have hT := sp _ _ h1
                  refine ite2 (fun hn => ?_) (fun hn => ?_)
                  · rw [hn] at q
                    exact q _ sp
                  · have hn := Bool.eq_false_iff.mpr hn
                    rw [hn] at q e
                    have jp : 0 < j := by
                      have q : ((decide (16 ≤ j) && decide (j ≤ 281474976710656)) && decide (Builtin.bitAnd j (j - 1) = 0)) = true := (size_same (.int j)).trans e
                      simp only [Bool.and_eq_true, decide_eq_true_eq] at q
                      omega
                    generalize upd H1 p (.lst []) = H2 at sp hT ⊢
                    refine ⟨_, rfl, a, _, 0, .int i, rfl, rfl, SqT.of hT, atI_nat (j := 0) rfl, i, 0, rfl, rfl, _, rfl, ?_⟩
                    by_cases c1 : 0 ≤ i
                    · rw [decide_eq_true c1] at q ⊢
                      refine iteT ?_
                      refine ⟨_, rfl, a, _, 0, .int i, rfl, rfl, SqT.of hT, atI_nat (j := 0) rfl, _, rfl, a, _, 1, .int j, rfl, rfl, SqT.of hT, atI_nat (j := 1) rfl, i, j, rfl, rfl, jp, rfl, _, rfl, ?_⟩
                      by_cases c2 : i % j = 0
                      · rw [decide_eq_true c2] at q
                        rw [decide_eq_true (congrArg V.int c2)]
                        refine iteT ?_
                        exact ⟨_, rfl, a, _, 0, .int i, rfl, rfl, SqT.of hT, atI_nat (j := 0) rfl, _, rfl, a, _, 1, .int j, rfl, rfl, SqT.of hT, atI_nat (j := 1) rfl, i, j, rfl, rfl, 2, 48, rfl, rfl, (by unfold CPow; decide), _, _, rfl, rfl, q _ sp⟩
                      · rw [decide_eq_false c2] at q
                        rw [decide_eq_false fun z => c2 (V.int.inj z)]
                        exact iteF (q _ sp)
                    · rw [decide_eq_false c1] at q ⊢
                      exact iteF (q _ sp)
              | _ =>
                have e3 : ∀ d2, intD d2 = false → blockDue (.tuple [.int i, d2]) = false := fun d2 h => by
                  cases d2 with
                  | int _ => cases h
                  | _ => rfl
                rw [e3 _ rfl] at q
                exact iteT (q _ (Same.refl _))
            | _ =>
              have e3 : ∀ d1, intD d1 = false → blockDue (.tuple [d1, dy]) = false := fun d1 h => by
                cases d1 with
                | int _ => cases h
                | _ => rfl
              rw [e3 _ rfl] at q
              exact iteT (q _ (Same.refl _))
      · have e : (!decide (V.int (xs.length : Int) = V.int 2)) = true := by
          rw [decide_eq_false fun z => hl (by have := V.int.inj z; omega)]
          rfl
        rw [e]
        refine iteT ?_
        have e3 : blockDue (.tuple ds) = false := by
          unfold blockDue
          split
          · rename_i h
            injection h with h
            subst h
            exact absurd h2.length hl
          · rfl
        rw [e3] at q
        exact q _ (Same.refl _)
    | _ => exact iteT (q _ (Same.refl _))
abbrev sp_l_due : Sp := sp_q_room_error
theorem ok_l_due (T : Txt K mg) : FnOk P w K mg base CX0 3 T.f_l_due T.d_l_due ["_law_value"] sp_l_due := by
  refine T.F_l_due.ok sc_l_due (fun vs H Q E h => ?_) (fun cdv A outer s H vs Q E hr h => ?_)
  · obtain ⟨v, d, rfl, _⟩ := h
    rfl
  · obtain ⟨v, d, rfl, hd, hz, q⟩ := h
    refine ⟨_, (pss_cons (ps_if (PW.pt (pw_or (pt_not (pt_val (pe_callB call_isi (by rfl) T.b_isinstance (by decide +kernel) (pa_cons (pv 0) (pa_cons (pe_bltn (v := .ty "tuple") (u := .type "tuple") (by rfl) T.b_tuple (by decide +kernel) rfl) pa_nil))))) (pw_or1 (pt_cmpR op_gt (pe_callB call_len_seq (by rfl) T.b_len (by decide +kernel) (pa_cons (pv 0) pa_nil)) pe_int (nomark _)))))
      (pss_one (ps_ret (pe_tup (pa_cons pe_non (pa_cons pe_str pa_nil)))))
      pss_nil)
      (pss_cons (ps_for PassesOwn.never rfl (pi_range1 (by rfl) T.b_range (pa_cons (pe_callB call_len_seq (by rfl) T.b_len (by decide +kernel) (pa_cons (pv 0) pa_nil)) pa_nil)) (pg_name (i := 1) sc_l_due.nd rfl (Or.inl rfl))
      (pss_cons (ps_set (i := 2) sc_l_due.nd rfl (by first | exact Or.inl rfl | exact Or.inr rfl) (pe_ix ix_tup (pv 0) (pv 1) (fun _ _ => rfl)))
      (pss_cons (ps_if (pt_not (pt_val (pe_call (ok_l_is_block T) (hr.mono (by decide)) (by rfl) T.g_l_is_block T.F_l_is_block.kp T.bd_l_is_block .nil pass0 (pa_cons (pv 2) pa_nil))))
      (pss_one (ps_ret (pe_tup (pa_cons (pv 1) (pa_cons pe_str pa_nil)))))
      pss_nil)
      (pss_one (ps_if (pt_cmpR op_gt (pv 1) pe_int (nomark _))
      (pss_cons (ps_set (i := 3) sc_l_due.nd rfl (by first | exact Or.inl rfl | exact Or.inr rfl) (pe_ix ix_tup (pv 0) (pe_op op_sub (pv 1) pe_int) (fun _ _ => rfl)))
      (pss_cons (ps_if (pt_cmpR op_lt (pe_ix ix_tup (pv 2) pe_int (fun _ _ => rfl)) (pe_op op_add (pe_ix ix_tup (pv 3) pe_int (fun _ _ => rfl)) (pe_ix ix_tup (pv 3) pe_int (fun _ _ => rfl))) (nomark _))
      (pss_one (ps_ret (pe_tup (pa_cons (pv 1) (pa_cons pe_str pa_nil)))))
      pss_nil)
      (pss_one (ps_if (PW.pt (pw_and (pt_cmpR op_eq (pe_ix ix_tup (pv 2) pe_int (fun _ _ => rfl)) (pe_ix ix_tup (pv 3) pe_int (fun _ _ => rfl)) (nomark _)) (pw_and (pt_cmpR op_eq (pe_op op_add (pe_ix ix_tup (pv 3) pe_int (fun _ _ => rfl)) (pe_ix ix_tup (pv 3) pe_int (fun _ _ => rfl))) (pe_ix ix_tup (pv 2) pe_int (fun _ _ => rfl)) (nomark _)) (pw_and1 (pt_cmpR op_eq (pe_op op_mod (pe_op op_fdivW (pe_ix ix_tup (pv 3) pe_int (fun _ _ => rfl)) (pe_ix ix_tup (pv 3) pe_int (fun _ _ => rfl))) pe_int) pe_int (nomark _))))))
      (pss_one (ps_ret (pe_tup (pa_cons (pv 1) (pa_cons pe_str pa_nil)))))
      pss_nil))))
      pss_nil)))))
      (pss_one (ps_ret pe_non)))), ?_⟩
    refine ⟨_, rfl, _, _, _, _, _, rfl, .ty _, hd.ty, kit_tup d, _, rfl, ?_⟩
    have bad : roomErrD d = .tuple [.none, .str "room"] → (∀ p, H p = none → Q (.ref p) (upd H p (.tup [.non, .str "room"]))) := fun e p np =>
      q _ _ (same_new np) (by rw [e]; exact .tup upd_same (.cons .non (.cons (.str _) .nil)))
    cases hd with
    | @tup a xs ds ha hx =>
      have ln := hx.length
      have hz := hz ds rfl
      refine iteF ?_
      refine ⟨_, rfl, a, xs, rfl, .inr (SqT.of ha), (xs.length : Int), 128, rfl, rfl, _, rfl, ite2 (fun h => ?_) (fun h => ?_)⟩
      · have h : 128 < ds.length := by
          have h := of_decide_eq_true h
          omega
        exact ⟨(by show 2 ≤ sizeLine; decide), bad (by show (if 128 < ds.length then _ else _) = _; rw [if_pos h])⟩
      · have h : ¬ 128 < ds.length := fun z => h (decide_eq_true (by omega))
        have e0 : roomErrD (.tuple ds) = firstErr 0 none ds := by
          show (if 128 < ds.length then _ else _) = _
          rw [if_neg h]
        rw [e0] at q
        refine ⟨_, rfl, a, xs, rfl, .inr (SqT.of ha), (xs.length : Int), rfl, by omega, by omega, ?_⟩
        refine for_range (lo := 0) (n := ((xs.length : Int)).toNat) (fun i σ H1 => ∃ y1 y2 y3 : Option V, σ = [some (.ref a), y1, y2, y3] ∧ Same H H1 ∧ firstErr i (prevAt ds i) (ds.drop i) = firstErr 0 none ds ∧ (0 < i → ∃ b, ds[i - 1]? = some b ∧ blockD b = true))
          ⟨none, none, none, rfl, Same.refl _, rfl, fun z => absurd z (Nat.lt_irrefl 0)⟩ ?_ ?_
        · rintro i σ H1 hi ⟨y1, y2, y3, rfl, sm, ef, hb⟩
          have hi2 : i < ds.length := by omega
          have ed := List.getElem?_eq_getElem hi2
          generalize ds[i] = d at ed
          rw [first_step ed] at ef
          have ei : (0 + (i : Int)) = (i : Int) := by omega
          rw [ei]
          obtain ⟨x, hxi, dx⟩ := hx.getD ed
          -- item
          refine ⟨_, rfl, _, rfl, a, xs, i, x, rfl, rfl, SqT.of (sm _ _ ha), at_of rfl hxi, ?_⟩
          refine ⟨_, rfl, x, d, rfl, dx.mono sm, fun H2 s2 => ⟨_, rfl, ?_⟩⟩
          have sm2 := sm.trans s2
          cases eb : blockD d with
          | false =>
            refine iteT ?_
            refine ⟨_, rfl, (by show 2 ≤ sizeLine; decide), fun p np => ?_⟩
            refine q _ _ (sm2.trans (same_new np)) ?_
            have e : wordD (prevAt ds i) d = some ("block" : Str) := by
              unfold wordD
              rw [if_neg (by rw [eb]; exact Bool.false_ne_true)]
            rw [e] at ef
            rw [← ef]
            exact .tup upd_same (.cons (.int _) (.cons (.str _) .nil))
          | true =>
            refine iteF ?_
            obtain ⟨i0, j0, rfl, d1, d2, d3, d4, d5⟩ := block_shape eb
            obtain ⟨ax, rfl, hax⟩ := (dx.mono sm2).pair
            refine ⟨_, rfl, (i : Int), 0, rfl, rfl, _, rfl, ite2 (fun h0 => ?_) (fun h0 => ?_)⟩
            · have h0 : 0 < i := by
                have h := of_decide_eq_true h0
                omega
              obtain ⟨b, eb1, eb2⟩ := hb h0
              obtain ⟨b0, z0, rfl, c1, c2, c3, c4, c5⟩ := block_shape eb2
              obtain ⟨y, hy, dy⟩ := hx.getD eb1
              obtain ⟨ay, rfl, hay⟩ := (dy.mono sm2).pair
              have ew : wordD (prevAt ds i) (.tuple [.int i0, .int j0]) = pairWord b0 z0 i0 j0 := by
                unfold wordD prevAt
                rw [if_pos eb, if_neg (by omega), eb1]
              rw [ew] at ef
              unfold pairWord at ef
              simp only [halves_same (show 0 < z0 by omega) c5] at ef
              have X0 : ∀ {R : V → Hp → Prop}, R (.int i0) H2 → ∃ p xs k v, V.ref ax = .ref p ∧ V.int 0 = .int k ∧ SqT K H2 p xs ∧ atI xs k = some v ∧ R v H2 := fun r => ⟨ax, _, 0, .int i0, rfl, rfl, SqT.of hax, atI_nat (j := 0) rfl, r⟩
              refine ⟨_, rfl, _, rfl, (i : Int), 1, rfl, rfl, a, xs, _, _, rfl, rfl, SqT.of (sm2 _ _ ha), at_of (j := i - 1) (by omega) hy, ?_⟩
              refine ⟨_, rfl, ax, _, 0, .int i0, rfl, rfl, SqT.of hax, atI_nat (j := 0) rfl, _, rfl, ay, _, 0, .int b0, rfl, rfl, SqT.of hay, atI_nat (j := 0) rfl, _, rfl, ay, _, 1, .int z0, rfl, rfl, SqT.of hay, atI_nat (j := 1) rfl,
                b0, z0, rfl, rfl, i0, b0 + z0, rfl, rfl, _, rfl, ite2 (fun h1 => ?_) (fun h1 => ?_)⟩
              · rw [if_pos (of_decide_eq_true h1)] at ef
                refine ⟨_, rfl, (by show 2 ≤ sizeLine; decide), fun p np => ?_⟩
                refine q _ _ (sm2.trans (same_new np)) ?_
                rw [← ef]
                exact .tup upd_same (.cons (.int _) (.cons (.str _) .nil))
              · rw [if_neg (fun z => h1 (decide_eq_true z))] at ef
                refine ⟨_, rfl, ax, _, 1, .int j0, rfl, rfl, SqT.of hax, atI_nat (j := 1) rfl, _, rfl, ay, _, 1, .int z0, rfl, rfl, SqT.of hay, atI_nat (j := 1) rfl, rfl, _, rfl, ite2 (fun h2 => ?_) (fun h2 => ?_)⟩
                · have h2 : j0 = z0 := V.int.inj (of_decide_eq_true h2)
                  refine ⟨_, rfl, ay, _, 0, .int b0, rfl, rfl, SqT.of hay, atI_nat (j := 0) rfl, _, rfl, ay, _, 1, .int z0, rfl, rfl, SqT.of hay, atI_nat (j := 1) rfl, b0, z0, rfl, rfl, _, rfl, ax, _, 0, .int i0, rfl, rfl, SqT.of hax, atI_nat (j := 0) rfl, rfl, _, rfl,
                    ite2 (fun h3 => ?_) (fun h3 => ?_)⟩
                  · have h3 : b0 + z0 = i0 := V.int.inj (of_decide_eq_true h3)
                    refine ⟨_, rfl, ay, _, 0, .int b0, rfl, rfl, SqT.of hay, atI_nat (j := 0) rfl, _, rfl, ay, _, 1, .int z0, rfl, rfl, SqT.of hay, atI_nat (j := 1) rfl, b0, z0, rfl, rfl, log_of (k := 49) (by omega) (by omega) (by decide) (by decide) _,
                      _, 2, rfl, rfl, (by show (0 : Int) < 2; decide), rfl, _, rfl, ite2 (fun h4 => ?_) (fun h4 => ?_)⟩
                    · rw [if_pos ⟨h2, h3, V.int.inj (of_decide_eq_true h4)⟩] at ef
                      refine ⟨_, rfl, (by show 2 ≤ sizeLine; decide), fun p np => ?_⟩
                      refine q _ _ (sm2.trans (same_new np)) ?_
                      rw [← ef]
                      exact .tup upd_same (.cons (.int _) (.cons (.str _) .nil))
                    · rw [if_neg fun z => h4 (decide_eq_true (congrArg V.int z.2.2))] at ef
                      exact ⟨_, _, _, rfl, sm2, ef, fun _ => ⟨_, by rw [Nat.add_sub_cancel]; exact ed, eb⟩⟩
                  · rw [if_neg fun z => h3 (decide_eq_true (congrArg V.int z.2.1))] at ef
                    refine iteF ?_
                    exact ⟨_, _, _, rfl, sm2, ef, fun _ => ⟨_, by rw [Nat.add_sub_cancel]; exact ed, eb⟩⟩
                · rw [if_neg fun z => h2 (decide_eq_true (congrArg V.int z.1))] at ef
                  refine iteF ?_
                  exact ⟨_, _, _, rfl, sm2, ef, fun _ => ⟨_, by rw [Nat.add_sub_cancel]; exact ed, eb⟩⟩
            · have h0 : i = 0 := by
                refine Nat.eq_zero_of_not_pos fun z => h0 (decide_eq_true ?_)
                omega
              have ew : wordD (prevAt ds i) (.tuple [.int i0, .int j0]) = none := by
                unfold wordD prevAt
                rw [if_pos eb, if_pos h0]
              rw [ew] at ef
              exact ⟨_, _, _, rfl, sm2, ef, fun _ => ⟨_, by rw [Nat.add_sub_cancel]; exact ed, eb⟩⟩
        · rintro σ H1 ⟨y1, y2, y3, rfl, sm, ef, hb⟩
          have e1 : ds.drop ((xs.length : Int)).toNat = [] := List.drop_of_length_le (by omega)
          rw [e1] at ef
          refine q H1 _ sm ?_
          rw [← ef]
          exact .non
    | _ => exact iteT ⟨(by show 2 ≤ sizeLine; decide), bad rfl⟩
theorem ok_l_bent (T : Txt K mg) : FnOk P w K mg base CX0 4 T.f_l_bent T.d_l_bent ["_law_source_here", "_law_items"] sp_l_bent := by
  refine T.F_l_bent.ok sc_l_bent (fun vs H Q E h => ?_) (fun cdv A outer s H vs Q E hr h => ?_)
  · obtain ⟨s, l, c, p, t, ds, rfl, _⟩ := h
    rfl
  · obtain ⟨s, l, c, p, t, ds, rfl, S, ht, hp, hl, q⟩ := h
    refine ⟨_, (pss_cons (ps_set (i := 2) sc_l_bent.nd rfl (by first | exact Or.inl rfl | exact Or.inr rfl) (pe_call (ok_l_below T) (hr.mono (by decide)) (by rfl) T.g_l_below T.F_l_below.kp T.bd_l_below .nil pass0 (pa_cons (pv 0) (pa_cons (pe_op op_add (pe_callB call_lenK (by rfl) T.b_len (by decide +kernel) (pa_cons (pv 1) pa_nil)) pe_int) pa_nil))))
      (pss_cons (ps_if (pt_cmpR op_eq (pv 2) (pe_callB call_lenK (by rfl) T.b_len (by decide +kernel) (pa_cons (pv 1) pa_nil)) (nomark _))
      (pss_one (ps_ret (pe_op op_catK (pv 1) (pe_call (ok_l_pick T) (hr.mono (by decide)) (by rfl) T.g_l_pick T.F_l_pick.kp T.bd_l_pick .nil pass0 (pa_cons (pv 0) (pa_cons (pe_lst (pa_cons (pe_slice sl_listK (pv 1) po_none (po_some pe_int)) (pa_cons (pe_lst (pa_cons (pe_tup (pa_cons (pe_op op_sub (pe_op op_pow pe_int pe_int) pe_int) (pa_cons pe_int pa_nil))) pa_nil)) (pa_cons (pe_lst (pa_cons (pe_call (ok_l_odd T) (hr.mono (by decide)) (by rfl) T.g_l_odd T.F_l_odd.kp T.bd_l_odd .nil pass0 (pa_cons (pv 0) pa_nil)) pa_nil)) (pa_cons (pe_lst pa_nil) pa_nil))))) pa_nil))))))
      pss_nil)
      (pss_cons (ps_asg (pe_ifExp (pt_cmpR op_isN (pe_call (ok_l_due T) (hr.mono (by decide)) (by rfl) T.g_l_due T.F_l_due.kp T.bd_l_due .nil pass0 (pa_cons (pe_tup (pa_cons (pe_ix ix_listK (pv 1) (pv 2) (fun _ _ => rfl)) pa_nil)) pa_nil)) pe_non (nomark _)) (pe_ix ix_listK (pv 1) (pv 2) (fun _ _ => rfl)) (pe_tup (pa_cons pe_int (pa_cons pe_int pa_nil)))) (pg_tup rfl (pgs_cons (pg_name (i := 3) sc_l_bent.nd rfl (Or.inl rfl)) (pgs_cons (pg_name (i := 4) sc_l_bent.nd rfl (Or.inl rfl)) pgs_nil))))
      (pss_cons (ps_set (i := 5) sc_l_bent.nd rfl (by first | exact Or.inl rfl | exact Or.inr rfl) (pe_lst (pa_cons (pe_call (ok_l_odd T) (hr.mono (by decide)) (by rfl) T.g_l_odd T.F_l_odd.kp T.bd_l_odd .nil pass0 (pa_cons (pv 0) pa_nil)) (pa_cons (pe_tup (pa_cons (pe_op op_add (pv 3) pe_int) (pa_cons (pv 4) pa_nil))) (pa_cons (pe_tup (pa_cons (pv 3) (pa_cons (pe_op op_mul (pv 4) pe_int) pa_nil))) (pa_cons (pe_tup (pa_cons (pv 3) (pa_cons (pe_op op_add (pv 4) pe_int) pa_nil))) (pa_cons (pe_lst (pa_cons (pv 3) (pa_cons (pv 4) pa_nil))) pa_nil)))))))
      (pss_cons (ps_set (i := 5) sc_l_bent.nd rfl (by first | exact Or.inl rfl | exact Or.inr rfl) (pe_op op_catK (pv 5) (pe_lst (pa_cons (pe_tup (pa_cons (pe_op op_add (pv 3) (pv 4)) (pa_cons (pv 4) pa_nil))) (pa_cons (pe_tup (pa_cons (pv 3) (pa_cons pe_bl pa_nil))) (pa_cons (pe_tup (pa_cons (pe_callTy call_bool1 (by rfl) T.b_bool (by decide +kernel) (pa_cons (pv 3) pa_nil)) (pa_cons (pv 4) pa_nil))) (pa_cons (pe_tup (pa_cons (pe_un un_neg (pv 4)) (pa_cons (pv 4) pa_nil))) (pa_cons (pe_tup (pa_cons (pv 3) (pa_cons (pe_op op_fdivW (pv 4) pe_int) pa_nil))) pa_nil))))))))
      (pss_cons (ps_set (i := 5) sc_l_bent.nd rfl (by first | exact Or.inl rfl | exact Or.inr rfl) (pe_op op_catK (pv 5) (pe_lst (pa_cons (pe_tup (pa_cons (pv 3) (pa_cons (pv 4) (pa_cons (pv 4) pa_nil)))) pa_nil))))
      (pss_cons (ps_set (i := 6) sc_l_bent.nd rfl (by first | exact Or.inl rfl | exact Or.inr rfl) (pe_call (ok_l_below T) (hr.mono (by decide)) (by rfl) T.g_l_below T.F_l_below.kp T.bd_l_below .nil pass0 (pa_cons (pv 0) (pa_cons (pe_op op_add (pe_callB call_lenK (by rfl) T.b_len (by decide +kernel) (pa_cons (pv 5) pa_nil)) pe_int) pa_nil))))
      (pss_cons (ps_if (pt_cmpR op_lt (pv 6) (pe_callB call_lenK (by rfl) T.b_len (by decide +kernel) (pa_cons (pv 5) pa_nil)) (nomark _))
      (pss_one (ps_ret (pe_op op_catK (pe_op op_catK (pe_slice sl_listK (pv 1) po_none (po_some (pv 2))) (pe_lst (pa_cons (pe_ix ix_listK (pv 5) (pv 6) (fun _ _ => rfl)) pa_nil))) (pe_slice sl_listK (pv 1) (po_some (pe_op op_add (pv 2) pe_int)) po_none))))
      pss_nil)
      (pss_cons (ps_if (pt_cmpR op_eq (pv 6) (pe_callB call_lenK (by rfl) T.b_len (by decide +kernel) (pa_cons (pv 5) pa_nil)) (nomark _))
      (pss_one (ps_ret (pe_op op_catK (pe_op op_catK (pe_slice sl_listK (pv 1) po_none (po_some (pv 2))) (pe_lst (pa_cons (pe_tup (pa_cons (pv 3) (pa_cons (pe_op op_fdivW (pv 4) pe_int) pa_nil))) (pa_cons (pe_tup (pa_cons (pe_op op_add (pv 3) (pe_op op_fdivW (pv 4) pe_int)) (pa_cons (pe_op op_fdivW (pv 4) pe_int) pa_nil))) pa_nil)))) (pe_slice sl_listK (pv 1) (po_some (pe_op op_add (pv 2) pe_int)) po_none))))
      pss_nil)
      (pss_one (ps_ret (pe_ifExp (pt_cmpR op_gt (pv 6) (pe_op op_add (pe_callB call_lenK (by rfl) T.b_len (by decide +kernel) (pa_cons (pv 5) pa_nil)) pe_int) (nomark _)) (pe_op op_catK (pe_op op_catK (pe_slice sl_listK (pv 1) po_none (po_some (pv 2))) (pe_op op_repK (pe_slice sl_listK (pv 1) (po_some (pv 2)) (po_some (pe_op op_add (pv 2) pe_int))) pe_int)) (pe_slice sl_listK (pv 1) (po_some (pe_op op_add (pv 2) pe_int)) po_none)) (pe_revL (pv 1)))))))))))))), ?_⟩
    refine ⟨_, rfl, _, rfl, rd_len (hid_same s l _) hp ⟨_, 1, rfl, rfl, s, l, c, t, _, rfl, S, by omega, by omega, by omega, fun H1 r t1 g1 r0 r1 => ?_⟩⟩
    have u1 := g1.up
    have m : More s l c H H1 t1 [.ref p] [.list ds] := ⟨g1.src, g1.keep, .cons (g1.dd hp) .nil⟩
    obtain ⟨n, rfl⟩ := int_two r0
    refine ⟨_, rfl, _, rfl, rd_len (hid_same s l _) m.hd ⟨rfl, _, rfl, ite2 (fun he => ?_) (fun he => ?_)⟩⟩
    · -- one more item behind all
      refine ⟨_, rfl, _, rfl, _, rfl, 1, rfl, rd_slice (lo := none) (hi := some 1) (hid_same s l _) m.hd fun p1 x1 n1 hx1 => ?_⟩
      generalize hH : upd H1 p1 _ = H2
      replace m := m.lstE n1 hH hx1
      clear hH
      refine ⟨2, 48, rfl, rfl, (by unfold CPow; decide), _, 16, rfl, rfl, (by show 2 ≤ sizeLine; decide), fun p2 n2 => ?_⟩
      generalize hH : upd H2 p2 _ = H3
      replace m := m.tupE n2 hH (.cons (.int _) (.cons (.int _) .nil))
      clear hH
      refine ⟨(by show 1 ≤ sizeLine; decide), fun p3 n3 => ?_⟩
      have y1 := m.hd
      generalize hH : upd H3 p3 _ = H4
      replace m := m.tl.lstE n3 hH (.cons y1 .nil)
      clear hH
      refine ⟨_, rfl, s, l, c, t1, rfl, m.src, by omega, fun H5 v5 d5 t5 g5 h5 _ => ⟨(by show 1 ≤ sizeLine; decide), fun p4 n4 => ?_⟩⟩
      have u5 := g5.up
      replace m := m.call g5
      generalize hH : upd H5 p4 _ = H6
      replace m := m.lstE n4 hH (.cons h5 .nil)
      clear hH
      refine ⟨Nat.zero_le _, fun p5 n5 => ?_⟩
      generalize hH : upd H6 p5 _ = H7
      replace m := m.lstE n5 hH .nil
      clear hH
      refine ⟨(by show 4 ≤ sizeLine; decide), fun p6 n6 => ?_⟩
      have y4 := m.hd
      have y3 := m.tl.hd
      have y2 := m.tl.tl.hd
      have y1 := m.tl.tl.tl.hd
      generalize hH : upd H7 p6 _ = H8
      replace m := m.tl.tl.tl.tl.lstE n6 hH (.cons y1 (.cons y2 (.cons y3 (.cons y4 .nil))))
      clear hH
      obtain ⟨xs, e6, h6⟩ := m.hd.list
      have l6 : xs.length = 4 := h6.length
      refine ⟨s, l, c, p6, t5, xs, rfl, m.src, by omega, e6, by omega, by omega, fun H9 i v t9 g9 e9 => ?_⟩
      have u9 := g9.up
      obtain ⟨d, hd, hv⟩ := h6.get e9
      replace m := m.call g9
      replace hv := g9.dd hv
      have b1 := cutD_to ds 1
      obtain ⟨es, rfl, hes⟩ : ∃ es, d = .list es ∧ es.length ≤ 1 := by
        have h := List.mem_of_getElem? hd
        simp only [List.mem_cons, List.not_mem_nil, or_false] at h
        rcases h with rfl | rfl | rfl | rfl
        · exact ⟨_, rfl, b1⟩
        · exact ⟨_, rfl, by simp⟩
        · exact ⟨_, rfl, by simp⟩
        · exact ⟨_, rfl, by simp⟩
      obtain ⟨av, rfl⟩ : ∃ av, v = .ref av := by
        cases hv with
        | lst _ _ => exact ⟨_, rfl⟩
      refine rd_cat (hid_same s l _) m.tl.hd hv (by omega) fun p7 x7 n7 hx7 => ?_
      replace m := m.lst n7 hx7
      exact q _ p7 t9 _ m.src (by omega) m.keep m.hd (by rw [List.length_append]; omega)
    · -- an item bent
      have hn : n < ds.length := by
        refine Nat.lt_of_le_of_ne (by omega) fun z => he (decide_eq_true ?_)
        rw [z]
      have ed := List.getElem?_eq_getElem hn
      generalize ds[n] = d at ed
      refine ⟨_, rfl, _, rfl, rd_item (j := n) (hid_same s l _) m.hd rfl ed fun x hx => ⟨(by show 1 ≤ sizeLine; decide), fun T nT => ?_⟩⟩
      replace m := m.add hx
      generalize hH : upd H1 T _ = H2
      replace m := m.tupE nT hH (.cons hx .nil)
      clear hH
      refine ⟨.ref T, .tuple [d], rfl, m.hd.out, fun es z => by injection z with z; subst z; exact (by decide : 1 ≤ 1000), fun H3 r s3 hr3 => ⟨rfl, _, rfl, ?_⟩⟩
      replace m : More s l c H H3 t1 _ _ := ⟨(m.goes.same s3).src, (m.goes.same s3).keep, m.all.mono (hid_mono s3)⟩
      replace m := m.tl.tl
      cases eb : blockD d with
      | true =>
        have e1 : roomErrD (.tuple [d]) = .none := by
          show firstErr 0 none [d] = _
          show (match wordD none d with
            | some w => PyData.tuple [.int (0 : Nat), .str w]
            | none => firstErr 1 (some d) []) = _
          have e2 : wordD none d = none := by
            unfold wordD
            rw [if_pos eb]
          rw [e2]
          rfl
        rw [e1] at hr3
        cases hr3
        refine iteT ?_
        obtain ⟨st, sz, rfl, _⟩ := block_shape eb
        refine ⟨_, rfl, _, rfl, rd_item (j := n) (hid_same s l _) m.hd rfl ed fun x hx => ?_⟩
        obtain ⟨ax, rfl, hax⟩ := hx.pair
        refine ⟨ax, _, rfl, SqT.of (hid_some hax).2.2, rfl, _, _, rfl, _, _, rfl, rfl, ?_⟩
        -- the first list
        refine ⟨_, rfl, s, l, c, t1, rfl, m.src, by omega, fun H5 v5 d5 t5 g5 h5 _ => ?_⟩
        have u5 := g5.up
        replace m := (m.call g5).add h5
        refine ⟨_, rfl, st, 16, rfl, rfl, _, rfl, (by show 2 ≤ sizeLine; decide), fun p1 n1 => ?_⟩
        generalize hH : upd H5 p1 _ = H6
        replace m := m.tupE n1 hH (.cons (.int _) (.cons (.int _) .nil))
        clear hH
        refine ⟨_, rfl, _, rfl, sz, 2, rfl, rfl, .inr ⟨by decide, by decide⟩, (by show 2 ≤ sizeLine; decide), fun p2 n2 => ?_⟩
        generalize hH : upd H6 p2 _ = H7
        replace m := m.tupE n2 hH (.cons (.int _) (.cons (.int _) .nil))
        clear hH
        refine ⟨_, rfl, _, rfl, sz, 1, rfl, rfl, (by show 2 ≤ sizeLine; decide), fun p3 n3 => ?_⟩
        generalize hH : upd H7 p3 _ = H8
        replace m := m.tupE n3 hH (.cons (.int _) (.cons (.int _) .nil))
        clear hH
        refine ⟨_, rfl, _, rfl, (by show 2 ≤ sizeLine; decide), fun p4 n4 => ?_⟩
        generalize hH : upd H8 p4 _ = H9
        replace m := m.lstE n4 hH (.cons (.int _) (.cons (.int _) .nil))
        clear hH
        refine ⟨(by show 5 ≤ sizeLine; decide), fun a na => ?_⟩
        have y5 := m.hd
        have y4 := m.tl.hd
        have y3 := m.tl.tl.hd
        have y2 := m.tl.tl.tl.hd
        have y1 := m.tl.tl.tl.tl.hd
        generalize hH : upd H9 a _ = H10
        replace m := m.tl.tl.tl.tl.tl.lstE na hH (.cons y1 (.cons y2 (.cons y3 (.cons y4 (.cons y5 .nil)))))
        clear hH
        clear y1 y2 y3 y4 y5 n1 n2 n3 n4 na
        -- the second list
        refine ⟨_, rfl, _, rfl, _, rfl, st, sz, rfl, rfl, _, rfl, (by show 2 ≤ sizeLine; decide), fun p1 n1 => ?_⟩
        generalize hH : upd H10 p1 _ = H11
        replace m := m.tupE n1 hH (.cons (.int _) (.cons (.int _) .nil))
        clear hH
        refine ⟨_, rfl, (by show 2 ≤ sizeLine; decide), fun p2 n2 => ?_⟩
        generalize hH : upd H11 p2 _ = H12
        replace m := m.tupE n2 hH (.cons (.int _) (.cons (.bl _) .nil))
        clear hH
        refine ⟨_, rfl, .inl ⟨st, rfl, _, rfl, (by show 2 ≤ sizeLine; decide), fun p3 n3 => ?_⟩⟩
        generalize hH : upd H12 p3 _ = H13
        replace m := m.tupE n3 hH (.cons (.bl _) (.cons (.int _) .nil))
        clear hH
        refine ⟨_, rfl, sz, rfl, _, rfl, (by show 2 ≤ sizeLine; decide), fun p4 n4 => ?_⟩
        generalize hH : upd H13 p4 _ = H14
        replace m := m.tupE n4 hH (.cons (.int _) (.cons (.int _) .nil))
        clear hH
        refine ⟨_, rfl, _, rfl, sz, 2, rfl, rfl, log_of (k := 2) (by decide) (by decide) (by decide) (by decide) _, (by show 2 ≤ sizeLine; decide), fun p5 n5 => ?_⟩
        generalize hH : upd H14 p5 _ = H15
        replace m := m.tupE n5 hH (.cons (.int _) (.cons (.int _) .nil))
        clear hH
        refine ⟨(by show 5 ≤ sizeLine; decide), fun b nb => ?_⟩
        have y5 := m.hd
        have y4 := m.tl.hd
        have y3 := m.tl.tl.hd
        have y2 := m.tl.tl.tl.hd
        have y1 := m.tl.tl.tl.tl.hd
        generalize hH : upd H15 b _ = H16
        replace m := m.tl.tl.tl.tl.tl.lstE nb hH (.cons y1 (.cons y2 (.cons y3 (.cons y4 (.cons y5 .nil)))))
        clear hH
        clear y1 y2 y3 y4 y5 n1 n2 n3 n4 n5 nb
        refine rd_cat (hid_same s l _) m.tl.hd m.hd (by show 5 + 5 ≤ 1000; decide) fun e xs ne hx => ?_
        generalize hH : upd H16 e _ = H17
        replace m := m.tl.tl.lstE ne hH hx
        clear hH
        clear hx ne xs
        -- one more
        refine ⟨_, rfl, _, rfl, _, rfl, _, rfl, (by show 3 ≤ sizeLine; decide), fun p1 n1 => ?_⟩
        generalize hH : upd H17 p1 _ = H18
        replace m := m.tupE n1 hH (.cons (.int _) (.cons (.int _) (.cons (.int _) .nil)))
        clear hH
        refine ⟨(by show 1 ≤ sizeLine; decide), fun b nb => ?_⟩
        have y1 := m.hd
        generalize hH : upd H18 b _ = H19
        replace m := m.tl.lstE nb hH (.cons y1 .nil)
        clear hH
        clear y1 n1 nb
        refine rd_cat (hid_same s l _) m.tl.hd m.hd (by show 10 + 1 ≤ 1000; decide) fun f xs nf hx => ?_
        generalize hH : upd H19 f _ = H20
        replace m := m.tl.tl.lstE nf hH hx
        clear hH
        clear hx nf xs
        -- the way
        refine ⟨_, rfl, _, rfl, rd_len (hid_same s l _) m.hd ⟨_, 3, rfl, rfl, s, l, c, t5, _, rfl, m.src, by omega, (by show (0 : Int) < ((11 : Nat) : Int) + 3; decide), (by show ((11 : Nat) : Int) + 3 < 2 ^ 64; decide), fun H7 way t7 g7 w0 w1 => ?_⟩⟩
        have u7 := g7.up
        replace m := m.call g7
        refine ⟨_, rfl, _, rfl, rd_len (hid_same s l _) m.hd ⟨way, _, rfl, rfl, _, rfl, ite2 (fun hw => ?_) (fun hw => ?_)⟩⟩
        · -- one item in its place
          have hw : way.toNat < 11 := by
            have h := of_decide_eq_true hw
            have h2 : way < 11 := h
            omega
          obtain ⟨d, hd⟩ : ∃ d, ([d5, PyData.tuple [.int (st + 16), .int sz], .tuple [.int st, .int (sz * 2)], .tuple [.int st, .int (sz + 1)], .list [.int st, .int sz]] ++ [.tuple [.int (st + sz), .int sz], .tuple [.int st, .bool true],
              .tuple [.bool (st != 0), .int sz], .tuple [.int (-sz), .int sz], .tuple [.int st, .int (sz / 2)]] ++ [.tuple [.int st, .int sz, .int sz]])[way.toNat]? = some d := ⟨_, List.getElem?_eq_getElem hw⟩
          refine ⟨_, rfl, _, rfl, (n : Int), rfl, rd_slice (hid_same s l _) m.tl.hd fun a1 x1 na1 hx1 => ?_⟩
          generalize hH : upd H7 a1 _ = K1
          replace m := m.lstE na1 hH hx1
          clear hH
          refine ⟨_, rfl, _, rfl, rd_item (j := way.toNat) (hid_same s l _) m.tl.hd (by omega) hd fun v hv => ⟨(by show 1 ≤ sizeLine; decide), fun a2 na2 => ?_⟩⟩
          generalize hH : upd K1 a2 _ = K2
          replace m := m.lstE na2 hH (.cons hv .nil)
          clear hH
          clear hv hx1
          have b1 := cutD_to ds n
          refine rd_cat (hid_same s l _) m.tl.hd m.hd (by simp only [List.length_cons, List.length_nil]; omega) fun a3 x3 na3 hx3 => ?_
          generalize hH : upd K2 a3 _ = K3
          replace m := m.lstE na3 hH hx3
          clear hH
          refine ⟨_, rfl, _, rfl, (n : Int), 1, rfl, rfl, _, rfl, rd_slice (lo := some ((n : Int) + 1)) (hi := none) (hid_same s l _) m.tl.tl.tl.tl.hd fun a4 x4 na4 hx4 => ?_⟩
          generalize hH : upd K3 a4 _ = K4
          replace m := m.lstE na4 hH hx4
          clear hH
          have b2 := cutD_from ds (n + 1)
          rw [show ((n + 1 : Nat) : Int) = (n : Int) + 1 by omega] at b2
          refine rd_cat (hid_same s l _) m.tl.hd m.hd (by rw [List.length_append]; simp only [List.length_cons, List.length_nil]; omega) fun a5 x5 na5 hx5 => ?_
          replace m := m.lst na5 hx5
          exact q _ a5 t7 _ m.src (by omega) m.keep m.hd (by rw [List.length_append, List.length_append]; simp only [List.length_cons, List.length_nil]; omega)
        · refine ⟨_, rfl, _, rfl, rd_len (hid_same s l _) m.hd ⟨rfl, _, rfl, ite2 (fun hw2 => ?_) (fun hw2 => ?_)⟩⟩
          · -- halves in its place
            refine ⟨_, rfl, _, rfl, (n : Int), rfl, rd_slice (hid_same s l _) m.tl.hd fun a1 x1 na1 hx1 => ?_⟩
            generalize hH : upd H7 a1 _ = K1
            replace m := m.lstE na1 hH hx1
            clear hH
            refine ⟨_, rfl, _, rfl, sz, 2, rfl, rfl, log_of (k := 2) (by decide) (by decide) (by decide) (by decide) _, (by show 2 ≤ sizeLine; decide), fun p1 n1 => ?_⟩
            generalize hH : upd K1 p1 _ = K2
            replace m := m.tupE n1 hH (.cons (.int _) (.cons (.int _) .nil))
            clear hH
            refine ⟨_, rfl, _, rfl, sz, 2, rfl, rfl, log_of (k := 2) (by decide) (by decide) (by decide) (by decide) _, st, _, rfl, rfl, _, rfl, sz, 2, rfl, rfl, log_of (k := 2) (by decide) (by decide) (by decide) (by decide) _, (by show 2 ≤ sizeLine; decide), fun p2 n2 => ?_⟩
            generalize hH : upd K2 p2 _ = K3
            replace m := m.tupE n2 hH (.cons (.int _) (.cons (.int _) .nil))
            clear hH
            refine ⟨(by show 2 ≤ sizeLine; decide), fun a2 na2 => ?_⟩
            have y2 := m.hd
            have y1 := m.tl.hd
            generalize hH : upd K3 a2 _ = K4
            replace m := m.tl.tl.lstE na2 hH (.cons y1 (.cons y2 .nil))
            clear hH
            clear y1 y2
            have b1 := cutD_to ds n
            refine rd_cat (hid_same s l _) m.tl.hd m.hd (by simp only [List.length_cons, List.length_nil]; omega) fun a3 x3 na3 hx3 => ?_
            generalize hH : upd K4 a3 _ = K5
            replace m := m.lstE na3 hH hx3
            clear hH
            refine ⟨_, rfl, _, rfl, (n : Int), 1, rfl, rfl, _, rfl, rd_slice (lo := some ((n : Int) + 1)) (hi := none) (hid_same s l _) m.tl.tl.tl.tl.hd fun a4 x4 na4 hx4 => ?_⟩
            generalize hH : upd K5 a4 _ = K6
            replace m := m.lstE na4 hH hx4
            clear hH
            have b2 := cutD_from ds (n + 1)
            rw [show ((n + 1 : Nat) : Int) = (n : Int) + 1 by omega] at b2
            refine rd_cat (hid_same s l _) m.tl.hd m.hd (by rw [List.length_append]; simp only [List.length_cons, List.length_nil]; omega) fun a5 x5 na5 hx5 => ?_
            replace m := m.lst na5 hx5
            exact q _ a5 t7 _ m.src (by omega) m.keep m.hd (by rw [List.length_append, List.length_append]; simp only [List.length_cons, List.length_nil]; omega)
          · -- twice, or all turned round
            refine ⟨_, rfl, _, rfl, rd_len (hid_same s l _) m.hd ⟨_, 1, rfl, rfl, way, _, rfl, rfl, _, rfl, ite2 (fun hw3 => ?_) (fun hw3 => ?_)⟩⟩
            · refine ⟨_, rfl, _, rfl, (n : Int), rfl, rd_slice (hid_same s l _) m.tl.hd fun a1 x1 na1 hx1 => ?_⟩
              generalize hH : upd H7 a1 _ = K1
              replace m := m.lstE na1 hH hx1
              clear hH
              refine ⟨_, rfl, _, rfl, (n : Int), rfl, _, rfl, (n : Int), 1, rfl, rfl, _, rfl, rd_slice (lo := some (n : Int)) (hi := some ((n : Int) + 1)) (hid_same s l _) m.tl.tl.hd fun a2 x2 na2 hx2 => ?_⟩
              generalize hH : upd K1 a2 _ = K2
              replace m := m.lstE na2 hH hx2
              clear hH
              have b0 := cutD_one ds n
              refine rd_twice (hid_same s l _) m.hd (by omega) fun a6 x6 na6 hx6 => ?_
              generalize hH : upd K2 a6 _ = K3
              replace m := m.tl.lstE na6 hH hx6
              clear hH
              have b1 := cutD_to ds n
              refine rd_cat (hid_same s l _) m.tl.hd m.hd (by rw [List.length_append]; omega) fun a3 x3 na3 hx3 => ?_
              generalize hH : upd K3 a3 _ = K4
              replace m := m.lstE na3 hH hx3
              clear hH
              refine ⟨_, rfl, _, rfl, (n : Int), 1, rfl, rfl, _, rfl, rd_slice (lo := some ((n : Int) + 1)) (hi := none) (hid_same s l _) m.tl.tl.tl.tl.hd fun a4 x4 na4 hx4 => ?_⟩
              generalize hH : upd K4 a4 _ = K5
              replace m := m.lstE na4 hH hx4
              clear hH
              have b2 := cutD_from ds (n + 1)
              rw [show ((n + 1 : Nat) : Int) = (n : Int) + 1 by omega] at b2
              refine rd_cat (hid_same s l _) m.tl.hd m.hd (by rw [List.length_append, List.length_append]; omega) fun a5 x5 na5 hx5 => ?_
              replace m := m.lst na5 hx5
              exact q _ a5 t7 _ m.src (by omega) m.keep m.hd (by rw [List.length_append, List.length_append, List.length_append]; omega)
            · obtain ⟨xs, ep, hx⟩ := m.tl.hd.list
              refine ⟨_, rfl, p, xs, rfl, SqL.of (hid_some ep).2.2, fun a1 na1 => ?_⟩
              replace m := m.lst na1 hx.rev
              exact q _ a1 t7 _ m.src (by omega) m.keep m.hd (by rw [List.length_reverse]; omega)
      | false =>
        have e1 : roomErrD (.tuple [d]) = .tuple [.int (0 : Nat), .str "block"] := by
          show firstErr 0 none [d] = _
          show (match wordD none d with
            | some w => PyData.tuple [.int (0 : Nat), .str w]
            | none => firstErr 1 (some d) []) = _
          have e2 : wordD none d = some ("block" : Str) := by
            unfold wordD
            rw [if_neg (by rw [eb]; exact Bool.false_ne_true)]
          rw [e2]
        rw [e1] at hr3
        obtain ⟨ar, rfl⟩ : ∃ ar, r = .ref ar := by
          cases hr3
          exact ⟨_, rfl⟩
        refine iteF ?_
        refine ⟨(by show 2 ≤ sizeLine; decide), fun p0 n0 => ?_⟩
        refine ⟨p0, _, rfl, SqT.of upd_same, rfl, _, _, rfl, _, _, rfl, rfl, ?_⟩
        replace m := m.new (o := .tup [.int 0, .int 16]) n0
        generalize upd H3 p0 _ = H4 at m ⊢
        -- the first list
        refine ⟨_, rfl, s, l, c, t1, rfl, m.src, by omega, fun H5 v5 d5 t5 g5 h5 _ => ?_⟩
        have u5 := g5.up
        replace m := (m.call g5).add h5
        refine ⟨_, rfl, (0 : Int), 16, rfl, rfl, _, rfl, (by show 2 ≤ sizeLine; decide), fun p1 n1 => ?_⟩
        generalize hH : upd H5 p1 _ = H6
        replace m := m.tupE n1 hH (.cons (.int _) (.cons (.int _) .nil))
        clear hH
        refine ⟨_, rfl, _, rfl, (16 : Int), 2, rfl, rfl, .inr ⟨by decide, by decide⟩, (by show 2 ≤ sizeLine; decide), fun p2 n2 => ?_⟩
        generalize hH : upd H6 p2 _ = H7
        replace m := m.tupE n2 hH (.cons (.int _) (.cons (.int _) .nil))
        clear hH
        refine ⟨_, rfl, _, rfl, (16 : Int), 1, rfl, rfl, (by show 2 ≤ sizeLine; decide), fun p3 n3 => ?_⟩
        generalize hH : upd H7 p3 _ = H8
        replace m := m.tupE n3 hH (.cons (.int _) (.cons (.int _) .nil))
        clear hH
        refine ⟨_, rfl, _, rfl, (by show 2 ≤ sizeLine; decide), fun p4 n4 => ?_⟩
        generalize hH : upd H8 p4 _ = H9
        replace m := m.lstE n4 hH (.cons (.int _) (.cons (.int _) .nil))
        clear hH
        refine ⟨(by show 5 ≤ sizeLine; decide), fun a na => ?_⟩
        have y5 := m.hd
        have y4 := m.tl.hd
        have y3 := m.tl.tl.hd
        have y2 := m.tl.tl.tl.hd
        have y1 := m.tl.tl.tl.tl.hd
        generalize hH : upd H9 a _ = H10
        replace m := m.tl.tl.tl.tl.tl.lstE na hH (.cons y1 (.cons y2 (.cons y3 (.cons y4 (.cons y5 .nil)))))
        clear hH
        clear y1 y2 y3 y4 y5 n1 n2 n3 n4 na
        -- the second list
        refine ⟨_, rfl, _, rfl, _, rfl, (0 : Int), (16 : Int), rfl, rfl, _, rfl, (by show 2 ≤ sizeLine; decide), fun p1 n1 => ?_⟩
        generalize hH : upd H10 p1 _ = H11
        replace m := m.tupE n1 hH (.cons (.int _) (.cons (.int _) .nil))
        clear hH
        refine ⟨_, rfl, (by show 2 ≤ sizeLine; decide), fun p2 n2 => ?_⟩
        generalize hH : upd H11 p2 _ = H12
        replace m := m.tupE n2 hH (.cons (.int _) (.cons (.bl _) .nil))
        clear hH
        refine ⟨_, rfl, .inl ⟨(0 : Int), rfl, _, rfl, (by show 2 ≤ sizeLine; decide), fun p3 n3 => ?_⟩⟩
        generalize hH : upd H12 p3 _ = H13
        replace m := m.tupE n3 hH (.cons (.bl _) (.cons (.int _) .nil))
        clear hH
        refine ⟨_, rfl, (16 : Int), rfl, _, rfl, (by show 2 ≤ sizeLine; decide), fun p4 n4 => ?_⟩
        generalize hH : upd H13 p4 _ = H14
        replace m := m.tupE n4 hH (.cons (.int _) (.cons (.int _) .nil))
        clear hH
        refine ⟨_, rfl, _, rfl, (16 : Int), 2, rfl, rfl, log_of (k := 2) (by decide) (by decide) (by decide) (by decide) _, (by show 2 ≤ sizeLine; decide), fun p5 n5 => ?_⟩
        generalize hH : upd H14 p5 _ = H15
        replace m := m.tupE n5 hH (.cons (.int _) (.cons (.int _) .nil))
        clear hH
        refine ⟨(by show 5 ≤ sizeLine; decide), fun b nb => ?_⟩
        have y5 := m.hd
        have y4 := m.tl.hd
        have y3 := m.tl.tl.hd
        have y2 := m.tl.tl.tl.hd
        have y1 := m.tl.tl.tl.tl.hd
        generalize hH : upd H15 b _ = H16
        replace m := m.tl.tl.tl.tl.tl.lstE nb hH (.cons y1 (.cons y2 (.cons y3 (.cons y4 (.cons y5 .nil)))))
        clear hH
        clear y1 y2 y3 y4 y5 n1 n2 n3 n4 n5 nb
        refine rd_cat (hid_same s l _) m.tl.hd m.hd (by show 5 + 5 ≤ 1000; decide) fun e xs ne hx => ?_
        generalize hH : upd H16 e _ = H17
        replace m := m.tl.tl.lstE ne hH hx
        clear hH
        clear hx ne xs
        -- one more
        refine ⟨_, rfl, _, rfl, _, rfl, _, rfl, (by show 3 ≤ sizeLine; decide), fun p1 n1 => ?_⟩
        generalize hH : upd H17 p1 _ = H18
        replace m := m.tupE n1 hH (.cons (.int _) (.cons (.int _) (.cons (.int _) .nil)))
        clear hH
        refine ⟨(by show 1 ≤ sizeLine; decide), fun b nb => ?_⟩
        have y1 := m.hd
        generalize hH : upd H18 b _ = H19
        replace m := m.tl.lstE nb hH (.cons y1 .nil)
        clear hH
        clear y1 n1 nb
        refine rd_cat (hid_same s l _) m.tl.hd m.hd (by show 10 + 1 ≤ 1000; decide) fun f xs nf hx => ?_
        generalize hH : upd H19 f _ = H20
        replace m := m.tl.tl.lstE nf hH hx
        clear hH
        clear hx nf xs
        -- the way
        refine ⟨_, rfl, _, rfl, rd_len (hid_same s l _) m.hd ⟨_, 3, rfl, rfl, s, l, c, t5, _, rfl, m.src, by omega, (by show (0 : Int) < ((11 : Nat) : Int) + 3; decide), (by show ((11 : Nat) : Int) + 3 < 2 ^ 64; decide), fun H7 way t7 g7 w0 w1 => ?_⟩⟩
        have u7 := g7.up
        replace m := m.call g7
        refine ⟨_, rfl, _, rfl, rd_len (hid_same s l _) m.hd ⟨way, _, rfl, rfl, _, rfl, ite2 (fun hw => ?_) (fun hw => ?_)⟩⟩
        · -- one item in its place
          have hw : way.toNat < 11 := by
            have h := of_decide_eq_true hw
            have h2 : way < 11 := h
            omega
          obtain ⟨d, hd⟩ : ∃ d, ([d5, PyData.tuple [.int ((0 : Int) + 16), .int (16 : Int)], .tuple [.int (0 : Int), .int ((16 : Int) * 2)], .tuple [.int (0 : Int), .int ((16 : Int) + 1)], .list [.int (0 : Int), .int (16 : Int)]] ++ [.tuple [.int ((0 : Int) + (16 : Int)), .int (16 : Int)], .tuple [.int (0 : Int), .bool true],
              .tuple [.bool ((0 : Int) != 0), .int (16 : Int)], .tuple [.int (-(16 : Int)), .int (16 : Int)], .tuple [.int (0 : Int), .int ((16 : Int) / 2)]] ++ [.tuple [.int (0 : Int), .int (16 : Int), .int (16 : Int)]])[way.toNat]? = some d := ⟨_, List.getElem?_eq_getElem hw⟩
          refine ⟨_, rfl, _, rfl, (n : Int), rfl, rd_slice (hid_same s l _) m.tl.hd fun a1 x1 na1 hx1 => ?_⟩
          generalize hH : upd H7 a1 _ = K1
          replace m := m.lstE na1 hH hx1
          clear hH
          refine ⟨_, rfl, _, rfl, rd_item (j := way.toNat) (hid_same s l _) m.tl.hd (by omega) hd fun v hv => ⟨(by show 1 ≤ sizeLine; decide), fun a2 na2 => ?_⟩⟩
          generalize hH : upd K1 a2 _ = K2
          replace m := m.lstE na2 hH (.cons hv .nil)
          clear hH
          clear hv hx1
          have b1 := cutD_to ds n
          refine rd_cat (hid_same s l _) m.tl.hd m.hd (by simp only [List.length_cons, List.length_nil]; omega) fun a3 x3 na3 hx3 => ?_
          generalize hH : upd K2 a3 _ = K3
          replace m := m.lstE na3 hH hx3
          clear hH
          refine ⟨_, rfl, _, rfl, (n : Int), 1, rfl, rfl, _, rfl, rd_slice (lo := some ((n : Int) + 1)) (hi := none) (hid_same s l _) m.tl.tl.tl.tl.hd fun a4 x4 na4 hx4 => ?_⟩
          generalize hH : upd K3 a4 _ = K4
          replace m := m.lstE na4 hH hx4
          clear hH
          have b2 := cutD_from ds (n + 1)
          rw [show ((n + 1 : Nat) : Int) = (n : Int) + 1 by omega] at b2
          refine rd_cat (hid_same s l _) m.tl.hd m.hd (by rw [List.length_append]; simp only [List.length_cons, List.length_nil]; omega) fun a5 x5 na5 hx5 => ?_
          replace m := m.lst na5 hx5
          exact q _ a5 t7 _ m.src (by omega) m.keep m.hd (by rw [List.length_append, List.length_append]; simp only [List.length_cons, List.length_nil]; omega)
        · refine ⟨_, rfl, _, rfl, rd_len (hid_same s l _) m.hd ⟨rfl, _, rfl, ite2 (fun hw2 => ?_) (fun hw2 => ?_)⟩⟩
          · -- halves in its place
            refine ⟨_, rfl, _, rfl, (n : Int), rfl, rd_slice (hid_same s l _) m.tl.hd fun a1 x1 na1 hx1 => ?_⟩
            generalize hH : upd H7 a1 _ = K1
            replace m := m.lstE na1 hH hx1
            clear hH
            refine ⟨_, rfl, _, rfl, (16 : Int), 2, rfl, rfl, log_of (k := 2) (by decide) (by decide) (by decide) (by decide) _, (by show 2 ≤ sizeLine; decide), fun p1 n1 => ?_⟩
            generalize hH : upd K1 p1 _ = K2
            replace m := m.tupE n1 hH (.cons (.int _) (.cons (.int _) .nil))
            clear hH
            refine ⟨_, rfl, _, rfl, (16 : Int), 2, rfl, rfl, log_of (k := 2) (by decide) (by decide) (by decide) (by decide) _, (0 : Int), _, rfl, rfl, _, rfl, (16 : Int), 2, rfl, rfl, log_of (k := 2) (by decide) (by decide) (by decide) (by decide) _, (by show 2 ≤ sizeLine; decide), fun p2 n2 => ?_⟩
            generalize hH : upd K2 p2 _ = K3
            replace m := m.tupE n2 hH (.cons (.int _) (.cons (.int _) .nil))
            clear hH
            refine ⟨(by show 2 ≤ sizeLine; decide), fun a2 na2 => ?_⟩
            have y2 := m.hd
            have y1 := m.tl.hd
            generalize hH : upd K3 a2 _ = K4
            replace m := m.tl.tl.lstE na2 hH (.cons y1 (.cons y2 .nil))
            clear hH
            clear y1 y2
            have b1 := cutD_to ds n
            refine rd_cat (hid_same s l _) m.tl.hd m.hd (by simp only [List.length_cons, List.length_nil]; omega) fun a3 x3 na3 hx3 => ?_
            generalize hH : upd K4 a3 _ = K5
            replace m := m.lstE na3 hH hx3
            clear hH
            refine ⟨_, rfl, _, rfl, (n : Int), 1, rfl, rfl, _, rfl, rd_slice (lo := some ((n : Int) + 1)) (hi := none) (hid_same s l _) m.tl.tl.tl.tl.hd fun a4 x4 na4 hx4 => ?_⟩
            generalize hH : upd K5 a4 _ = K6
            replace m := m.lstE na4 hH hx4
            clear hH
            have b2 := cutD_from ds (n + 1)
            rw [show ((n + 1 : Nat) : Int) = (n : Int) + 1 by omega] at b2
            refine rd_cat (hid_same s l _) m.tl.hd m.hd (by rw [List.length_append]; simp only [List.length_cons, List.length_nil]; omega) fun a5 x5 na5 hx5 => ?_
            replace m := m.lst na5 hx5
            exact q _ a5 t7 _ m.src (by omega) m.keep m.hd (by rw [List.length_append, List.length_append]; simp only [List.length_cons, List.length_nil]; omega)
          · -- twice, or all turned round
            refine ⟨_, rfl, _, rfl, rd_len (hid_same s l _) m.hd ⟨_, 1, rfl, rfl, way, _, rfl, rfl, _, rfl, ite2 (fun hw3 => ?_) (fun hw3 => ?_)⟩⟩
            · refine ⟨_, rfl, _, rfl, (n : Int), rfl, rd_slice (hid_same s l _) m.tl.hd fun a1 x1 na1 hx1 => ?_⟩
              generalize hH : upd H7 a1 _ = K1
              replace m := m.lstE na1 hH hx1
              clear hH
              refine ⟨_, rfl, _, rfl, (n : Int), rfl, _, rfl, (n : Int), 1, rfl, rfl, _, rfl, rd_slice (lo := some (n : Int)) (hi := some ((n : Int) + 1)) (hid_same s l _) m.tl.tl.hd fun a2 x2 na2 hx2 => ?_⟩
              generalize hH : upd K1 a2 _ = K2
              replace m := m.lstE na2 hH hx2
              clear hH
              have b0 := cutD_one ds n
              refine rd_twice (hid_same s l _) m.hd (by omega) fun a6 x6 na6 hx6 => ?_
              generalize hH : upd K2 a6 _ = K3
              replace m := m.tl.lstE na6 hH hx6
              clear hH
              have b1 := cutD_to ds n
              refine rd_cat (hid_same s l _) m.tl.hd m.hd (by rw [List.length_append]; omega) fun a3 x3 na3 hx3 => ?_
              generalize hH : upd K3 a3 _ = K4
              replace m := m.lstE na3 hH hx3
              clear hH
              refine ⟨_, rfl, _, rfl, (n : Int), 1, rfl, rfl, _, rfl, rd_slice (lo := some ((n : Int) + 1)) (hi := none) (hid_same s l _) m.tl.tl.tl.tl.hd fun a4 x4 na4 hx4 => ?_⟩
              generalize hH : upd K4 a4 _ = K5
              replace m := m.lstE na4 hH hx4
              clear hH
              have b2 := cutD_from ds (n + 1)
              rw [show ((n + 1 : Nat) : Int) = (n : Int) + 1 by omega] at b2
              refine rd_cat (hid_same s l _) m.tl.hd m.hd (by rw [List.length_append, List.length_append]; omega) fun a5 x5 na5 hx5 => ?_
              replace m := m.lst na5 hx5
              exact q _ a5 t7 _ m.src (by omega) m.keep m.hd (by rw [List.length_append, List.length_append, List.length_append]; omega)
            · obtain ⟨xs, ep, hx⟩ := m.tl.hd.list
              refine ⟨_, rfl, p, xs, rfl, SqL.of (hid_some ep).2.2, fun a1 na1 => ?_⟩
              replace m := m.lst na1 hx.rev
              exact q _ a1 t7 _ m.src (by omega) m.keep m.hd (by rw [List.length_reverse]; omega)
theorem ok_l_world (T : Txt K mg) : FnOk P w K mg base CX0 3 T.f_l_world T.d_l_world ["_law_source_here"] sp_l_world := by
  refine T.F_l_world.ok sc_l_world (fun vs H Q E h => ?_) (fun cdv A outer s H vs Q E hr h => ?_)
  · obtain ⟨s, l, c, t, rfl, _⟩ := h
    rfl
  · obtain ⟨s, l, c, t, rfl, S, ht, q⟩ := h
    refine ⟨_, (pss_cons (ps_set (i := 1) sc_l_world.nd rfl (by first | exact Or.inl rfl | exact Or.inr rfl) (pe_op op_shl pe_int (pe_call (ok_l_pick T) (hr.mono (by decide)) (by rfl) T.g_l_pick T.F_l_pick.kp T.bd_l_pick .nil pass0 (pa_cons (pv 0) (pa_cons (pe_lst (pa_cons pe_int (pa_cons pe_int (pa_cons pe_int (pa_cons pe_int (pa_cons pe_int pa_nil)))))) pa_nil)))))
      (pss_cons (ps_set (i := 2) sc_l_world.nd rfl (by first | exact Or.inl rfl | exact Or.inr rfl) (pe_op op_sub (pe_op op_fdivW (pe_op op_pow pe_int pe_int) (pe_op op_mul pe_int (pv 1))) pe_int))
      (pss_cons (ps_set (i := 3) sc_l_world.nd rfl (by first | exact Or.inl rfl | exact Or.inr rfl) (pe_call (ok_l_pick T) (hr.mono (by decide)) (by rfl) T.g_l_pick T.F_l_pick.kp T.bd_l_pick .nil pass0 (pa_cons (pv 0) (pa_cons (pe_lst (pa_cons pe_int (pa_cons (pv 2) (pa_cons (pe_op op_fdivW (pe_op op_pow pe_int pe_int) (pe_op op_mul pe_int (pv 1))) (pa_cons (pe_call (ok_l_below T) (hr.mono (by decide)) (by rfl) T.g_l_below T.F_l_below.kp T.bd_l_below .nil pass0 (pa_cons (pv 0) (pa_cons (pe_op op_add (pv 2) pe_int) pa_nil))) pa_nil))))) pa_nil))))
      (pss_one (ps_ret (pe_tup (pa_cons (pv 1) (pa_cons (pe_op op_mul (pe_op op_mul (pe_callB (call_min2 rfl) (by rfl) T.b_min (by decide +kernel) (pa_cons (pv 3) (pa_cons (pv 2) pa_nil))) pe_int) (pv 1)) pa_nil)))))))), ?_⟩
    -- the unit
    refine ⟨_, rfl, (by show 5 ≤ sizeLine; decide), fun p np => ?_⟩
    have gp := S.goesNew (o := .lst [.int 0, .int 3, .int 17, .int 28, .int 38]) np
    have hp := S.hidNew (o := .lst [.int 0, .int 3, .int 17, .int 28, .int 38]) np
    refine ⟨s, l, c, p, t, _, rfl, gp.src, by omega, hp, by show 0 < 5; decide, by show 5 ≤ 1000; decide, fun H1 i v t1 g1 e1 => ?_⟩
    obtain ⟨k, hk, rfl⟩ : ∃ k : Nat, k ≤ 38 ∧ v = .int (k : Int) := by
      have h := List.mem_of_getElem? e1
      simp only [List.mem_cons, List.not_mem_nil, or_false] at h
      rcases h with rfl | rfl | rfl | rfl | rfl
      · exact ⟨0, by decide, rfl⟩
      · exact ⟨3, by decide, rfl⟩
      · exact ⟨17, by decide, rfl⟩
      · exact ⟨28, by decide, rfl⟩
      · exact ⟨38, by decide, rfl⟩
    replace g1 := gp.trans g1
    clear gp hp np e1
    refine ⟨16, (k : Int), rfl, rfl, ⟨by omega, by omega, by decide⟩, ?_⟩
    have ek : ((k : Int)).toNat = k := by omega
    dsimp only
    rw [ek]
    have hz : 16 ≤ (16 : Int) * 2 ^ k ∧ (16 : Int) * 2 ^ k ≤ 281474976710656 := by
      have h := pow_bounds (r := (k : Int)) (by omega) (by omega)
      rw [ek] at h
      exact h
    have zk : (64 * ((16 : Int) * 2 ^ k)) * 2 ^ (38 - k) = 281474976710656 := by
      rw [← Int.mul_assoc, Int.mul_assoc, ← Int.pow_add, show k + (38 - k) = 38 by omega]
      decide
    have zp : 0 < (2 : Int) ^ (38 - k) := Int.pow_pos (by decide)
    have zq : (281474976710656 : Int) / (64 * (16 * 2 ^ k)) = 2 ^ (38 - k) := by
      rw [← zk]
      exact Int.mul_ediv_cancel_left _ (by omega)
    have zr : (2 : Int) ^ (38 - k) ≤ 2 ^ 38 := by
      have h : 2 ^ (38 - k) ≤ 2 ^ 38 := Nat.pow_le_pow_right (by decide) (by omega)
      have e : ((2 ^ (38 - k) : Nat) : Int) = (2 : Int) ^ (38 - k) := by simp
      omega
    generalize hu : (16 : Int) * 2 ^ k = z at hz zk zq ⊢
    generalize hw : (2 : Int) ^ (38 - k) = w at zk zp zq zr
    obtain ⟨z0, z1⟩ := hz
    have zd : ∀ m, CDivW m (64 * z) := fun m => log_of (k := 56) (by omega) (by omega) (by decide) (by decide) m
    -- the most
    refine ⟨2, 48, rfl, rfl, (by unfold CPow; decide), _, rfl, 64, z, rfl, rfl, .inl ⟨by decide, by decide⟩, _, _, rfl, rfl, zd _, _, 1, rfl, rfl, ?_⟩
    have e48 : ((2 : Int) ^ (48 : Int).toNat / (64 * z)) = w := zq
    dsimp only
    rw [e48]
    -- the spot
    refine ⟨_, rfl, _, rfl, 2, 32, rfl, rfl, (by unfold CPow; decide), _, rfl, 64, z, rfl, rfl, .inl ⟨by decide, by decide⟩, _, _, rfl, rfl, zd _, ?_⟩
    refine ⟨_, rfl, _, rfl, w - 1, 1, rfl, rfl, s, l, c, t1, w - 1 + 1, rfl, g1.src, by have := g1.up; omega, by omega, by omega, fun H2 r t2 g2 r0 r1 => ?_⟩
    have d0 : 0 ≤ (2 : Int) ^ (32 : Int).toNat / (64 * z) := Int.ediv_nonneg (by decide) (by omega)
    dsimp only
    generalize (2 : Int) ^ (32 : Int).toNat / (64 * z) = y at d0 ⊢
    refine ⟨(by show 4 ≤ sizeLine; decide), fun p np => ?_⟩
    have gp := (g1.trans g2).new (o := .lst [.int 0, .int (w - 1), .int y, .int r]) np
    have hp := g2.src.hidNew (o := .lst [.int 0, .int (w - 1), .int y, .int r]) np
    refine ⟨s, l, c, p, t2, _, rfl, gp.src, by have := gp.up; omega, hp, by show 0 < 4; decide, by show 4 ≤ 1000; decide, fun H3 i v t3 g3 e3 => ?_⟩
    obtain ⟨x, hx, rfl⟩ : ∃ x : Int, 0 ≤ x ∧ v = .int x := by
      have h := List.mem_of_getElem? e3
      simp only [List.mem_cons, List.not_mem_nil, or_false] at h
      rcases h with rfl | rfl | rfl | rfl
      · exact ⟨0, by decide, rfl⟩
      · exact ⟨w - 1, by omega, rfl⟩
      · exact ⟨y, d0, rfl⟩
      · exact ⟨r, r0, rfl⟩
    replace g3 := gp.trans g3
    clear gp hp np e3
    -- the pair
    refine ⟨_, rfl, _, rfl, _, rfl, x, w - 1, rfl, _, 64, rfl, rfl, .inr ⟨by decide, by decide⟩, _, rfl, _, z, rfl, rfl, .inr ⟨by omega, by omega⟩, (by show 2 ≤ sizeLine; decide), fun p np => ?_⟩
    have m0 := (More.start g3.src).tup np (.cons (.int z) (.cons (.int ((if w - 1 < x then w - 1 else x) * 64 * z)) .nil))
    have gg := (g3.trans m0.goes).wide (n := 3) (by decide)
    refine q _ _ t3 k (if w - 1 < x then w - 1 else x) gg hk ?_ ?_ ?_
    · split <;> omega
    · rw [hw]
      split <;> omega
    · rw [hu]
      exact m0.hd
theorem ok_l_marks (T : Txt K mg) : FnOk P w K mg base CX0 3 T.f_l_marks T.d_l_marks ["_law_source_here", "_law_many"] sp_l_marks := by
  refine T.F_l_marks.ok sc_l_marks (fun vs H Q E h => ?_) (fun cdv A outer s H vs Q E hr h => ?_)
  · obtain ⟨s, l, c, t, n, rfl, _⟩ := h
    rfl
  · obtain ⟨s, l, c, t, n, rfl, S, ht, n0, n1, q⟩ := h
    refine ⟨_, (pss_cons (ps_set (i := 2) sc_l_marks.nd rfl (by first | exact Or.inl rfl | exact Or.inr rfl) (pe_call (ok_l_below T) (hr.mono (by decide)) (by rfl) T.g_l_below T.F_l_below.kp T.bd_l_below .nil pass0 (pa_cons (pv 0) (pa_cons pe_int pa_nil))))
      (pss_cons (ps_if (pt_cmpR op_eq (pv 2) pe_int (nomark _))
      (pss_one (ps_ret (pe_lc (own := [("_law_k", 3)]) (g := gName 3) (by rfl) sc_l_marks.nd (pi_range1 (by rfl) T.b_range (pa_cons (pv 1) pa_nil)) (blkOk_by (own := [("_law_k", 3)]) (N := n_l_marks) (sc := defScope s_l_marks) (by decide +kernel)) (fun _ _ _ _ _ => (pg_name (i := 3) sc_l_marks.nd rfl (Or.inl rfl))) (fun _ _ _ _ _ => pts_nil) (fun _ _ _ _ _ => (pe_cmpR op_eq (pe_call (ok_l_below T) (hr.mono (by decide)) (by rfl) T.g_l_below T.F_l_below.kp T.bd_l_below .nil pass0 (pa_cons (pv 0) (pa_cons pe_int pa_nil))) pe_int (nomark _))))))
      pss_nil)
      (pss_cons (ps_set (i := 4) sc_l_marks.nd rfl (by first | exact Or.inl rfl | exact Or.inr rfl) (pe_op op_rep (pe_lst (pa_cons (pe_cmpR op_eq (pv 2) pe_int (nomark _)) pa_nil)) (pv 1)))
      (pss_cons (ps_for PassesOwn.never rfl (pi_range1 (by rfl) T.b_range (pa_cons (pe_call (ok_l_below T) (hr.mono (by decide)) (by rfl) T.g_l_below T.F_l_below.kp T.bd_l_below .nil pass0 (pa_cons (pv 0) (pa_cons pe_int pa_nil))) pa_nil)) (pg_name (i := 5) sc_l_marks.nd rfl (Or.inl rfl))
      (pss_cons (ps_par (i := 6) (j := 7) (by rfl) sc_l_marks.nd rfl rfl (by decide) rfl rfl (pa_cons (pe_call (ok_l_below T) (hr.mono (by decide)) (by rfl) T.g_l_below T.F_l_below.kp T.bd_l_below .nil pass0 (pa_cons (pv 0) (pa_cons (pv 1) pa_nil))) (pa_cons (pe_call (ok_l_pick T) (hr.mono (by decide)) (by rfl) T.g_l_pick T.F_l_pick.kp T.bd_l_pick .nil pass0 (pa_cons (pv 0) (pa_cons (pe_lst (pa_cons pe_int (pa_cons pe_int (pa_cons pe_int (pa_cons pe_int (pa_cons pe_int (pa_cons pe_int (pa_cons (pe_op op_add pe_int (pe_call (ok_l_below T) (hr.mono (by decide)) (by rfl) T.g_l_below T.F_l_below.kp T.bd_l_below .nil pass0 (pa_cons (pv 0) (pa_cons (pv 1) pa_nil)))) pa_nil)))))))) pa_nil))) pa_nil)) (by rfl))
      (pss_one (ps_for PassesOwn.never rfl (pi_range2 (by rfl) T.b_range (pa_cons (pv 6) (pa_cons (pe_callB (call_min2 rfl) (by rfl) T.b_min (by decide +kernel) (pa_cons (pv 1) (pa_cons (pe_op op_add (pv 6) (pv 7)) pa_nil))) pa_nil))) (pg_name (i := 3) sc_l_marks.nd rfl (Or.inl rfl))
      (pss_one (ps_asg (pe_cmpR op_ne (pv 2) pe_int (nomark _)) (pg_sub (pv 4) (pv 3) set_list)))))))
      (pss_one (ps_ret (pv 4))))))), ?_⟩
    -- the way
    refine ⟨_, rfl, s, l, c, t, 4, rfl, S, by omega, by decide, by decide, fun H1 way t1 g1 w0 w1 => ?_⟩
    refine ⟨_, rfl, rfl, _, rfl, ite2 (fun _ => ?_) (fun _ => ?_)⟩
    · -- each mark drawn
      refine ⟨_, rfl, (n : Int), rfl, by omega, by omega, fun D hD => ?_⟩
      have hD0 : H D = none := by
        cases e : H D with
        | none => rfl
        | some o =>
          by_cases z : D = s ∨ D = l
          · rcases z with rfl | rfl
            · rw [g1.src.d] at hD
              cases hD
            · obtain ⟨_, z, _⟩ := g1.src.lg
              rw [z] at hD
              cases hD
          · have := (hid_some (g1.keep D o (hid_of (fun y => z (.inl y)) (fun y => z (.inr y)) e))).2.2
            rw [this] at hD
            cases hD
      refine lc_range (lo := 0) (n := n) (fun i H' => ∃ (t' : Int) (bs : List Bool), Goes s l c (1 + i) H H' t t' ∧ hid s l H' D = some (.lst (bs.map V.bl)) ∧ bs.length = i)
        ⟨t1, [], (g1.new hD).wide (by omega), g1.src.hidNew hD, rfl⟩ ?_ ?_
      · rintro i H' hi ⟨t', bs, g, eD, lb⟩
        refine ⟨rfl, ?_⟩
        refine iteT (B := ∃ (t' : Int) (bs : List Bool), Goes s l c (1 + (i + 1 : Nat)) H H' t t' ∧ hid s l H' D = some (.lst (bs.map V.bl)) ∧ bs.length = i + 1) ?_
        refine ⟨_, rfl, s, l, c, t', 2, rfl, g.src, by have := g.up; omega, by decide, by decide, fun H2 r t2 g2 _ _ => ⟨rfl, ?_⟩⟩
        have e2 := g2.keep _ _ eD
        refine ⟨_, (hid_some e2).2.2, ?_, t2, bs ++ [decide (V.int r = V.int 0)], ?_, ?_, ?_⟩
        · rw [List.length_map]
          exact small1000 (by omega)
        · exact Goes.mut S ((g.trans g2).wide (by omega)) hD0
        · rw [S.hidUpd hD0, List.map_append]
          rfl
        · rw [List.length_append, lb]
          rfl
      · rintro H' ⟨t', bs, g, eD, lb⟩
        exact q H' D t' bs (g.wide (by omega)) hD0 eD lb
    · -- stretches of marks
      refine ⟨_, rfl, rfl, (by show 1 ≤ sizeLine; decide), fun p0 np0 => ?_⟩
      refine ⟨_, rfl, p0, (n : Int), _, rfl, rfl, upd_same, by omega, by omega, (by show 1 * ((n : Int)).toNat ≤ sizeLine; have : n ≤ 1000 := n1; exact Nat.le_of_lt (small1000 (by omega))), fun f nf => ?_⟩
      have gf := (g1.new (o := .lst [.bl (decide (V.int way = V.int 3))]) np0).new (o := .lst (List.replicate ((n : Int)).toNat [.bl (decide (V.int way = V.int 3))]).flatten) nf
      have hf := (g1.src.new (o := .lst [.bl (decide (V.int way = V.int 3))]) np0).hidNew (o := .lst (List.replicate ((n : Int)).toNat [.bl (decide (V.int way = V.int 3))]).flatten) nf
      have ef : (List.replicate ((n : Int)).toNat [V.bl (decide (V.int way = V.int 3))]).flatten = (List.replicate n (decide (V.int way = V.int 3))).map V.bl := by
        rw [show ((n : Int)).toNat = n by omega]
        simp
      rw [ef] at gf hf ⊢
      have nf0 : H f = none := by
        cases e : H f with
        | none => rfl
        | some o =>
          have nf1 : H1 f = none := by
            by_cases z : f = p0
            · subst z
              rw [upd_same] at nf
              cases nf
            · rw [upd_ne z] at nf
              exact nf
          by_cases z : f = s ∨ f = l
          · rcases z with rfl | rfl
            · rw [g1.src.d] at nf1
              cases nf1
            · obtain ⟨_, z, _⟩ := g1.src.lg
              rw [z] at nf1
              cases nf1
          · have := (hid_some (g1.keep f o (hid_of (fun y => z (.inl y)) (fun y => z (.inr y)) e))).2.2
            rw [this] at nf1
            cases nf1
      generalize upd (upd H1 p0 _) f _ = H2 at gf hf ⊢
      refine ⟨_, rfl, s, l, c, t1, 7, rfl, gf.src, by have := gf.up; omega, by decide, by decide, fun H3 r t3 g3 r0 r1 => ?_⟩
      refine ⟨r, rfl, by omega, by omega, for_range (lo := 0) (n := r.toNat) (fun i σ H' => ∃ (t' : Int) (bs : List Bool) (y3 y5 y6 y7 : Option V), σ = [some (.ref s), some (.int n), some (.int way), y3, some (.ref f), y5, y6, y7] ∧
          Goes s l c (2 + 3 * i) H H' t t' ∧ hid s l H' f = some (.lst (bs.map V.bl)) ∧ bs.length = n)
        ⟨t3, List.replicate n (decide (V.int way = V.int 3)), none, none, none, none, rfl, (gf.trans g3).wide (by omega), g3.keep _ _ hf, List.length_replicate⟩ ?_ ?_⟩
      · rintro i σ H' hi ⟨t', bs, y3, y5, y6, y7, rfl, g, eF, lb⟩
        refine ⟨_, rfl, _, rfl, s, l, c, t', n, rfl, g.src, by have := g.up; omega, by omega, by omega, fun H4 spot t4 g4 s0 s1 => ?_⟩
        refine ⟨_, rfl, _, rfl, _, rfl, s, l, c, t4, n, rfl, g4.src, by have := g.up; have := g4.up; omega, by omega, by omega, fun H5 u t5 g5 u0 u1 => ?_⟩
        refine ⟨1, u, rfl, rfl, (by show 7 ≤ sizeLine; decide), fun p np => ?_⟩
        dsimp only
        have gp := ((g.trans g4).trans g5).new (o := .lst [.int 1, .int 1, .int 2, .int 4, .int 8, .int 16, .int (1 + u)]) np
        have hp := g5.src.hidNew (o := .lst [.int 1, .int 1, .int 2, .int 4, .int 8, .int 16, .int (1 + u)]) np
        refine ⟨s, l, c, p, t5, _, rfl, gp.src, by have := gp.up; omega, hp, by show 0 < 7; decide, by show 7 ≤ 1000; decide, fun H6 j v t6 g6 e6 => ?_⟩
        obtain ⟨len, hlen, hlen2, rfl⟩ : ∃ x : Int, 0 ≤ x ∧ x ≤ 1001 ∧ v = .int x := by
          have h := List.mem_of_getElem? e6
          simp only [List.mem_cons, List.not_mem_nil, or_false] at h
          rcases h with rfl | rfl | rfl | rfl | rfl | rfl | rfl
          · exact ⟨1, by decide, by decide, rfl⟩
          · exact ⟨1, by decide, by decide, rfl⟩
          · exact ⟨2, by decide, by decide, rfl⟩
          · exact ⟨4, by decide, by decide, rfl⟩
          · exact ⟨8, by decide, by decide, rfl⟩
          · exact ⟨16, by decide, by decide, rfl⟩
          · exact ⟨1 + u, by omega, by omega, rfl⟩
        have eF6 : hid s l H6 f = some (.lst (bs.map V.bl)) :=
          g6.keep _ _ (hid_mono (same_new np) _ _ (g5.keep _ _ (g4.keep _ _ eF)))
        have gg := (gp.trans g6).wide (n := 2 + 3 * (i + 1 : Nat)) (by omega)
        clear gp hp np e6 g4 g5 g6 g eF
        refine ⟨_, _, rfl, ?_⟩
        -- the inner loop
        refine ⟨_, rfl, _, rfl, _, rfl, _, rfl, spot, len, rfl, rfl, n, spot + len, rfl, spot, (if spot + len < (n : Int) then spot + len else (n : Int)), rfl, ⟨by omega, by omega, by split <;> omega, by split <;> omega⟩, ?_⟩
        generalize hb : (if spot + len < (n : Int) then spot + len else (n : Int)) = hi2
        have hb1 : hi2 ≤ n := by
          rw [← hb]
          split <;> omega
        refine for_range (lo := spot) (n := (hi2 - spot).toNat) (fun k σ H' => ∃ (bs : List Bool) (y3 : Option V), σ = [some (.ref s), some (.int n), some (.int way), y3, some (.ref f), some (.int (0 + (i : Int))), some (.int spot), some (.int len)] ∧
            Goes s l c (2 + 3 * (i + 1 : Nat)) H H' t t6 ∧ hid s l H' f = some (.lst (bs.map V.bl)) ∧ bs.length = n)
          ⟨bs, y3, rfl, gg, eF6, lb⟩ ?_ ?_
        · rintro k σ H' hk ⟨bs, y3, rfl, g, eF, lb⟩
          refine ⟨_, rfl, rfl, _, rfl, _, rfl, f, _, spot + k, (spot + k).toNat, rfl, rfl, (hid_some eF).2.2, ?_, ?_⟩
          · rw [List.length_map, show spot + (k : Int) = (((spot + k).toNat : Nat) : Int) by omega]
            exact ixN_nat (by omega)
          · refine ⟨bs.set (spot + k).toNat (!decide (V.int way = V.int 3)), _, rfl, Goes.mut S g nf0, ?_, ?_⟩
            · rw [S.hidUpd nf0, List.map_set]
            · rw [List.length_set, lb]
        · rintro σ H' ⟨bs, y3, rfl, g, eF, lb⟩
          exact ⟨t6, bs, _, _, _, _, rfl, g, eF, lb⟩
      · rintro σ H' ⟨t', bs, y3, y5, y6, y7, rfl, g, eF, lb⟩
        exact ⟨_, rfl, q H' f t' bs (g.wide (by omega)) nf0 eF lb⟩
theorem ok_l_room (T : Txt K mg) : FnOk P w K mg base CX0 1 T.f_l_room T.d_l_room ["_law_marks_here", "_law_unit", "_law_first"]  (sp_l_room K) := by
  refine T.F_l_room.ok sc_l_room (fun vs H Q E h => ?_) (fun cdv A outer s H vs Q E hr h => ?_)
  · obtain ⟨p, bs, unit, first, rfl, _⟩ := h
    rfl
  · obtain ⟨p, bs, unit, first, rfl, hp, b0, b1, q⟩ := h
    refine ⟨_, (pss_cons (ps_par (i := 3) (j := 4) (by rfl) sc_l_room.nd rfl rfl (by decide) rfl rfl (pa_cons (pe_lst pa_nil) (pa_cons pe_int pa_nil)) (by rfl))
      (pss_cons (ps_while PassesOwn.never (pt_cmpR op_lt (pv 4) (pe_callB call_len_seq (by rfl) T.b_len (by decide +kernel) (pa_cons (pv 0) pa_nil)) (nomark _))
      (pss_cons (ps_set (i := 5) sc_l_room.nd rfl (by first | exact Or.inl rfl | exact Or.inr rfl) (pe_callB call_len_seq (by rfl) T.b_len (by decide +kernel) (pa_cons (pv 0) pa_nil)))
      (pss_cons (ps_while PassesOwn.never (PW.pt (pw_and (pt_cmpR op_gt (pv 5) pe_int (nomark _)) (pw_and1 (PW.pt (pw_or (pt_cmpR op_gt (pe_op op_mod (pv 4) (pv 5)) pe_int (nomark _)) (pw_or1 (pt_cmpR op_in_seq pe_bl (pe_slice sl_list (pv 0) (po_some (pv 4)) (po_some (pe_op op_add (pv 4) (pv 5)))) (by rfl))))))))
      (pss_one (ps_set (i := 5) sc_l_room.nd rfl (by first | exact Or.inl rfl | exact Or.inr rfl) (pe_op op_fdivW (pv 5) pe_int))))
      (pss_cons (ps_if (pt_val (pe_ix ix_list (pv 0) (pv 4) (fun _ _ => rfl)))
      (pss_one (ps_expr (pe_bm PySem.F.plainAttrs_list PySem.F.slot_list_append PySem.F.type_list_append mt_append (pv 3) (pa_cons (pe_tup (pa_cons (pe_op op_add (pv 2) (pe_op op_mul (pv 4) (pv 1))) (pa_cons (pe_op op_mul (pv 5) (pv 1)) pa_nil))) pa_nil))))
      pss_nil)
      (pss_one (ps_set (i := 4) sc_l_room.nd rfl (by first | exact Or.inl rfl | exact Or.inr rfl) (pe_op op_add (pv 4) (pv 5))))))))
      (pss_one (ps_ret (pe_callTy call_tuple_of (by rfl) T.b_tuple (by decide +kernel) (pa_cons (pv 3) pa_nil)))))), ?_⟩
    refine ⟨Nat.zero_le _, fun f nf => ⟨_, _, rfl, ?_⟩⟩
    refine ⟨fun m σ H' => ∃ (spot : Nat) (vs : List V) (done : List (Nat × Nat)) (y5 : Option V), m = bs.length - spot ∧ σ = [some (.ref p), some (.int unit), some (.int first), some (.ref f), some (.int (spot : Int)), y5] ∧
        Same H H' ∧ H' f = some (.lst vs) ∧ DdAll H' vs (blksD unit first done) ∧ done ++ roomM bs spot = roomM bs 0,
      ⟨bs.length, 0, [], [], none, rfl, rfl, same_new nf, upd_same, .nil, rfl⟩, ?_⟩
    rintro m σ H1 ⟨spot, vs, done, y5, rfl, rfl, sm, ef, da, ed⟩
    have hp1 := sm _ _ hp
    refine ⟨_, rfl, _, rfl, p, _, rfl, .inl (SqL.of hp1), _, _, rfl, rfl, _, rfl, ite2 (fun hlt => ?_) (fun hge => ?_)⟩
    · have hlt : spot < bs.length := by
        have h := of_decide_eq_true hlt
        rw [List.length_map] at h
        omega
      obtain ⟨N0, hN0⟩ : ∃ N0 : L2.St → Hp → Prop, N0 = fun σ H' => ∃ (w : Nat) (vs : List V) (done' : List (Nat × Nat)) (y5 : Option V), 0 < w ∧ σ = [some (.ref p), some (.int unit), some (.int first), some (.ref f), some (.int ((spot : Int) + (w : Int))), y5] ∧
          Same H H' ∧ H' f = some (.lst vs) ∧ DdAll H' vs (blksD unit first done') ∧ done' ++ roomM bs (spot + w) = roomM bs 0 := ⟨_, rfl⟩
      refine ⟨N0, ?_, ?_⟩
      · intro σ' H' h
        rw [hN0] at h
        obtain ⟨w, vs, done', y5, hw, rfl, a1, a2, a3, a4⟩ := h
        exact ⟨bs.length - (spot + w), by omega, spot + w, vs, done', y5, rfl, by rw [show ((spot + w : Nat) : Int) = (spot : Int) + (w : Int) by omega], a1, a2, a3, a4⟩
      -- the width
      refine ⟨_, rfl, p, _, rfl, .inl (SqL.of hp1), ?_⟩
      rw [List.length_map]
      refine ⟨fun m σ H' => ∃ (w : Nat), m = w ∧ 0 < w ∧ w ≤ bs.length ∧ widthM bs spot w = widthM bs spot bs.length ∧ σ = [some (.ref p), some (.int unit), some (.int first), some (.ref f), some (.int (spot : Int)), some (.int (w : Int))] ∧
          Same H H' ∧ H' f = some (.lst vs) ∧ DdAll H' vs (blksD unit first done),
        ⟨bs.length, bs.length, rfl, by omega, Nat.le_refl _, rfl, rfl, sm, ef, da⟩, ?_⟩
      rintro wd σ H2 ⟨_, rfl, w0, w1, ew, rfl, sm2, ef2, da2⟩
      have hp2 := sm2 _ _ hp
      have kk : ∀ (H4 : Hp) (vs' : List V) (done' : List (Nat × Nat)), Same H H4 → H4 f = some (.lst vs') → DdAll H4 vs' (blksD unit first done') → done' ++ roomM bs (spot + wd) = roomM bs 0 →
          N0 [some (.ref p), some (.int unit), some (.int first), some (.ref f), some (.int ((spot : Int) + (wd : Int))), some (.int (wd : Int))] H4 := by
        intro H4 vs' done' h1 h2 h3 h4
        rw [hN0]
        exact ⟨wd, vs', done', _, w0, rfl, h1, h2, h3, h4⟩
      have fin : ∀ (H3 : Hp), widthM bs spot wd = wd → Same H H3 → H3 f = some (.lst vs) → DdAll H3 vs (blksD unit first done) →
          ∃ k : Bool, V.bl bs[spot] = V.bl k ∧ if k = true then
            (∀ T, H3 T = none → ∃ (l : Addr) (ys : List V) (y : V), V.ref f = .ref l ∧ [V.ref T] = [y] ∧ upd H3 T (.tup [.int (first + (spot : Int) * unit), .int ((wd : Int) * unit)]) l = some (.lst ys) ∧ ys.length < sizeLine ∧
              N0 [some (.ref p), some (.int unit), some (.int first), some (.ref f), some (.int ((spot : Int) + (wd : Int))), some (.int (wd : Int))] (upd (upd H3 T (.tup [.int (first + (spot : Int) * unit), .int ((wd : Int) * unit)])) l (.lst (ys ++ [y]))))
            else N0 [some (.ref p), some (.int unit), some (.int first), some (.ref f), some (.int ((spot : Int) + (wd : Int))), some (.int (wd : Int))] H3 := by
        intro H3 e1 s3 f3 d3
        have ed := ed
        rw [roomM_lt hlt, ← ew, e1] at ed
        refine ⟨bs[spot], rfl, ite2 (fun h => fun T nT => ?_) (fun h => ?_)⟩
        · rw [if_pos h] at ed
          have nTf : f ≠ T := ne_of_none f3 nT
          refine ⟨f, vs, _, rfl, rfl, by rw [upd_ne nTf]; exact f3, ?_, ?_⟩
          · rw [d3.length]
            unfold blksD
            rw [List.length_map]
            have := congrArg List.length ed
            have := roomM_len bs bs.length 0 (by omega)
            simp only [List.length_append, List.length_cons, List.length_nil] at *
            exact small1000 (by omega)
          · have sT : Same H3 (upd H3 T (.tup [.int (first + (spot : Int) * unit), .int ((wd : Int) * unit)])) := same_new nT
            refine kk _ _ (done ++ [(spot, wd)]) (fun b o hb => ?_) upd_same ?_ (by rw [List.append_assoc]; exact ed)
            · rw [upd_ne (ne_of_none hb nf)]
              exact sT _ _ (s3 _ _ hb)
            · have base : DdAll (upd H3 T (.tup [.int (first + (spot : Int) * unit), .int ((wd : Int) * unit)])) (vs ++ [.ref T]) (blksD unit first (done ++ [(spot, wd)])) := by
                unfold blksD
                rw [List.map_append]
                exact (d3.mono sT).append (.cons (.tup upd_same (.cons (.int _) (.cons (.int _) .nil))) .nil)
              exact base.tups (tups_upd (p := f) (by rw [upd_ne nTf]; exact f3)) (tup_blks _ _ _)
        · rw [if_neg h] at ed
          exact kk H3 vs done s3 f3 d3 ed
      refine ⟨_, rfl, (wd : Int), 1, rfl, rfl, _, rfl, ite2 (fun hw => ?_) (fun hw => ?_)⟩
      · have hw : 1 < wd := by
          have h := of_decide_eq_true hw
          omega
        refine ⟨_, rfl, _, rfl, (spot : Int), (wd : Int), rfl, rfl, by omega, _, _, rfl, rfl, _, rfl, ite2 (fun hm => ?_) (fun hm => ?_)⟩
        · -- the spot is no place of this width
          have hm : 0 < spot % wd := by
            have h := of_decide_eq_true hm
            have e : ((spot : Int) % (wd : Int)) = ((spot % wd : Nat) : Int) := by simp
            rw [e] at h
            omega
          have hf : fits bs spot wd = false := by
            unfold fits
            rw [decide_eq_false (by omega), Bool.false_and]
          have s3 := sm2
          have f3 := ef2
          have d3 := da2
          refine iteT ?_
          refine ⟨fun σ' H' => σ' = [some (.ref p), some (.int unit), some (.int first), some (.ref f), some (.int (spot : Int)), some (.int ((wd / 2 : Nat) : Int))] ∧ Same H H' ∧ H' f = some (.lst vs) ∧ DdAll H' vs (blksD unit first done), ?_, ?_⟩
          · rintro σ' H' ⟨rfl, h1, h2, h3⟩
            refine ⟨wd / 2, by omega, wd / 2, rfl, by omega, by omega, ?_, rfl, h1, h2, h3⟩
            rw [← ew]
            have e := widthM_eq bs spot wd
            rw [if_neg (by omega), if_neg (by rw [hf]; exact Bool.false_ne_true)] at e
            exact e.symm
          · exact ⟨_, rfl, (wd : Int), 2, rfl, rfl, log_of (k := 2) (by decide) (by decide) (by decide) (by decide) _, rfl, s3, f3, d3⟩
        · have hm : spot % wd = 0 := by
            have h : ¬ (0 : Int) < (spot : Int) % (wd : Int) := fun z => hm (decide_eq_true z)
            have e : ((spot : Int) % (wd : Int)) = ((spot % wd : Nat) : Int) := by simp
            rw [e] at h
            omega
          refine ⟨_, rfl, _, rfl, (spot : Int), rfl, _, rfl, _, rfl, (spot : Int), (wd : Int), rfl, rfl, (spot : Int) + (wd : Int), rfl, p, _, rfl, SqL.of hp2, fun r nr => ?_⟩
          rw [cut_bools]
          have s3 : Same H (upd H2 r (.lst (((bs.drop spot).take wd).map V.bl))) := sm2.trans (same_new nr)
          have f3 : (upd H2 r (.lst (((bs.drop spot).take wd).map V.bl))) f = some (.lst vs) := by
            rw [upd_ne (ne_of_none ef2 nr)]
            exact ef2
          have d3 := da2.mono (same_new (o := .lst (((bs.drop spot).take wd).map V.bl)) nr)
          have er : (upd H2 r (.lst (((bs.drop spot).take wd).map V.bl))) r = some (.lst (((bs.drop spot).take wd).map V.bl)) := upd_same
          generalize upd H2 r (.lst (((bs.drop spot).take wd).map V.bl)) = H3 at s3 f3 d3 er ⊢
          refine ⟨r, _, rfl, .inl (SqL.of er), rfl, flat_bools _, _, rfl, ite2 (fun hc => ?_) (fun hc => ?_)⟩
          · have hc : ((bs.drop spot).take wd).contains false = true := (in_bools _).symm.trans hc
            have hf : fits bs spot wd = false := by
              unfold fits
              rw [hc]
              simp
            first | refine iteT ?_ | dsimp only
            refine ⟨fun σ' H' => σ' = [some (.ref p), some (.int unit), some (.int first), some (.ref f), some (.int (spot : Int)), some (.int ((wd / 2 : Nat) : Int))] ∧ Same H H' ∧ H' f = some (.lst vs) ∧ DdAll H' vs (blksD unit first done), ?_, ?_⟩
            · rintro σ' H' ⟨rfl, h1, h2, h3⟩
              refine ⟨wd / 2, by omega, wd / 2, rfl, by omega, by omega, ?_, rfl, h1, h2, h3⟩
              rw [← ew]
              have e := widthM_eq bs spot wd
              rw [if_neg (by omega), if_neg (by rw [hf]; exact Bool.false_ne_true)] at e
              exact e.symm
            · exact ⟨_, rfl, (wd : Int), 2, rfl, rfl, log_of (k := 2) (by decide) (by decide) (by decide) (by decide) _, rfl, s3, f3, d3⟩
          · have hc : ((bs.drop spot).take wd).contains false = false := Bool.eq_false_iff.mpr fun z => hc ((in_bools _).trans z)
            have e1 : widthM bs spot wd = wd := by
              rw [widthM_eq, if_neg (by omega), if_pos]
              unfold fits
              rw [hc, decide_eq_true hm]
              rfl
            first | refine iteF ?_ | dsimp only
            refine ⟨_, rfl, _, rfl, p, _, (spot : Int), .bl bs[spot], rfl, rfl, SqL.of (s3 _ _ hp), at_of (j := spot) rfl (by rw [List.getElem?_map, List.getElem?_eq_getElem hlt]; rfl), ?_⟩
            obtain ⟨k, hk, hb⟩ := fin H3 e1 s3 f3 d3
            refine ⟨k, hk, ?_⟩
            cases k with
            | true =>
              rw [if_pos rfl] at hb
              refine iteT ?_
              refine ⟨_, rfl, .inl ⟨rfl, _, SqL.of f3⟩, _, rfl, _, rfl, _, rfl, (spot : Int), unit, rfl, rfl, .inl ⟨by omega, by omega⟩, first, _, rfl, rfl, _, rfl, _, rfl, (wd : Int), unit, rfl, rfl, .inl ⟨by omega, by omega⟩, (by show 2 ≤ sizeLine; decide), fun T nT => ?_⟩
              obtain ⟨l, ys, y, r1, r2, r3, r4, r5⟩ := hb T nT
              exact ⟨l, ys, y, r1, r2, r3, r4, _, rfl, _, rfl, _, _, rfl, rfl, r5⟩
            | false =>
              rw [if_neg Bool.false_ne_true] at hb
              refine iteF ?_
              exact ⟨_, rfl, _, rfl, _, _, rfl, rfl, hb⟩
      · have e1 : widthM bs spot wd = wd := by
          rw [widthM_eq, if_pos]
          refine Nat.le_of_not_lt fun z => hw (decide_eq_true ?_)
          omega
        refine iteF ?_
        have s3 := sm2
        have f3 := ef2
        have d3 := da2
        generalize H2 = H3 at s3 f3 d3 ⊢
        refine ⟨_, rfl, _, rfl, p, _, (spot : Int), .bl bs[spot], rfl, rfl, SqL.of (s3 _ _ hp), at_of (j := spot) rfl (by rw [List.getElem?_map, List.getElem?_eq_getElem hlt]; rfl), ?_⟩
        obtain ⟨k, hk, hb⟩ := fin H3 e1 s3 f3 d3
        refine ⟨k, hk, ?_⟩
        cases k with
        | true =>
          rw [if_pos rfl] at hb
          refine iteT ?_
          refine ⟨_, rfl, .inl ⟨rfl, _, SqL.of f3⟩, _, rfl, _, rfl, _, rfl, (spot : Int), unit, rfl, rfl, .inl ⟨by omega, by omega⟩, first, _, rfl, rfl, _, rfl, _, rfl, (wd : Int), unit, rfl, rfl, .inl ⟨by omega, by omega⟩, (by show 2 ≤ sizeLine; decide), fun T nT => ?_⟩
          obtain ⟨l, ys, y, r1, r2, r3, r4, r5⟩ := hb T nT
          exact ⟨l, ys, y, r1, r2, r3, r4, _, rfl, _, rfl, _, _, rfl, rfl, r5⟩
        | false =>
          rw [if_neg Bool.false_ne_true] at hb
          refine iteF ?_
          exact ⟨_, rfl, _, rfl, _, _, rfl, rfl, hb⟩
    · -- return
      have hge : bs.length ≤ spot := by
        refine Nat.le_of_not_lt fun z => hge (decide_eq_true ?_)
        rw [List.length_map]
        omega
      rw [roomM_ge hge, List.append_nil] at ed
      rw [ed] at da
      refine ⟨_, rfl, f, vs, rfl, .inl ⟨SqL.of ef, fun r nr => ?_⟩⟩
      exact q _ _ (sm.trans (same_new nr)) (.tup upd_same (da.mono (same_new nr)))
def sp_law (K : PySem.W.Frag) : Sp := fun vs H Q _ => ∃ (a : Addr) (ns : List Int), vs = [.ref a] ∧ SqL K H a (ns.map V.int) ∧ ns.length ≤ 63 ∧ ∀ H', Q (.bl true) H'
def tupLen : PyData → Nat
  | .tuple ds => ds.length
  | _ => 0
theorem odd_len : ∀ d ∈ oddL, tupLen d ≤ 1000 := by decide +kernel
theorem ok_law (T : Txt K mg) : FnG P w K mg base CX0 7 T.f_law T.d_law ["_law_script"]  (sp_law K) := by
  refine okG T.F_law sc_law (fun vs H Q E h => ?_) (fun cdv A outer s H vs Q E hgd hr h => ?_)
  · obtain ⟨a, ns, rfl, _⟩ := h
    rfl
  · obtain ⟨a, ns, rfl, hS, hlen, q⟩ := h
    refine ⟨_, (pss_cons (ps_set (i := 1) sc_law.nd rfl (by first | exact Or.inl rfl | exact Or.inr rfl) (pe_call (ok_l_source T) (hr.mono (by decide)) (by rfl) T.g_l_source T.F_l_source.kp T.bd_l_source .nil pass0 (pa_cons (pv 0) pa_nil)))
      (pss_cons (ps_for PassesOwn.never rfl (pi_range1 (by rfl) T.b_range (pa_cons pe_int pa_nil)) (pg_name (i := 2) sc_law.nd rfl (Or.inl rfl))
      (pss_cons (ps_asg (pe_call (ok_l_world T) (hr.mono (by decide)) (by rfl) T.g_l_world T.F_l_world.kp T.bd_l_world .nil pass0 (pa_cons (pv 1) pa_nil)) (pg_tup rfl (pgs_cons (pg_name (i := 3) sc_law.nd rfl (Or.inl rfl)) (pgs_cons (pg_name (i := 4) sc_law.nd rfl (Or.inl rfl)) pgs_nil))))
      (pss_cons (ps_set (i := 5) sc_law.nd rfl (by first | exact Or.inl rfl | exact Or.inr rfl) (pe_callTy call_list_of (by rfl) T.b_list (by decide +kernel) (pa_cons (pe_call (ok_l_room T) (hr.mono (by decide)) (by rfl) T.g_l_room T.F_l_room.kp T.bd_l_room .nil pass0 (pa_cons (pe_call (ok_l_marks T) (hr.mono (by decide)) (by rfl) T.g_l_marks T.F_l_marks.kp T.bd_l_marks .nil pass0 (pa_cons (pv 1) (pa_cons pe_int pa_nil))) (pa_cons (pv 3) (pa_cons (pv 4) pa_nil)))) pa_nil)))
      (pss_cons (ps_if (pt_cmpR op_eq (pe_call (ok_l_below T) (hr.mono (by decide)) (by rfl) T.g_l_below T.F_l_below.kp T.bd_l_below .nil pass0 (pa_cons (pv 1) (pa_cons pe_int pa_nil))) pe_int (nomark _))
      (pss_one (ps_setLc (i := 5) (own := [("_law_k", 6)]) (g := gName 6) (by rfl) sc_law.nd rfl rfl (sw_true rfl rfl rfl (by decide +kernel)) (pi_range1 (by rfl) T.b_range (pa_cons (pe_op op_add pe_int (pe_call (ok_l_below T) (hr.mono (by decide)) (by rfl) T.g_l_below T.F_l_below.kp T.bd_l_below .nil pass0 (pa_cons (pv 1) (pa_cons pe_int pa_nil)))) pa_nil)) (blkOk_by (own := [("_law_k", 6)]) (N := n_law) (sc := defScope s_law) (by decide +kernel)) (fun _ _ _ _ _ => (pg_name (i := 6) sc_law.nd rfl (Or.inl rfl))) (fun _ _ _ _ _ => pts_nil) (fun _ _ _ _ _ => (pe_tup (pa_cons (pe_op op_mul pe_int (pv 6)) (pa_cons pe_int pa_nil))))))
      pss_nil)
      (pss_cons (ps_set (i := 7) sc_law.nd rfl (by first | exact Or.inl rfl | exact Or.inr rfl) (pe_lst (pa_cons (pe_callTy call_tuple_of (by rfl) T.b_tuple (by decide +kernel) (pa_cons (pv 5) pa_nil)) (pa_cons (pe_callTy call_tuple_of (by rfl) T.b_tuple (by decide +kernel) (pa_cons (pe_call (ok_l_bent T) (hr.mono (by decide)) (by rfl) T.g_l_bent T.F_l_bent.kp T.bd_l_bent .nil pass0 (pa_cons (pv 1) (pa_cons (pv 5) pa_nil))) pa_nil)) (pa_cons (pe_callTy call_tuple_of (by rfl) T.b_tuple (by decide +kernel) (pa_cons (pe_call (ok_l_bent T) (hr.mono (by decide)) (by rfl) T.g_l_bent T.F_l_bent.kp T.bd_l_bent .nil pass0 (pa_cons (pv 1) (pa_cons (pe_call (ok_l_bent T) (hr.mono (by decide)) (by rfl) T.g_l_bent T.F_l_bent.kp T.bd_l_bent .nil pass0 (pa_cons (pv 1) (pa_cons (pv 5) pa_nil))) pa_nil))) pa_nil)) pa_nil)))))
      (pss_one (ps_for PassesOwn.never rfl (pi_list (pe_op op_catK (pv 7) (pe_lst (pa_cons (pv 5) (pa_cons (pe_call (ok_l_odd T) (hr.mono (by decide)) (by rfl) T.g_l_odd T.F_l_odd.kp T.bd_l_odd .nil pass0 (pa_cons (pv 1) pa_nil)) pa_nil))))) (pg_name (i := 8) sc_law.nd rfl (Or.inl rfl))
      (pss_one (ps_if (pt_cmpR op_ne (pe_callB (call_repr hgd hr.units) (by rfl) T.b_repr (by decide +kernel) (pa_cons (pe_lst (pa_cons (pe_call (ok_q_room_error T) (hr.mono (by decide)) (by rfl) T.g_q_room_error T.F_q_room_error.kp T.bd_q_room_error .nil pass0 (pa_cons (pv 8) pa_nil)) (pa_cons (pe_call (ok_q_room_error T) (hr.mono (by decide)) (by rfl) T.g_q_room_error T.F_q_room_error.kp T.bd_q_room_error .nil pass0 (pa_cons (pv 8) pa_nil)) pa_nil))) pa_nil)) (pe_callB (call_repr hgd hr.units) (by rfl) T.b_repr (by decide +kernel) (pa_cons (pe_lst (pa_cons (pe_call (ok_l_due T) (hr.mono (by decide)) (by rfl) T.g_l_due T.F_l_due.kp T.bd_l_due .nil pass0 (pa_cons (pv 8) pa_nil)) (pa_cons (pe_call (ok_l_due T) (hr.mono (by decide)) (by rfl) T.g_l_due T.F_l_due.kp T.bd_l_due .nil pass0 (pa_cons (pv 8) pa_nil)) pa_nil))) pa_nil)) (nomark _))
      (pss_one (ps_ret pe_bl))
      pss_nil)))))))))
      (pss_one (ps_ret pe_bl)))), ?_⟩
    refine ⟨_, rfl, a, ns, rfl, hS, hlen, fun H0 s l c S0 sm0 => ?_⟩
    refine ⟨24, rfl, by decide, by decide, for_range (lo := 0) (n := 24) (fun i σ H1 => ∃ (t : Int) (y2 y3 y4 y5 y6 y7 y8 : Option V), σ = [some (.ref a), some (.ref s), y2, y3, y4, y5, y6, y7, y8] ∧ Src H1 s l c t ∧ t ≤ 150 * i)
      ⟨0, none, none, none, none, none, none, none, rfl, S0, by omega⟩ ?_ ?_⟩
    · rintro i σ H1 hi ⟨t, y2, y3, y4, y5, y6, y7, y8, rfl, S, ht⟩
      -- unit, first
      refine ⟨_, rfl, s, l, c, t, rfl, S, by omega, fun H2 v t2 k mm g2 hk m0 m1 hv => ?_⟩
      have u2 := g2.up
      obtain ⟨aw, rfl, haw⟩ := hv.pair
      refine ⟨aw, _, rfl, SqT.of (hid_some haw).2.2, rfl, _, _, rfl, _, _, rfl, rfl, ?_⟩
      -- items
      refine ⟨_, rfl, s, l, c, t2, 64, rfl, g2.src, by omega, by decide, by decide, fun H3 pm t3 bs g3 npm hpm lb => ?_⟩
      have u3 := g3.up
      refine ⟨_, rfl, _, rfl, pm, bs, _, _, rfl, (hid_some hpm).2.2, by omega, by omega, fun H4 v s4 hv => ?_⟩
      have g4 := (g2.trans g3).same s4
      obtain ⟨ar, ys, rfl, hra, hys⟩ : ∃ ar ys, v = .ref ar ∧ H4 ar = some (.tup ys) ∧ DdAll H4 ys (blksD (16 * 2 ^ k) (mm * 64 * (16 * 2 ^ k)) (roomM bs 0)) := by
        cases hv with
        | tup h1 h2 => exact ⟨_, _, rfl, h1, h2⟩
      have hys2 := hys.tups g4.src.tups (tup_blks _ _ _)
      have lds : (blksD (16 * 2 ^ k) (mm * 64 * (16 * 2 ^ k)) (roomM bs 0)).length ≤ 64 := by
        unfold blksD
        rw [List.length_map]
        exact roomM_len bs 64 0 (by omega)
      generalize blksD (16 * 2 ^ k) (mm * 64 * (16 * 2 ^ k)) (roomM bs 0) = ds at hv hys hys2 lds
      refine ⟨ar, ys, rfl, .inr (SqT.of hra), fun it nit => ?_⟩
      have m : More s l c H1 H4 t3 [] [] := ⟨g4.src, g4.keep, .nil⟩
      generalize hH : upd H4 it _ = H5
      replace m := m.lstE nit hH hys2
      clear hH hys hys2 hra hv
      refine ⟨_, rfl, s, l, c, t3, 6, rfl, m.src, by omega, by decide, by decide, fun H6 r6 t6 g6 _ _ => ?_⟩
      have u6 := g6.up
      replace m := m.call g6
      refine ⟨rfl, _, rfl, ite2 (fun _ => ?_) (fun _ => ?_)⟩
      · -- many small blocks
        refine ⟨_, rfl, s, l, c, t6, 3, rfl, m.src, by omega, by decide, by decide, fun H7 r7 t7 g7 z0 z1 => ?_⟩
        have u7 := g7.up
        replace m := m.call g7
        obtain ⟨n7, rfl⟩ := int_two z0
        refine ⟨127, (n7 : Int), rfl, rfl, 127 + (n7 : Int), rfl, by omega, by omega, fun D hD => ?_⟩
        refine lc_range (lo := 0) (n := (127 + (n7 : Int)).toNat) (fun i H' => ∃ (xs : List V) (es : List PyData), Same H7 H' ∧ H' D = some (.lst xs) ∧ DdAll H' xs es ∧ tupOnlyAll es = true ∧ es.length = i)
          ⟨[], [], same_new hD, upd_same, .nil, by simp [tupOnlyAll], rfl⟩ ?_ ?_
        · rintro i H' hi ⟨xs, es, sm, eD, dx, te, le⟩
          refine ⟨rfl, ?_⟩
          refine iteT (B := ∃ (xs : List V) (es : List PyData), Same H7 H' ∧ H' D = some (.lst xs) ∧ DdAll H' xs es ∧ tupOnlyAll es = true ∧ es.length = i + 1) ?_
          refine ⟨_, rfl, 32, _, rfl, rfl, .inl ⟨by decide, by decide⟩, (by show 2 ≤ sizeLine; decide), fun p np => ?_⟩
          have nDp : D ≠ p := ne_of_none eD np
          have lx := dx.length
          refine ⟨xs, by rw [upd_ne nDp]; exact eD, small1000 (by omega), xs ++ [.ref p], es ++ [.tuple [.int (32 * (0 + (i : Int))), .int 16]], fun b o hb => ?_, upd_same, ?_, ?_, ?_⟩
          · rw [upd_ne (ne_of_none hb hD), upd_ne (ne_of_none (sm _ _ hb) np)]
            exact sm _ _ hb
          · have tt : tupOnlyAll (es ++ [.tuple [.int (32 * (0 + (i : Int))), .int 16]]) = true := by
              clear dx le lx
              induction es with
              | nil => simp [tupOnlyAll, tupOnly]
              | cons e es ih =>
                simp only [tupOnlyAll, Bool.and_eq_true] at te
                simp only [List.cons_append, tupOnlyAll, Bool.and_eq_true]
                exact ⟨te.1, ih te.2⟩
            have base := (dx.mono (same_new (o := .tup [.int (32 * (0 + (i : Int))), .int 16]) np)).append (.cons (.tup upd_same (.cons (.int _) (.cons (.int _) .nil))) .nil)
            exact base.tups (tups_upd (p := D) (by rw [upd_ne nDp]; exact eD)) tt
          · clear dx le lx
            induction es with
            | nil => simp [tupOnlyAll, tupOnly]
            | cons e es ih =>
              simp only [tupOnlyAll, Bool.and_eq_true] at te
              simp only [List.cons_append, tupOnlyAll, Bool.and_eq_true]
              exact ⟨te.1, ih te.2⟩
          · rw [List.length_append, le]
            rfl
        · rintro H' ⟨xs, es, sm, eD, dx, te, le⟩
          have m2 := m.goes.same sm
          have eD2 : hid s l H' D = some (.lst xs) := by
            obtain ⟨n1, n2, _⟩ := m.src.ne hD
            exact hid_of n1 n2 eD
          have dd : Dd (hid s l H') (.ref D) (.list es) := .lst eD2 (dx.tups m2.src.tups te)
          have le2 : es.length ≤ 200 := by omega
          have mm : More s l c H1 H' t7 [.ref D] [.list es] := ⟨m2.src, m2.keep, .cons dd .nil⟩
          clear m m2 eD2 dd dx eD sm hD
          generalize H' = H5 at mm ⊢
          generalize D = it at mm ⊢
          generalize es = ds at mm le2 ⊢
          generalize t7 = t5 at *
          have m := mm
          clear mm
          -- the values
          obtain ⟨xi, hxi, dxi⟩ := m.hd.list
          refine ⟨_, rfl, it, xi, rfl, .inl ⟨SqL.of (hid_some hxi).2.2, fun q1 nq1 => ?_⟩⟩
          generalize hH : upd H5 q1 _ = H6
          replace m := m.tupE nq1 hH dxi
          clear hH hxi dxi xi
          refine ⟨_, rfl, _, rfl, s, l, c, it, t5, ds, rfl, m.src, by omega, m.tl.hd, by omega, fun H7 r1 t7 es1 S7 u7 k7 hr1 lr1 => ?_⟩
          replace m : More s l c H1 H7 t7 [.ref r1, .ref q1, .ref it] [.list es1, .tuple ds, .list ds] := ⟨S7, m.keep.trans k7, .cons hr1 (m.all.mono k7)⟩
          obtain ⟨xi, hxi, dxi⟩ := m.hd.list
          refine ⟨r1, xi, rfl, .inl ⟨SqL.of (hid_some hxi).2.2, fun q2 nq2 => ?_⟩⟩
          generalize hH : upd H7 q2 _ = H8
          replace m := m.tupE nq2 hH dxi
          clear hH hxi dxi xi hr1
          refine ⟨_, rfl, _, rfl, _, rfl, s, l, c, it, t7, ds, rfl, m.src, by omega, m.tl.tl.tl.hd, by omega, fun H9 r2 t9 es2 S9 u9 k9 hr2 lr2 => ?_⟩
          replace m : More s l c H1 H9 t9 [.ref r2, .ref q2, .ref r1, .ref q1, .ref it] [.list es2, .tuple es1, .list es1, .tuple ds, .list ds] := ⟨S9, m.keep.trans k9, .cons hr2 (m.all.mono k9)⟩
          refine ⟨s, l, c, r2, t9, es2, rfl, m.src, by omega, m.hd, by omega, fun H10 r3 t10 es3 S10 u10 k10 hr3 lr3 => ?_⟩
          replace m : More s l c H1 H10 t10 [.ref r3, .ref r2, .ref q2, .ref r1, .ref q1, .ref it] [.list es3, .list es2, .tuple es1, .list es1, .tuple ds, .list ds] := ⟨S10, m.keep.trans k10, .cons hr3 (m.all.mono k10)⟩
          obtain ⟨xi, hxi, dxi⟩ := m.hd.list
          refine ⟨r3, xi, rfl, .inl ⟨SqL.of (hid_some hxi).2.2, fun q3 nq3 => ?_⟩⟩
          generalize hH : upd H10 q3 _ = H11
          replace m := m.tupE nq3 hH dxi
          clear hH hxi dxi xi hr3 hr2
          refine ⟨(by show 3 ≤ sizeLine; decide), fun va nva => ?_⟩
          generalize hH : upd H11 va _ = H12
          replace m := m.lstE nva hH (.cons m.tl.tl.tl.tl.tl.hd (.cons m.tl.tl.tl.hd (.cons m.hd .nil)))
          clear hH
          have mi := m.tl.tl.tl.tl.tl.tl.tl.hd
          replace m : More s l c H1 H12 t10 [.ref va, .ref it] [.list [.tuple ds, .tuple es1, .tuple es3], .list ds] := ⟨m.src, m.keep, .cons m.hd (.cons mi .nil)⟩
          clear mi
          -- and two more
          refine ⟨_, rfl, _, rfl, _, rfl, s, l, c, t10, rfl, m.src, by omega, fun H13 vo do_ t13 g13 ho od => ⟨(by show 2 ≤ sizeLine; decide), fun vb nvb => ?_⟩⟩
          have u13 := g13.up
          replace m := m.call g13
          generalize hH : upd H13 vb _ = H14
          replace m := m.lstE nvb hH (.cons m.tl.hd (.cons ho .nil))
          clear hH
          refine rd_cat (hid_same s l _) m.tl.hd m.hd (by show 3 + 2 ≤ 1000; decide) fun vl xs nvl hx => ?_
          replace m := m.tl.tl.lst nvl hx
          generalize upd H14 vl _ = H15 at m ⊢
          obtain ⟨xl, hxl, dxl⟩ := m.hd.list
          replace m : More s l c H1 H15 t13 [.ref vl] [_] := ⟨m.src, m.keep, .cons m.hd .nil⟩
          have lens : ∀ d ∈ ([.tuple ds, .tuple es1, .tuple es3] ++ [.list ds, do_] : List PyData), tupLen d ≤ 1000 := by
            intro d h
            simp only [List.cons_append, List.nil_append, List.mem_cons, List.not_mem_nil, or_false] at h
            rcases h with rfl | rfl | rfl | rfl | rfl
            · show ds.length ≤ 1000
              omega
            · show es1.length ≤ 1000
              omega
            · show es3.length ≤ 1000
              omega
            · exact Nat.zero_le _
            · exact odd_len _ od
          refine ⟨vl, rfl, ⟨xl, SqL.of (hid_some hxl).2.2⟩, for_list (K := K) (a := vl) (xs := xl) (fun j σ H' => ∃ (y2 y3 y4 y5 y6 y7 y8 : Option V), σ = [some (.ref a), some (.ref s), y2, y3, y4, y5, y6, y7, y8] ∧ Same H15 H')
            ⟨_, _, _, _, _, _, _, rfl, Same.refl _⟩ (fun j σ H' _ ⟨_, _, _, _, _, _, _, _, sm⟩ => SqL.of (sm _ _ (hid_some hxl).2.2)) ?_ ?_⟩
          · rintro j v σ H' hj ⟨y2, y3, y4, y5, y6, y7, y8, rfl, sm⟩
            obtain ⟨d, hd, hv⟩ := dxl.get hj
            have hl := lens d (List.mem_of_getElem? hd)
            have hl2 : ∀ es, d = .tuple es → es.length ≤ 1000 := fun es z => by
              subst z
              exact hl
            have hv : Dd H' v d := (hv.out).mono sm
            obtain ⟨f1, f2, f3, f4⟩ := two_errs _ (err_forms d)
            refine ⟨_, rfl, v, d, rfl, hv, hl2, fun A1 e1 s1 h1 => ?_⟩
            refine ⟨_, rfl, v, d, rfl, hv.mono s1, hl2, fun A2 e2 s2 h2 => ⟨(by show 2 ≤ sizeLine; decide), fun p1 np1 => ?_⟩⟩
            refine ⟨p1, _, rfl, .lst upd_same (.cons ((h1.mono s2).mono (same_new np1)) (.cons (h2.mono (same_new np1)) .nil)), f2, f3, f1, f4, ?_⟩
            have k2 := (s1.trans s2).trans (same_new (o := .lst [e1, e2]) np1)
            generalize upd A2 p1 _ = A3 at k2 ⊢
            refine ⟨_, rfl, v, d, rfl, hv.mono k2, hl2, fun A4 e4 s4 h4 => ?_⟩
            refine ⟨_, rfl, v, d, rfl, (hv.mono k2).mono s4, hl2, fun A5 e5 s5 h5 => ⟨(by show 2 ≤ sizeLine; decide), fun p2 np2 => ?_⟩⟩
            refine ⟨p2, _, rfl, .lst upd_same (.cons ((h4.mono s5).mono (same_new np2)) (.cons (h5.mono (same_new np2)) .nil)), f2, f3, f1, f4, rfl, _, rfl, ?_⟩
            refine iteNS rfl ?_
            exact ⟨_, _, _, _, _, _, _, rfl, sm.trans (((k2.trans s4).trans s5).trans (same_new np2))⟩
          · rintro σ H' ⟨y2, y3, y4, y5, y6, y7, y8, rfl, sm⟩
            have gg := m.goes.same sm
            exact ⟨t13, _, _, _, _, _, _, _, rfl, gg.src, by omega⟩
      · generalize H6 = H5 at m ⊢
        generalize t6 = t5 at *
        -- the values
        obtain ⟨xi, hxi, dxi⟩ := m.hd.list
        refine ⟨_, rfl, it, xi, rfl, .inl ⟨SqL.of (hid_some hxi).2.2, fun q1 nq1 => ?_⟩⟩
        generalize hH : upd H5 q1 _ = H6
        replace m := m.tupE nq1 hH dxi
        clear hH hxi dxi xi
        refine ⟨_, rfl, _, rfl, s, l, c, it, t5, ds, rfl, m.src, by omega, m.tl.hd, by omega, fun H7 r1 t7 es1 S7 u7 k7 hr1 lr1 => ?_⟩
        replace m : More s l c H1 H7 t7 [.ref r1, .ref q1, .ref it] [.list es1, .tuple ds, .list ds] := ⟨S7, m.keep.trans k7, .cons hr1 (m.all.mono k7)⟩
        obtain ⟨xi, hxi, dxi⟩ := m.hd.list
        refine ⟨r1, xi, rfl, .inl ⟨SqL.of (hid_some hxi).2.2, fun q2 nq2 => ?_⟩⟩
        generalize hH : upd H7 q2 _ = H8
        replace m := m.tupE nq2 hH dxi
        clear hH hxi dxi xi hr1
        refine ⟨_, rfl, _, rfl, _, rfl, s, l, c, it, t7, ds, rfl, m.src, by omega, m.tl.tl.tl.hd, by omega, fun H9 r2 t9 es2 S9 u9 k9 hr2 lr2 => ?_⟩
        replace m : More s l c H1 H9 t9 [.ref r2, .ref q2, .ref r1, .ref q1, .ref it] [.list es2, .tuple es1, .list es1, .tuple ds, .list ds] := ⟨S9, m.keep.trans k9, .cons hr2 (m.all.mono k9)⟩
        refine ⟨s, l, c, r2, t9, es2, rfl, m.src, by omega, m.hd, by omega, fun H10 r3 t10 es3 S10 u10 k10 hr3 lr3 => ?_⟩
        replace m : More s l c H1 H10 t10 [.ref r3, .ref r2, .ref q2, .ref r1, .ref q1, .ref it] [.list es3, .list es2, .tuple es1, .list es1, .tuple ds, .list ds] := ⟨S10, m.keep.trans k10, .cons hr3 (m.all.mono k10)⟩
        obtain ⟨xi, hxi, dxi⟩ := m.hd.list
        refine ⟨r3, xi, rfl, .inl ⟨SqL.of (hid_some hxi).2.2, fun q3 nq3 => ?_⟩⟩
        generalize hH : upd H10 q3 _ = H11
        replace m := m.tupE nq3 hH dxi
        clear hH hxi dxi xi hr3 hr2
        refine ⟨(by show 3 ≤ sizeLine; decide), fun va nva => ?_⟩
        generalize hH : upd H11 va _ = H12
        replace m := m.lstE nva hH (.cons m.tl.tl.tl.tl.tl.hd (.cons m.tl.tl.tl.hd (.cons m.hd .nil)))
        clear hH
        have mi := m.tl.tl.tl.tl.tl.tl.tl.hd
        replace m : More s l c H1 H12 t10 [.ref va, .ref it] [.list [.tuple ds, .tuple es1, .tuple es3], .list ds] := ⟨m.src, m.keep, .cons m.hd (.cons mi .nil)⟩
        clear mi
        -- and two more
        refine ⟨_, rfl, _, rfl, _, rfl, s, l, c, t10, rfl, m.src, by omega, fun H13 vo do_ t13 g13 ho od => ⟨(by show 2 ≤ sizeLine; decide), fun vb nvb => ?_⟩⟩
        have u13 := g13.up
        replace m := m.call g13
        generalize hH : upd H13 vb _ = H14
        replace m := m.lstE nvb hH (.cons m.tl.hd (.cons ho .nil))
        clear hH
        refine rd_cat (hid_same s l _) m.tl.hd m.hd (by show 3 + 2 ≤ 1000; decide) fun vl xs nvl hx => ?_
        replace m := m.tl.tl.lst nvl hx
        generalize upd H14 vl _ = H15 at m ⊢
        obtain ⟨xl, hxl, dxl⟩ := m.hd.list
        replace m : More s l c H1 H15 t13 [.ref vl] [_] := ⟨m.src, m.keep, .cons m.hd .nil⟩
        have lens : ∀ d ∈ ([.tuple ds, .tuple es1, .tuple es3] ++ [.list ds, do_] : List PyData), tupLen d ≤ 1000 := by
          intro d h
          simp only [List.cons_append, List.nil_append, List.mem_cons, List.not_mem_nil, or_false] at h
          rcases h with rfl | rfl | rfl | rfl | rfl
          · show ds.length ≤ 1000
            omega
          · show es1.length ≤ 1000
            omega
          · show es3.length ≤ 1000
            omega
          · exact Nat.zero_le _
          · exact odd_len _ od
        refine ⟨vl, rfl, ⟨xl, SqL.of (hid_some hxl).2.2⟩, for_list (K := K) (a := vl) (xs := xl) (fun j σ H' => ∃ (y2 y3 y4 y5 y6 y7 y8 : Option V), σ = [some (.ref a), some (.ref s), y2, y3, y4, y5, y6, y7, y8] ∧ Same H15 H')
          ⟨_, _, _, _, _, _, _, rfl, Same.refl _⟩ (fun j σ H' _ ⟨_, _, _, _, _, _, _, _, sm⟩ => SqL.of (sm _ _ (hid_some hxl).2.2)) ?_ ?_⟩
        · rintro j v σ H' hj ⟨y2, y3, y4, y5, y6, y7, y8, rfl, sm⟩
          obtain ⟨d, hd, hv⟩ := dxl.get hj
          have hl := lens d (List.mem_of_getElem? hd)
          have hl2 : ∀ es, d = .tuple es → es.length ≤ 1000 := fun es z => by
            subst z
            exact hl
          have hv : Dd H' v d := (hv.out).mono sm
          obtain ⟨f1, f2, f3, f4⟩ := two_errs _ (err_forms d)
          refine ⟨_, rfl, v, d, rfl, hv, hl2, fun A1 e1 s1 h1 => ?_⟩
          refine ⟨_, rfl, v, d, rfl, hv.mono s1, hl2, fun A2 e2 s2 h2 => ⟨(by show 2 ≤ sizeLine; decide), fun p1 np1 => ?_⟩⟩
          refine ⟨p1, _, rfl, .lst upd_same (.cons ((h1.mono s2).mono (same_new np1)) (.cons (h2.mono (same_new np1)) .nil)), f2, f3, f1, f4, ?_⟩
          have k2 := (s1.trans s2).trans (same_new (o := .lst [e1, e2]) np1)
          generalize upd A2 p1 _ = A3 at k2 ⊢
          refine ⟨_, rfl, v, d, rfl, hv.mono k2, hl2, fun A4 e4 s4 h4 => ?_⟩
          refine ⟨_, rfl, v, d, rfl, (hv.mono k2).mono s4, hl2, fun A5 e5 s5 h5 => ⟨(by show 2 ≤ sizeLine; decide), fun p2 np2 => ?_⟩⟩
          refine ⟨p2, _, rfl, .lst upd_same (.cons ((h4.mono s5).mono (same_new np2)) (.cons (h5.mono (same_new np2)) .nil)), f2, f3, f1, f4, rfl, _, rfl, ?_⟩
          refine iteNS rfl ?_
          exact ⟨_, _, _, _, _, _, _, rfl, sm.trans (((k2.trans s4).trans s5).trans (same_new np2))⟩
        · rintro σ H' ⟨y2, y3, y4, y5, y6, y7, y8, rfl, sm⟩
          have gg := m.goes.same sm
          exact ⟨t13, _, _, _, _, _, _, _, rfl, gg.src, by omega⟩
    · rintro σ H1 ⟨t, y2, y3, y4, y5, y6, y7, y8, rfl, S, ht⟩
      exact q H1
end
theorem all_mk {l : PySem.W.OpenLaw} {w : World} {K : PySem.W.Frag} {h : Heap} {mg : Str → Option Value} {fa : Addr} (X : K.In h) (G : h.Ns mainGlobals mg) (hfa : mg "law" = some (.ref fa))
    {f_q_is_integer : Addr} {od_q_is_integer an_q_is_integer : Option Addr} {sl_q_is_integer : Array (Option Value)} {oc_q_is_integer kV_q_is_integer dc_q_is_integer pm_q_is_integer cd_q_is_integer ct_q_is_integer : Value}
    (a_q_is_integer : PySem.W.nsIn K mainGlobals "is_integer" = some (some (.ref f_q_is_integer)))
    (l_q_is_integer : K.lookup f_q_is_integer = some ⟨oc_q_is_integer, od_q_is_integer, .func (PySem.W.fnOf "is_integer" "is_integer" (defArgs s_q_is_integer) (defBody s_q_is_integer) (defScope s_q_is_integer) .none kV_q_is_integer dc_q_is_integer pm_q_is_integer an_q_is_integer cd_q_is_integer ct_q_is_integer), sl_q_is_integer⟩)
    (c_q_is_integer : PySem.W.codeIn K cd_q_is_integer "is_integer" = true) (k_q_is_integer : PySem.W.keepIn K (.ref f_q_is_integer) = true)
    {f_q_is_within : Addr} {od_q_is_within an_q_is_within : Option Addr} {sl_q_is_within : Array (Option Value)} {oc_q_is_within kV_q_is_within dc_q_is_within pm_q_is_within cd_q_is_within ct_q_is_within : Value}
    (a_q_is_within : PySem.W.nsIn K mainGlobals "is_within" = some (some (.ref f_q_is_within)))
    (l_q_is_within : K.lookup f_q_is_within = some ⟨oc_q_is_within, od_q_is_within, .func (PySem.W.fnOf "is_within" "is_within" (defArgs s_q_is_within) (defBody s_q_is_within) (defScope s_q_is_within) .none kV_q_is_within dc_q_is_within pm_q_is_within an_q_is_within cd_q_is_within ct_q_is_within), sl_q_is_within⟩)
    (c_q_is_within : PySem.W.codeIn K cd_q_is_within "is_within" = true) (k_q_is_within : PySem.W.keepIn K (.ref f_q_is_within) = true)
    {f_q_is_size : Addr} {od_q_is_size an_q_is_size : Option Addr} {sl_q_is_size : Array (Option Value)} {oc_q_is_size kV_q_is_size dc_q_is_size pm_q_is_size cd_q_is_size ct_q_is_size : Value}
    (a_q_is_size : PySem.W.nsIn K mainGlobals "is_size" = some (some (.ref f_q_is_size)))
    (l_q_is_size : K.lookup f_q_is_size = some ⟨oc_q_is_size, od_q_is_size, .func (PySem.W.fnOf "is_size" "is_size" (defArgs s_q_is_size) (defBody s_q_is_size) (defScope s_q_is_size) .none kV_q_is_size dc_q_is_size pm_q_is_size an_q_is_size cd_q_is_size ct_q_is_size), sl_q_is_size⟩)
    (c_q_is_size : PySem.W.codeIn K cd_q_is_size "is_size" = true) (k_q_is_size : PySem.W.keepIn K (.ref f_q_is_size) = true)
    {f_q_is_block : Addr} {od_q_is_block an_q_is_block : Option Addr} {sl_q_is_block : Array (Option Value)} {oc_q_is_block kV_q_is_block dc_q_is_block pm_q_is_block cd_q_is_block ct_q_is_block : Value}
    (a_q_is_block : PySem.W.nsIn K mainGlobals "is_block" = some (some (.ref f_q_is_block)))
    (l_q_is_block : K.lookup f_q_is_block = some ⟨oc_q_is_block, od_q_is_block, .func (PySem.W.fnOf "is_block" "is_block" (defArgs s_q_is_block) (defBody s_q_is_block) (defScope s_q_is_block) .none kV_q_is_block dc_q_is_block pm_q_is_block an_q_is_block cd_q_is_block ct_q_is_block), sl_q_is_block⟩)
    (c_q_is_block : PySem.W.codeIn K cd_q_is_block "is_block" = true) (k_q_is_block : PySem.W.keepIn K (.ref f_q_is_block) = true)
    {f_q_room_error : Addr} {od_q_room_error an_q_room_error : Option Addr} {sl_q_room_error : Array (Option Value)} {oc_q_room_error kV_q_room_error dc_q_room_error pm_q_room_error cd_q_room_error ct_q_room_error : Value}
    (a_q_room_error : PySem.W.nsIn K mainGlobals "room_error" = some (some (.ref f_q_room_error)))
    (l_q_room_error : K.lookup f_q_room_error = some ⟨oc_q_room_error, od_q_room_error, .func (PySem.W.fnOf "room_error" "room_error" (defArgs s_q_room_error) (defBody s_q_room_error) (defScope s_q_room_error) .none kV_q_room_error dc_q_room_error pm_q_room_error an_q_room_error cd_q_room_error ct_q_room_error), sl_q_room_error⟩)
    (c_q_room_error : PySem.W.codeIn K cd_q_room_error "room_error" = true) (k_q_room_error : PySem.W.keepIn K (.ref f_q_room_error) = true)
    {f_p_item_error : Addr} {od_p_item_error an_p_item_error : Option Addr} {sl_p_item_error : Array (Option Value)} {oc_p_item_error kV_p_item_error dc_p_item_error pm_p_item_error cd_p_item_error ct_p_item_error : Value}
    (a_p_item_error : PySem.W.nsIn K mainGlobals "_item_error" = some (some (.ref f_p_item_error)))
    (l_p_item_error : K.lookup f_p_item_error = some ⟨oc_p_item_error, od_p_item_error, .func (PySem.W.fnOf "_item_error" "_item_error" (defArgs s_p_item_error) (defBody s_p_item_error) (defScope s_p_item_error) .none kV_p_item_error dc_p_item_error pm_p_item_error an_p_item_error cd_p_item_error ct_p_item_error), sl_p_item_error⟩)
    (c_p_item_error : PySem.W.codeIn K cd_p_item_error "_item_error" = true) (k_p_item_error : PySem.W.keepIn K (.ref f_p_item_error) = true)
    {f_l_source : Addr} {od_l_source an_l_source : Option Addr} {sl_l_source : Array (Option Value)} {oc_l_source kV_l_source dc_l_source pm_l_source cd_l_source ct_l_source : Value}
    (a_l_source : PySem.W.nsIn K mainGlobals "_law_source" = some (some (.ref f_l_source)))
    (l_l_source : K.lookup f_l_source = some ⟨oc_l_source, od_l_source, .func (PySem.W.fnOf "_law_source" "_law_source" (defArgs s_l_source) (defBody s_l_source) (defScope s_l_source) .none kV_l_source dc_l_source pm_l_source an_l_source cd_l_source ct_l_source), sl_l_source⟩)
    (c_l_source : PySem.W.codeIn K cd_l_source "_law_source" = true) (k_l_source : PySem.W.keepIn K (.ref f_l_source) = true)
    {f_l_below : Addr} {od_l_below an_l_below : Option Addr} {sl_l_below : Array (Option Value)} {oc_l_below kV_l_below dc_l_below pm_l_below cd_l_below ct_l_below : Value}
    (a_l_below : PySem.W.nsIn K mainGlobals "_law_below" = some (some (.ref f_l_below)))
    (l_l_below : K.lookup f_l_below = some ⟨oc_l_below, od_l_below, .func (PySem.W.fnOf "_law_below" "_law_below" (defArgs s_l_below) (defBody s_l_below) (defScope s_l_below) .none kV_l_below dc_l_below pm_l_below an_l_below cd_l_below ct_l_below), sl_l_below⟩)
    (c_l_below : PySem.W.codeIn K cd_l_below "_law_below" = true) (k_l_below : PySem.W.keepIn K (.ref f_l_below) = true)
    {f_l_pick : Addr} {od_l_pick an_l_pick : Option Addr} {sl_l_pick : Array (Option Value)} {oc_l_pick kV_l_pick dc_l_pick pm_l_pick cd_l_pick ct_l_pick : Value}
    (a_l_pick : PySem.W.nsIn K mainGlobals "_law_pick" = some (some (.ref f_l_pick)))
    (l_l_pick : K.lookup f_l_pick = some ⟨oc_l_pick, od_l_pick, .func (PySem.W.fnOf "_law_pick" "_law_pick" (defArgs s_l_pick) (defBody s_l_pick) (defScope s_l_pick) .none kV_l_pick dc_l_pick pm_l_pick an_l_pick cd_l_pick ct_l_pick), sl_l_pick⟩)
    (c_l_pick : PySem.W.codeIn K cd_l_pick "_law_pick" = true) (k_l_pick : PySem.W.keepIn K (.ref f_l_pick) = true)
    {f_l_odd : Addr} {od_l_odd an_l_odd : Option Addr} {sl_l_odd : Array (Option Value)} {oc_l_odd kV_l_odd dc_l_odd pm_l_odd cd_l_odd ct_l_odd : Value}
    (a_l_odd : PySem.W.nsIn K mainGlobals "_law_odd" = some (some (.ref f_l_odd)))
    (l_l_odd : K.lookup f_l_odd = some ⟨oc_l_odd, od_l_odd, .func (PySem.W.fnOf "_law_odd" "_law_odd" (defArgs s_l_odd) (defBody s_l_odd) (defScope s_l_odd) .none kV_l_odd dc_l_odd pm_l_odd an_l_odd cd_l_odd ct_l_odd), sl_l_odd⟩)
    (c_l_odd : PySem.W.codeIn K cd_l_odd "_law_odd" = true) (k_l_odd : PySem.W.keepIn K (.ref f_l_odd) = true)
    {f_l_world : Addr} {od_l_world an_l_world : Option Addr} {sl_l_world : Array (Option Value)} {oc_l_world kV_l_world dc_l_world pm_l_world cd_l_world ct_l_world : Value}
    (a_l_world : PySem.W.nsIn K mainGlobals "_law_world" = some (some (.ref f_l_world)))
    (l_l_world : K.lookup f_l_world = some ⟨oc_l_world, od_l_world, .func (PySem.W.fnOf "_law_world" "_law_world" (defArgs s_l_world) (defBody s_l_world) (defScope s_l_world) .none kV_l_world dc_l_world pm_l_world an_l_world cd_l_world ct_l_world), sl_l_world⟩)
    (c_l_world : PySem.W.codeIn K cd_l_world "_law_world" = true) (k_l_world : PySem.W.keepIn K (.ref f_l_world) = true)
    {f_l_marks : Addr} {od_l_marks an_l_marks : Option Addr} {sl_l_marks : Array (Option Value)} {oc_l_marks kV_l_marks dc_l_marks pm_l_marks cd_l_marks ct_l_marks : Value}
    (a_l_marks : PySem.W.nsIn K mainGlobals "_law_marks" = some (some (.ref f_l_marks)))
    (l_l_marks : K.lookup f_l_marks = some ⟨oc_l_marks, od_l_marks, .func (PySem.W.fnOf "_law_marks" "_law_marks" (defArgs s_l_marks) (defBody s_l_marks) (defScope s_l_marks) .none kV_l_marks dc_l_marks pm_l_marks an_l_marks cd_l_marks ct_l_marks), sl_l_marks⟩)
    (c_l_marks : PySem.W.codeIn K cd_l_marks "_law_marks" = true) (k_l_marks : PySem.W.keepIn K (.ref f_l_marks) = true)
    {f_l_room : Addr} {od_l_room an_l_room : Option Addr} {sl_l_room : Array (Option Value)} {oc_l_room kV_l_room dc_l_room pm_l_room cd_l_room ct_l_room : Value}
    (a_l_room : PySem.W.nsIn K mainGlobals "_law_room" = some (some (.ref f_l_room)))
    (l_l_room : K.lookup f_l_room = some ⟨oc_l_room, od_l_room, .func (PySem.W.fnOf "_law_room" "_law_room" (defArgs s_l_room) (defBody s_l_room) (defScope s_l_room) .none kV_l_room dc_l_room pm_l_room an_l_room cd_l_room ct_l_room), sl_l_room⟩)
    (c_l_room : PySem.W.codeIn K cd_l_room "_law_room" = true) (k_l_room : PySem.W.keepIn K (.ref f_l_room) = true)
    {f_l_is_int : Addr} {od_l_is_int an_l_is_int : Option Addr} {sl_l_is_int : Array (Option Value)} {oc_l_is_int kV_l_is_int dc_l_is_int pm_l_is_int cd_l_is_int ct_l_is_int : Value}
    (a_l_is_int : PySem.W.nsIn K mainGlobals "_law_is_int" = some (some (.ref f_l_is_int)))
    (l_l_is_int : K.lookup f_l_is_int = some ⟨oc_l_is_int, od_l_is_int, .func (PySem.W.fnOf "_law_is_int" "_law_is_int" (defArgs s_l_is_int) (defBody s_l_is_int) (defScope s_l_is_int) .none kV_l_is_int dc_l_is_int pm_l_is_int an_l_is_int cd_l_is_int ct_l_is_int), sl_l_is_int⟩)
    (c_l_is_int : PySem.W.codeIn K cd_l_is_int "_law_is_int" = true) (k_l_is_int : PySem.W.keepIn K (.ref f_l_is_int) = true)
    {f_l_is_block : Addr} {od_l_is_block an_l_is_block : Option Addr} {sl_l_is_block : Array (Option Value)} {oc_l_is_block kV_l_is_block dc_l_is_block pm_l_is_block cd_l_is_block ct_l_is_block : Value}
    (a_l_is_block : PySem.W.nsIn K mainGlobals "_law_is_block" = some (some (.ref f_l_is_block)))
    (l_l_is_block : K.lookup f_l_is_block = some ⟨oc_l_is_block, od_l_is_block, .func (PySem.W.fnOf "_law_is_block" "_law_is_block" (defArgs s_l_is_block) (defBody s_l_is_block) (defScope s_l_is_block) .none kV_l_is_block dc_l_is_block pm_l_is_block an_l_is_block cd_l_is_block ct_l_is_block), sl_l_is_block⟩)
    (c_l_is_block : PySem.W.codeIn K cd_l_is_block "_law_is_block" = true) (k_l_is_block : PySem.W.keepIn K (.ref f_l_is_block) = true)
    {f_l_due : Addr} {od_l_due an_l_due : Option Addr} {sl_l_due : Array (Option Value)} {oc_l_due kV_l_due dc_l_due pm_l_due cd_l_due ct_l_due : Value}
    (a_l_due : PySem.W.nsIn K mainGlobals "_law_due" = some (some (.ref f_l_due)))
    (l_l_due : K.lookup f_l_due = some ⟨oc_l_due, od_l_due, .func (PySem.W.fnOf "_law_due" "_law_due" (defArgs s_l_due) (defBody s_l_due) (defScope s_l_due) .none kV_l_due dc_l_due pm_l_due an_l_due cd_l_due ct_l_due), sl_l_due⟩)
    (c_l_due : PySem.W.codeIn K cd_l_due "_law_due" = true) (k_l_due : PySem.W.keepIn K (.ref f_l_due) = true)
    {f_l_bent : Addr} {od_l_bent an_l_bent : Option Addr} {sl_l_bent : Array (Option Value)} {oc_l_bent kV_l_bent dc_l_bent pm_l_bent cd_l_bent ct_l_bent : Value}
    (a_l_bent : PySem.W.nsIn K mainGlobals "_law_bent" = some (some (.ref f_l_bent)))
    (l_l_bent : K.lookup f_l_bent = some ⟨oc_l_bent, od_l_bent, .func (PySem.W.fnOf "_law_bent" "_law_bent" (defArgs s_l_bent) (defBody s_l_bent) (defScope s_l_bent) .none kV_l_bent dc_l_bent pm_l_bent an_l_bent cd_l_bent ct_l_bent), sl_l_bent⟩)
    (c_l_bent : PySem.W.codeIn K cd_l_bent "_law_bent" = true) (k_l_bent : PySem.W.keepIn K (.ref f_l_bent) = true)
    {f_law : Addr} {od_law an_law : Option Addr} {sl_law : Array (Option Value)} {oc_law kV_law dc_law pm_law cd_law ct_law : Value}
    (a_law : PySem.W.nsIn K mainGlobals "law" = some (some (.ref f_law)))
    (l_law : K.lookup f_law = some ⟨oc_law, od_law, .func (PySem.W.fnOf "law" "law" (defArgs s_law) (defBody s_law) (defScope s_law) .none kV_law dc_law pm_law an_law cd_law ct_law), sl_law⟩)
    (c_law : PySem.W.codeIn K cd_law "law" = true) (k_law : PySem.W.keepIn K (.ref f_law) = true)
    {t_SPACE : Tok} (v_SPACE : PySem.W.nsIn K mainGlobals "SPACE" = some (some (.int 281474976710656 t_SPACE)))
    {t_LEAST : Tok} (v_LEAST : PySem.W.nsIn K mainGlobals "LEAST" = some (some (.int 16 t_LEAST)))
    {t_MAX_ROOM : Tok} (v_MAX_ROOM : PySem.W.nsIn K mainGlobals "MAX_ROOM" = some (some (.int 128 t_MAX_ROOM)))
    (z_abs : PySem.W.nsIn K mainGlobals "abs" = some none)
    (z_bool : PySem.W.nsIn K mainGlobals "bool" = some none)
    (z_int : PySem.W.nsIn K mainGlobals "int" = some none)
    (z_isinstance : PySem.W.nsIn K mainGlobals "isinstance" = some none)
    (z_len : PySem.W.nsIn K mainGlobals "len" = some none)
    (z_list : PySem.W.nsIn K mainGlobals "list" = some none)
    (z_min : PySem.W.nsIn K mainGlobals "min" = some none)
    (z_range : PySem.W.nsIn K mainGlobals "range" = some none)
    (z_repr : PySem.W.nsIn K mainGlobals "repr" = some none)
    (z_tuple : PySem.W.nsIn K mainGlobals "tuple" = some none)
    : ∃ fd : FuncData, (∀ (s : Shared) (v : Value), BindsTo s fd ⟨[v], []⟩ [("_law_script", v)]) ∧ ∀ base : Heap, K.In base → base.Ns mainGlobals mg → FnG l.prog w K mg base CX0 7 fa fd ["_law_script"] (sp_law K) := by
  have e := hfa.symm.trans (PySem.W.mg_of X G a_law)
  cases e
  have F_q_is_integer := fun_mk (st := s_q_is_integer) l_q_is_integer c_q_is_integer k_q_is_integer
  have F_q_is_within := fun_mk (st := s_q_is_within) l_q_is_within c_q_is_within k_q_is_within
  have F_q_is_size := fun_mk (st := s_q_is_size) l_q_is_size c_q_is_size k_q_is_size
  have F_q_is_block := fun_mk (st := s_q_is_block) l_q_is_block c_q_is_block k_q_is_block
  have F_q_room_error := fun_mk (st := s_q_room_error) l_q_room_error c_q_room_error k_q_room_error
  have F_p_item_error := fun_mk (st := s_p_item_error) l_p_item_error c_p_item_error k_p_item_error
  have F_l_source := fun_mk (st := s_l_source) l_l_source c_l_source k_l_source
  have F_l_below := fun_mk (st := s_l_below) l_l_below c_l_below k_l_below
  have F_l_pick := fun_mk (st := s_l_pick) l_l_pick c_l_pick k_l_pick
  have F_l_odd := fun_mk (st := s_l_odd) l_l_odd c_l_odd k_l_odd
  have F_l_world := fun_mk (st := s_l_world) l_l_world c_l_world k_l_world
  have F_l_marks := fun_mk (st := s_l_marks) l_l_marks c_l_marks k_l_marks
  have F_l_room := fun_mk (st := s_l_room) l_l_room c_l_room k_l_room
  have F_l_is_int := fun_mk (st := s_l_is_int) l_l_is_int c_l_is_int k_l_is_int
  have F_l_is_block := fun_mk (st := s_l_is_block) l_l_is_block c_l_is_block k_l_is_block
  have F_l_due := fun_mk (st := s_l_due) l_l_due c_l_due k_l_due
  have F_l_bent := fun_mk (st := s_l_bent) l_l_bent c_l_bent k_l_bent
  have F_law := fun_mk (st := s_law) l_law c_law k_law
  let T : Txt K mg := {
    f_q_is_integer := _, d_q_is_integer := _, F_q_is_integer := F_q_is_integer, g_q_is_integer := PySem.W.mg_of X G a_q_is_integer, bd_q_is_integer := F_q_is_integer.binds (ps := ["value"]) fun _ _ _ _ _ _ us hl => match us, hl with | [_], _ => rfl,
    f_q_is_within := _, d_q_is_within := _, F_q_is_within := F_q_is_within, g_q_is_within := PySem.W.mg_of X G a_q_is_within, bd_q_is_within := F_q_is_within.binds (ps := ["value", "low", "high"]) fun _ _ _ _ _ _ us hl => match us, hl with | [_, _, _], _ => rfl,
    f_q_is_size := _, d_q_is_size := _, F_q_is_size := F_q_is_size, g_q_is_size := PySem.W.mg_of X G a_q_is_size, bd_q_is_size := F_q_is_size.binds (ps := ["value"]) fun _ _ _ _ _ _ us hl => match us, hl with | [_], _ => rfl,
    f_q_is_block := _, d_q_is_block := _, F_q_is_block := F_q_is_block, g_q_is_block := PySem.W.mg_of X G a_q_is_block, bd_q_is_block := F_q_is_block.binds (ps := ["value"]) fun _ _ _ _ _ _ us hl => match us, hl with | [_], _ => rfl,
    f_q_room_error := _, d_q_room_error := _, F_q_room_error := F_q_room_error, g_q_room_error := PySem.W.mg_of X G a_q_room_error, bd_q_room_error := F_q_room_error.binds (ps := ["value"]) fun _ _ _ _ _ _ us hl => match us, hl with | [_], _ => rfl,
    f_p_item_error := _, d_p_item_error := _, F_p_item_error := F_p_item_error, g_p_item_error := PySem.W.mg_of X G a_p_item_error, bd_p_item_error := F_p_item_error.binds (ps := ["blocks", "index"]) fun _ _ _ _ _ _ us hl => match us, hl with | [_, _], _ => rfl,
    f_l_source := _, d_l_source := _, F_l_source := F_l_source, g_l_source := PySem.W.mg_of X G a_l_source, bd_l_source := F_l_source.binds (ps := ["_law_script"]) fun _ _ _ _ _ _ us hl => match us, hl with | [_], _ => rfl,
    f_l_below := _, d_l_below := _, F_l_below := F_l_below, g_l_below := PySem.W.mg_of X G a_l_below, bd_l_below := F_l_below.binds (ps := ["_law_source_here", "_law_many"]) fun _ _ _ _ _ _ us hl => match us, hl with | [_, _], _ => rfl,
    f_l_pick := _, d_l_pick := _, F_l_pick := F_l_pick, g_l_pick := PySem.W.mg_of X G a_l_pick, bd_l_pick := F_l_pick.binds (ps := ["_law_source_here", "_law_items"]) fun _ _ _ _ _ _ us hl => match us, hl with | [_, _], _ => rfl,
    f_l_odd := _, d_l_odd := _, F_l_odd := F_l_odd, g_l_odd := PySem.W.mg_of X G a_l_odd, bd_l_odd := F_l_odd.binds (ps := ["_law_source_here"]) fun _ _ _ _ _ _ us hl => match us, hl with | [_], _ => rfl,
    f_l_world := _, d_l_world := _, F_l_world := F_l_world, g_l_world := PySem.W.mg_of X G a_l_world, bd_l_world := F_l_world.binds (ps := ["_law_source_here"]) fun _ _ _ _ _ _ us hl => match us, hl with | [_], _ => rfl,
    f_l_marks := _, d_l_marks := _, F_l_marks := F_l_marks, g_l_marks := PySem.W.mg_of X G a_l_marks, bd_l_marks := F_l_marks.binds (ps := ["_law_source_here", "_law_many"]) fun _ _ _ _ _ _ us hl => match us, hl with | [_, _], _ => rfl,
    f_l_room := _, d_l_room := _, F_l_room := F_l_room, g_l_room := PySem.W.mg_of X G a_l_room, bd_l_room := F_l_room.binds (ps := ["_law_marks_here", "_law_unit", "_law_first"]) fun _ _ _ _ _ _ us hl => match us, hl with | [_, _, _], _ => rfl,
    f_l_is_int := _, d_l_is_int := _, F_l_is_int := F_l_is_int, g_l_is_int := PySem.W.mg_of X G a_l_is_int, bd_l_is_int := F_l_is_int.binds (ps := ["_law_value"]) fun _ _ _ _ _ _ us hl => match us, hl with | [_], _ => rfl,
    f_l_is_block := _, d_l_is_block := _, F_l_is_block := F_l_is_block, g_l_is_block := PySem.W.mg_of X G a_l_is_block, bd_l_is_block := F_l_is_block.binds (ps := ["_law_value"]) fun _ _ _ _ _ _ us hl => match us, hl with | [_], _ => rfl,
    f_l_due := _, d_l_due := _, F_l_due := F_l_due, g_l_due := PySem.W.mg_of X G a_l_due, bd_l_due := F_l_due.binds (ps := ["_law_value"]) fun _ _ _ _ _ _ us hl => match us, hl with | [_], _ => rfl,
    f_l_bent := _, d_l_bent := _, F_l_bent := F_l_bent, g_l_bent := PySem.W.mg_of X G a_l_bent, bd_l_bent := F_l_bent.binds (ps := ["_law_source_here", "_law_items"]) fun _ _ _ _ _ _ us hl => match us, hl with | [_, _], _ => rfl,
    f_law := _, d_law := _, F_law := F_law, g_law := PySem.W.mg_of X G a_law, bd_law := F_law.binds (ps := ["_law_script"]) fun _ _ _ _ _ _ us hl => match us, hl with | [_], _ => rfl,
    t_SPACE := t_SPACE, g_SPACE := PySem.W.mg_of X G v_SPACE,
    t_LEAST := t_LEAST, g_LEAST := PySem.W.mg_of X G v_LEAST,
    t_MAX_ROOM := t_MAX_ROOM, g_MAX_ROOM := PySem.W.mg_of X G v_MAX_ROOM,
    b_abs := PySem.W.mg_none_of X G z_abs,
    b_bool := PySem.W.mg_none_of X G z_bool,
    b_int := PySem.W.mg_none_of X G z_int,
    b_isinstance := PySem.W.mg_none_of X G z_isinstance,
    b_len := PySem.W.mg_none_of X G z_len,
    b_list := PySem.W.mg_none_of X G z_list,
    b_min := PySem.W.mg_none_of X G z_min,
    b_range := PySem.W.mg_none_of X G z_range,
    b_repr := PySem.W.mg_none_of X G z_repr,
    b_tuple := PySem.W.mg_none_of X G z_tuple }
  exact ⟨T.d_law, fun s v => .of_eq rfl, fun base _ _ => ok_law T⟩
end My
open PySem PySem.W PyProof.Rows
set_option maxRecDepth 100000 in
set_option maxHeartbeats 0 in
theorem PySem.Challenge.cw_buswindows_k01_rooms_judged_holds : PySem.Challenge.rw_buswindows_k01_rooms_judged.Holds := by
  w_on; o_law; k_head; (case hw => w_witness2)
  k_fill
  refine My.walkG (l := PySem.Challenge.rw_buswindows_k01_rooms_judged) (n := 63) (k := 7) (x := "_law_script") (sp := My.sp_law) rfl (by decide) rfl ⟨rfl, by decide, by decide⟩ (fun w h Y => PySem.W.kIn_of Y) ?F (fun _ _ a ns hl _ hS => ⟨a, ns, rfl, hS, hl, fun _ => rfl⟩)
  case F =>
    intro w mg fa h KX G hmg
    refine' My.all_mk KX G hmg ?a_q_is_integer ?l_q_is_integer ?c_q_is_integer ?k_q_is_integer ?a_q_is_within ?l_q_is_within ?c_q_is_within ?k_q_is_within ?a_q_is_size ?l_q_is_size ?c_q_is_size ?k_q_is_size ?a_q_is_block ?l_q_is_block ?c_q_is_block ?k_q_is_block ?a_q_room_error ?l_q_room_error ?c_q_room_error ?k_q_room_error ?a_p_item_error ?l_p_item_error ?c_p_item_error ?k_p_item_error ?a_l_source ?l_l_source ?c_l_source ?k_l_source ?a_l_below ?l_l_below ?c_l_below ?k_l_below ?a_l_pick ?l_l_pick ?c_l_pick ?k_l_pick ?a_l_odd ?l_l_odd ?c_l_odd ?k_l_odd ?a_l_world ?l_l_world ?c_l_world ?k_l_world ?a_l_marks ?l_l_marks ?c_l_marks ?k_l_marks ?a_l_room ?l_l_room ?c_l_room ?k_l_room ?a_l_is_int ?l_l_is_int ?c_l_is_int ?k_l_is_int ?a_l_is_block ?l_l_is_block ?c_l_is_block ?k_l_is_block ?a_l_due ?l_l_due ?c_l_due ?k_l_due ?a_l_bent ?l_l_bent ?c_l_bent ?k_l_bent ?a_law ?l_law ?c_law ?k_law ?v_SPACE ?v_LEAST ?v_MAX_ROOM ?z_abs ?z_bool ?z_int ?z_isinstance ?z_len ?z_list ?z_min ?z_range ?z_repr ?z_tuple
    (case a_q_is_integer => k_is)
    (case l_q_is_integer => k_is)
    (case c_q_is_integer => k_is)
    (case k_q_is_integer => k_is)
    (case a_q_is_within => k_is)
    (case l_q_is_within => k_is)
    (case c_q_is_within => k_is)
    (case k_q_is_within => k_is)
    (case a_q_is_size => k_is)
    (case l_q_is_size => k_is)
    (case c_q_is_size => k_is)
    (case k_q_is_size => k_is)
    (case a_q_is_block => k_is)
    (case l_q_is_block => k_is)
    (case c_q_is_block => k_is)
    (case k_q_is_block => k_is)
    (case a_q_room_error => k_is)
    (case l_q_room_error => k_is)
    (case c_q_room_error => k_is)
    (case k_q_room_error => k_is)
    (case a_p_item_error => k_is)
    (case l_p_item_error => k_is)
    (case c_p_item_error => k_is)
    (case k_p_item_error => k_is)
    (case a_l_source => k_is)
    (case l_l_source => k_is)
    (case c_l_source => k_is)
    (case k_l_source => k_is)
    (case a_l_below => k_is)
    (case l_l_below => k_is)
    (case c_l_below => k_is)
    (case k_l_below => k_is)
    (case a_l_pick => k_is)
    (case l_l_pick => k_is)
    (case c_l_pick => k_is)
    (case k_l_pick => k_is)
    (case a_l_odd => k_is)
    (case l_l_odd => k_is)
    (case c_l_odd => k_is)
    (case k_l_odd => k_is)
    (case a_l_world => k_is)
    (case l_l_world => k_is)
    (case c_l_world => k_is)
    (case k_l_world => k_is)
    (case a_l_marks => k_is)
    (case l_l_marks => k_is)
    (case c_l_marks => k_is)
    (case k_l_marks => k_is)
    (case a_l_room => k_is)
    (case l_l_room => k_is)
    (case c_l_room => k_is)
    (case k_l_room => k_is)
    (case a_l_is_int => k_is)
    (case l_l_is_int => k_is)
    (case c_l_is_int => k_is)
    (case k_l_is_int => k_is)
    (case a_l_is_block => k_is)
    (case l_l_is_block => k_is)
    (case c_l_is_block => k_is)
    (case k_l_is_block => k_is)
    (case a_l_due => k_is)
    (case l_l_due => k_is)
    (case c_l_due => k_is)
    (case k_l_due => k_is)
    (case a_l_bent => k_is)
    (case l_l_bent => k_is)
    (case c_l_bent => k_is)
    (case k_l_bent => k_is)
    (case a_law => k_is)
    (case l_law => k_is)
    (case c_law => k_is)
    (case k_law => k_is)
    (case v_SPACE => k_is)
    (case v_LEAST => k_is)
    (case v_MAX_ROOM => k_is)
    (case z_abs => k_is)
    (case z_bool => k_is)
    (case z_int => k_is)
    (case z_isinstance => k_is)
    (case z_len => k_is)
    (case z_list => k_is)
    (case z_min => k_is)
    (case z_range => k_is)
    (case z_repr => k_is)
    (case z_tuple => k_is)
