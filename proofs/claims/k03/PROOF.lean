import PyProof.Rows.All
import Wide.All
import OpenK.AllK
import Wide.FinOn
import HandS.ForMost
import HandS.IsInst
import HandS.Wide
import HandS.TupMul
import HandS.Style
import HandS.SortRule
import HandS.WideBits
import HandS.Flow
import HandS.Star
import HandS.Zip
import KE.KDictZip
import KE.KTurns
import PySem.Challenge.RW_buswindows_k03_two_rooms
set_option Elab.async false
set_option linter.all false
set_option maxRecDepth 100000
/-! ### data: a value as it stands in the heap, read as plain data -/
namespace My
open PySem PySem.Spec PyProof.Rows L2

mutual
inductive Dd (H : Hp) : V → PyData → Prop
  | non : Dd H .non .none
  | bl (b : Bool) : Dd H (.bl b) (.bool b)
  | int (i : Int) : Dd H (.int i) (.int i)
  | str (x : Str) : Dd H (.str x) (.str x)
  | lst {a : Addr} {xs : List V} {ds : List PyData} : H a = some (.lst xs) → DdAll H xs ds → Dd H (.ref a) (.list ds)
  | tup {a : Addr} {xs : List V} {ds : List PyData} : H a = some (.tup xs) → DdAll H xs ds → Dd H (.ref a) (.tuple ds)
  | dic {a : Addr} : H a = some (.dK []) → Dd H (.ref a) (.dict [])
inductive DdAll (H : Hp) : List V → List PyData → Prop
  | nil : DdAll H [] []
  | cons {v : V} {vs : List V} {d : PyData} {ds : List PyData} : Dd H v d → DdAll H vs ds → DdAll H (v :: vs) (d :: ds)
end
mutual
theorem Dd.mono {H H' : Hp} (e : Same H H') : ∀ {d : PyData} {v : V}, Dd H v d → Dd H' v d
  | _, _, .non => .non
  | _, _, .bl b => .bl b
  | _, _, .int i => .int i
  | _, _, .str x => .str x
  | _, _, .lst h a => .lst (e _ _ h) (DdAll.mono e a)
  | _, _, .tup h a => .tup (e _ _ h) (DdAll.mono e a)
  | _, _, .dic h => .dic (e _ _ h)
theorem DdAll.mono {H H' : Hp} (e : Same H H') : ∀ {ds : List PyData} {vs : List V}, DdAll H vs ds → DdAll H' vs ds
  | _, _, .nil => .nil
  | _, _, .cons h t => .cons (Dd.mono e h) (DdAll.mono e t)
end
theorem DdAll.length {H : Hp} : ∀ {vs : List V} {ds : List PyData}, DdAll H vs ds → vs.length = ds.length
  | _, _, .nil => rfl
  | _, _, .cons _ t => congrArg (· + 1) (DdAll.length t)
theorem DdAll.get {H : Hp} : ∀ {vs : List V} {ds : List PyData} {i : Nat} {v : V}, DdAll H vs ds → vs[i]? = some v → ∃ d, ds[i]? = some d ∧ Dd H v d
  | _, _, _, _, .nil, e => by simp at e
  | _, _, 0, _, .cons h _, e => by
    simp at e
    subst e
    exact ⟨_, rfl, h⟩
  | _, _, i + 1, v, .cons _ t, e => by
    obtain ⟨d, h1, h2⟩ := DdAll.get (i := i) (v := v) t (by simpa using e)
    exact ⟨d, by simpa using h1, h2⟩
theorem DdAll.append {H : Hp} : ∀ {vs ws : List V} {ds es : List PyData}, DdAll H vs ds → DdAll H ws es → DdAll H (vs ++ ws) (ds ++ es)
  | _, _, _, _, .nil, s => s
  | _, _, _, _, .cons h t, s => .cons h (DdAll.append t s)
/-- a value's type by its data -/
def tyD : PyData → String
  | .none => "NoneType"
  | .bool _ => "bool"
  | .int _ => "int"
  | .str _ => "str"
  | .list _ => "list"
  | .tuple _ => "tuple"
  | .dict _ => "dict"
theorem Dd.ty {K : PySem.W.Frag} {H : Hp} {v : V} {d : PyData} (h : Dd H v d) : TyX K H v (.type (tyD d)) := by
  cases h with
  | non => exact .base .non
  | bl b => exact .base (.bl b)
  | int i => exact .base (.int i)
  | str x => exact .base (.str x)
  | lst h _ => exact .base (.lst h)
  | tup h _ => exact .base (.tup h)
  | dic h => exact .base (.dK h)
/-- isinstance(x, T) for a built-in T of data: the answers -/
def isIntD : PyData → Bool
  | .int _ => true
  | .bool _ => true
  | _ => false
def isBoolD : PyData → Bool
  | .bool _ => true
  | _ => false
def isTupD : PyData → Bool
  | .tuple _ => true
  | _ => false
def isLstD : PyData → Bool
  | .list _ => true
  | _ => false
theorem kit_int {K : PySem.W.Frag} (d : PyData) : PySem.W.kitOne K (.type (tyD d)) (.type "int") = some (isIntD d) := kit_ty (by cases d <;> (simp only [tyD, isIntD]; decide +kernel))
theorem kit_bool {K : PySem.W.Frag} (d : PyData) : PySem.W.kitOne K (.type (tyD d)) (.type "bool") = some (isBoolD d) := kit_ty (by cases d <;> (simp only [tyD, isBoolD]; decide +kernel))
theorem kit_tup {K : PySem.W.Frag} (d : PyData) : PySem.W.kitOne K (.type (tyD d)) (.type "tuple") = some (isTupD d) := kit_ty (by cases d <;> (simp only [tyD, isTupD]; decide +kernel))
theorem kit_lst {K : PySem.W.Frag} (d : PyData) : PySem.W.kitOne K (.type (tyD d)) (.type "list") = some (isLstD d) := kit_ty (by cases d <;> (simp only [tyD, isLstD]; decide +kernel))
mutual
theorem Dd.reads {X : Cx} {pins : List (Addr × Obj)} {σ : L2.St} {H : Hp} {s : Shared} (I : Inv X pins σ H s) : ∀ {d : PyData} {v : V} {u : Value}, Dd H v d → RelV v u → ∃ as, Reads s.heap u d as
  | _, _, _, .non, r => by
    cases r
    exact ⟨_, Reads.none⟩
  | _, _, _, .bl b, r => by
    cases r
    exact ⟨_, Reads.bool b⟩
  | _, _, _, .int i, r => by
    obtain ⟨t, rfl⟩ := r
    exact ⟨_, Reads.int i t⟩
  | _, _, _, .str x, r => by
    obtain ⟨t, rfl⟩ := r
    exact ⟨_, Reads.str x t⟩
  | _, _, _, .lst hs ha, r => by
    cases r
    obtain ⟨its, rv, ⟨o, n, ho, hc, _, hd⟩, _⟩ := I.list (.inl (.inl hs))
    obtain ⟨as, hr⟩ := DdAll.reads I ha rv
    exact ⟨_, Reads.list ho hc hd hr⟩
  | _, _, _, .tup hs ha, r => by
    cases r
    obtain ⟨its, rv, ⟨o, ho, hc, n, hd⟩, _⟩ := I.tuple (.inl (.inl hs))
    obtain ⟨as, hr⟩ := DdAll.reads I ha rv
    exact ⟨_, Reads.tuple ho hc hd hr⟩
  | _, _, _, .dic hs, r => by
    cases r
    obtain ⟨_, _, vs, rv, o, es, ep, e1, e2, e3, _, e5, _⟩ := I.hok _ _ hs
    cases rv
    have z : es.toList = [] := by
      cases h : es.toList with
      | nil => rfl
      | cons p q =>
        rw [h] at e5
        cases e5
    exact ⟨_, Reads.dict e1 e2.1 e3 (by rw [z]; exact .nil) (by rw [z]; exact .nil)⟩
theorem DdAll.reads {X : Cx} {pins : List (Addr × Obj)} {σ : L2.St} {H : Hp} {s : Shared} (I : Inv X pins σ H s) : ∀ {ds : List PyData} {vs : List V} {us : List Value}, DdAll H vs ds → Vals vs us → ∃ as, ReadsAll s.heap us ds as
  | _, _, _, .nil, r => by
    cases r
    exact ⟨_, ReadsAll.nil⟩
  | _, _, _, .cons h1 h2, r => by
    cases r with
    | cons r1 r2 =>
      obtain ⟨as, q1⟩ := Dd.reads I h1 r1
      obtain ⟨bs, q2⟩ := DdAll.reads I h2 r2
      exact ⟨_, ReadsAll.cons q1 q2⟩
end
/-- readings over lists by names that are not unfolded by themselves -/
@[irreducible] def rLenK (K : PySem.W.Frag) : List V → Hp → VK → Prop := fun xs H Q => ∃ p ys, xs = [.ref p] ∧ (SqL K H p ys ∨ SqT K H p ys) ∧ Q (.int ys.length) H
theorem call_lenK {X : Cx} : CallR X (.builtin "len") (rLenK X.K) := by
  unfold rLenK
  exact call_len_seq
@[irreducible] def rCatK : R2 := rCat
theorem op_catK {X : Cx} : OpR X (binaryOp .Add) rCatK := by
  unfold rCatK
  exact op_cat
@[irreducible] def rRepK : R2 := rRep
theorem op_repK {X : Cx} : OpR X (binaryOp .Mult) rRepK := by
  unfold rRepK
  exact op_rep
@[irreducible] def rSlK (K : PySem.W.Frag) : V → Option Int → Option Int → Hp → VK → Prop := rSlL K
theorem sl_listK {X : Cx} : SlR X (rSlK X.K) := by
  unfold rSlK
  exact sl_list
@[irreducible] def rIxK (K : PySem.W.Frag) : R2 := rIxL K
theorem ix_listK {X : Cx} : IxR X (rIxK X.K) := by
  unfold rIxK
  exact ix_list
/-- repr of data in a list or tuple, no dict within -/
def rRepr : List V → Hp → VK → Prop := fun xs H Q => ∃ a d, xs = [.ref a] ∧ Dd H (.ref a) d ∧ d.showable = true ∧ d.hasDict = false ∧ d.shown.length ≤ sizeLine ∧ d.depth ≤ 40 ∧ Q (.str d.shown) H
theorem call_repr {X : Cx} (hg : X.A.guards = some []) (hu : X.A.units + 64 < cLine) : CallR X (.builtin "repr") rRepr := by
  intro pins s σ H xs us Q I r h
  obtain ⟨a, d, rfl, hd, hs, hn, hz, hp, q⟩ := h
  obtain ⟨u, rfl, t⟩ := vals1 r
  cases t
  obtain ⟨as, rd⟩ := Dd.reads I hd rfl
  refine repr_of_reads' rd hs (PyData.noDict_hsm hn) hg (by omega) (fun _ _ e => e) (fun h' u tk hk => ⟨.str d.shown, H, I.kept hk, ⟨u, rfl⟩, q⟩) hz
end My
/-! ### defs that write reprs: the same promises where no repr is under way -/
namespace My
open PySem PySem.Spec PyProof.Rows L2
section
variable {P : Program} {w : World} {K : PySem.W.Frag} {mg : Str → Option Value} {base : Heap} {CX : CXT} {k : Nat} {f : Addr} {fd : FuncData} {ps : List Str} {sp : Sp}
/-- a def's promise, asked only where no repr is under way -/
structure FnG (P : Program) (w : World) (K : PySem.W.Frag) (mg : Str → Option Value) (base : Heap) (CX : CXT) (k : Nat) (f : Addr) (fd : FuncData) (ps : List Str) (sp : Sp) : Prop where
  len : ∀ vs H Q E, sp vs H Q E → vs.length = ps.length
  run : ∀ (A : Around) (outer : List Env) (s : Shared) (H : Hp) (args : Args) (us : List Value) (vs : List V) (Q : VK) (E : XK),
    A.guards = some [] → Room k A → Env0 P w K mg base A outer s H → BindsTo s fd args (ps.zip us) → Vals vs us → sp vs H Q E →
    codeAny (model P w) A (.call (.ref f) args) (CR CX outer P w H s Q E) s
theorem FnG.of (F : FnOk P w K mg base CX k f fd ps sp) : FnG P w K mg base CX k f fd ps sp :=
  ⟨F.len, fun A outer s H args us vs Q E _ => F.run A outer s H args us vs Q E⟩
/-- a def by its body, its own frame's guards known -/
theorem okG {x qual : Str} {st : Stmt} {N : List Str} (F : Fun K x qual st f fd) (S : FnScope N ps (defScope st)) (len : ∀ vs H Q E, sp vs H Q E → vs.length = ps.length)
    (body : ∀ (cdv : Value) (A : Around) (outer : List Env) (s : Shared) (H : Hp) (vs : List V) (Q : VK) (E : XK),
      (A.deeper (envOfC qual (defScope st) s.heap.objs.size f cdv)).guards = some [] → Room k (A.deeper (envOfC qual (defScope st) s.heap.objs.size f cdv)) → sp vs H Q E →
      ∃ t, PSs (cxOf CX P w K mg base N qual (defScope st) f cdv A outer s H E).nox (defBody st) t ∧ t { nx := fun _ H' => Q .non H', rt := Q } (start N vs) H) :
    FnG P w K mg base CX (k + 1) f fd ps sp := by
  obtain ⟨oc, od, kV, doc, pm, an, cdv, ct, osl, rfl, lk, hcd⟩ := F.ex
  constructor
  · exact len
  · intro A outer s H args us vs Q E hg hr e0 hb r hsp
    have hl := len _ _ _ _ hsp
    have stays : ∀ b o, base.get? b = some o → s.heap.get? b = some o := fun b o e => (e0.bs b o e).1
    have KX : K.In s.heap := e0.mod.kin.keeps stays
    have lim : s.heap.NoLimit := e0.mod.nolimit.keeps stays
    refine codeAny_call_function hr.depth (KX _ _ lk) rfl S.co S.gen rfl
      (PySem.W.codeRec_of KX hcd) (hb _ _ _ _ ?_)
    refine wpAny_newFunctionEnv_cells S.kind (fun y hy => ?_)
      fun env he s1 x => ?_
    · rcases S.par y.1 (List.of_mem_zip (a := y.1) (b := y.2) hy).1 with q | q
      · exact .inl q
      · exact .inr ⟨q, PySem.W.cellsFrom_some _ _ _ (.inl q)⟩
    · subst he
      refine ⟨lim.keeps x.toInCall.keep, codeAny_func ?_⟩
      obtain ⟨t, hn, hq⟩ := body cdv A outer s H vs Q E (by first | exact hg | (show pushGuards _ A.guards = _; rw [hg]; rfl)) (hr.deeper _) hsp
      have ht := hn.nox
      have I := inv_start (CX := CX) (P := P) (E := E) S hr.hd e0 hl r x
      refine wpAny_mono (ht.run [] s1 (start N vs) H _ I hq)
        (fun fl s' hs => ?_) fun e s' hs => hs
      cases fl with
      | ret u =>
        obtain ⟨v, σ', H', J, rv, q⟩ := hs
        exact ⟨v, H', J.os, J.bare, J.base, J.hok, rv, q⟩
      | next =>
        obtain ⟨σ', H', J, q⟩ := hs
        exact ⟨V.non, H', J.os, J.bare, J.base, J.hok, rfl, q⟩
      | brk =>
        obtain ⟨_, _, _, q⟩ := hs
        exact q.elim
      | cont =>
        obtain ⟨_, _, _, q⟩ := hs
        exact q.elim
end
section
variable {X : Cx} {CX : CXT} {k : Nat} {f : Addr} {fd : FuncData} {ps : List Str} {sp : Sp} {dvs : List V} {ds : List Value} {E : XK} {x : Str} {p pos : Pos} {e : Expr} {es : List Expr} {t : TA}
theorem run_g {pins : List (Addr × Obj)} {σ : L2.St} {H : Hp} {s : Shared} {Q : VK} {us : List Value} {vs : List V}
    (F : FnG X.prog X.w X.K X.mg X.base CX k f fd ps sp) (g : X.A.guards = some []) (hr : Room k X.A) (hb : Binds X.K fd ps ds) (hd : Vals dvs ds) (hx : Passes CX X E)
    (I : Inv X pins σ H s) (r : Vals vs us) (h : sp (vs ++ dvs) H Q E) : wpAny (model X.prog X.w) X.A (call (.ref f) us) (EP X pins σ Q) X.xe s := by
  have r2 : Vals (vs ++ dvs) (us ++ ds) := r.append hd
  have hl : (us ++ ds).length = ps.length := r2.length.symm.trans (F.len _ _ _ _ h)
  have c := F.run X.A X.stack s H ⟨us, []⟩ (us ++ ds) (vs ++ dvs) Q E g hr I.env0 (hb s us I.kIn hl) r2 h
  refine wpAny_call (codeAny_mono c fun r s' hq => ?_)
  match r, hq with
  | .error e, hq => exact hx pins σ H s e s' I hq
  | .ok (.ret u), hq => exact I.after hq
  | .ok .next, hq => exact False.elim hq
  | .ok .brk, hq => exact False.elim hq
  | .ok .cont, hq => exact False.elim hq
theorem pe_callG (F : FnG X.prog X.w X.K X.mg X.base CX k f fd ps sp) (g : X.A.guards = some []) (hr : Room k X.A) (hg : Gl X x) (hm : X.mg x = some (.ref f))
    (hk : PySem.W.keepIn X.K (.ref f) = true) (hb : Binds X.K fd ps ds) (hd : Vals dvs ds) (hx : Passes CX X E) (ha : PA X (e :: es) t)
    (hdb : (x == ("__debug__" : Str)) = false := by decide) (he : starEach (e :: es) X.env = (false, eval e X.env) :: starEach es X.env := by rfl)
    (hpl : (backTo pos (starEach es X.env)).any (·.1) = false := by rfl) : PE X (.Call (.Name x p) (e :: es) [] pos) (tCall sp dvs E t) := by
  constructor
  intro pins s σ H Q I h
  refine wpAny_Call_Name_kw (ld_glob I hg hm ?_ hdb)
  exact PySem.W.callWith_K (h₀ := X.base) I.ok.mod.kin hk
    (thn (ha.run pos pins s σ H _ I h) fun us s1 ⟨vs, H1, I1, r, q⟩ => ⟨I1.kIn, run_g F g hr hb hd hx I1 r q⟩) he hpl
theorem pe_call0G (F : FnG X.prog X.w X.K X.mg X.base CX k f fd ps sp) (g : X.A.guards = some []) (hr : Room k X.A) (hg : Gl X x) (hm : X.mg x = some (.ref f))
    (hk : PySem.W.keepIn X.K (.ref f) = true) (hb : Binds X.K fd ps ds) (hd : Vals dvs ds) (hx : Passes CX X E)
    (hdb : (x == ("__debug__" : Str)) = false := by decide) : PE X (.Call (.Name x p) [] [] pos) (tCall sp dvs E tNil) := by
  constructor
  intro pins s σ H Q I h
  exact wpAny_Call_Name_kw (ld_glob I hg hm (PySem.W.callWith_K0 I.kIn hk (run_g (us := []) F g hr hb hd hx I .nil h)) hdb)
end
/-- the law's call, entered where no repr is under way -/
theorem law_callG {P : Program} {w : World} {K : PySem.W.Frag} {mg mb : Str → Option Value} {k : Nat} {fa a : Addr} {fd : FuncData} {x : Str} {sp : Sp} {s1 : Shared} {vs : List Value} {ns : List Int}
    (KX : K.In s1.heap) (hns : s1.heap.Ns mainGlobals mg) (hb : s1.heap.Ns builtinsNs mb) (hbb : ∀ x : Str, x ≠ "__name__" → mb x = bootBuiltins x) (hlim : s1.heap.NoLimit) (hg : s1.gens = #[])
    (ha : s1.heap.get? a = some { cls := .type "list", data := .seq vs.toArray }) (hi : IntsAre vs ns) (hl : ns.length ≤ sizeLine) (hr : Room k callerA)
    (F : ∀ base : Heap, K.In base → base.Ns mainGlobals mg → FnG P w K mg base CX0 k fa fd [x] sp) (hbind : ∀ (s : Shared) (u : Value), BindsTo s fd ⟨[u], []⟩ [(x, u)])
    (hsp : ∀ H : Hp, Only H → SqL K H a (ns.map V.int) → sp [.ref a] H (fun v _ => v = .bl true) fun _ _ _ => False) :
    codeAny (model P w) callerA (.call (.ref fa) ⟨[.ref a], []⟩) (fun r s' => r = .ok (.ret (.bool true)) ∧ OldK s1.heap s'.heap ∧ s'.os = s1.os ∧ AllBare s'.gens) s1 := by
  have rv := vals_ints hi
  have main : ∀ H : Hp, Only H → SqL K H a (ns.map V.int) → HOk P w H s1.heap → (∀ b, H b ≠ none → b = a ∧ K.lookup a = none) →
      codeAny (model P w) callerA (.call (.ref fa) ⟨[.ref a], []⟩) (fun r s' => r = .ok (.ret (.bool true)) ∧ OldK s1.heap s'.heap ∧ s'.os = s1.os ∧ AllBare s'.gens) s1 := by
    intro H hO hS hok hA
    -- an object that is not the script is no tracked one
    have free : ∀ {b : Addr} {o : Obj}, s1.heap.get? b = some o → (b = a → False) → H b = none := fun {b o} _ n => by
      cases q : H b with
      | none => rfl
      | some u => exact (n (hA b (by rw [q]; exact fun z => nomatch z)).1).elim
    have dict : ∀ {b : Addr} {o : Obj} {es : Array DictEntry} {ep : Nat}, s1.heap.get? b = some o → o.data = .dict es ep → H b = none := fun {b o es ep} e d =>
      free e fun z => by
        subst z
        rw [ha] at e
        cases e
        exact nomatch (show Data.seq vs.toArray _ = Data.dict es ep from d)
    have ns1 : ∀ {b : Addr} {m : Str → Option Value}, s1.heap.Ns b m → (hidT s1.heap H).Ns b m := fun ⟨o, es, ep, e, d, r⟩ =>
      ⟨o, es, ep, hidT_get e (dict e d), d, r⟩
    have kin : K.In (hidT s1.heap H) := fun b o e => hidT_get (KX b o e) (by
      cases q : H b with
      | none => rfl
      | some u =>
        obtain ⟨z, z2⟩ := hA b (by rw [q]; exact fun z => nomatch z)
        subst z
        rw [z2] at e
        cases e)
    obtain ⟨mc, l1, l2⟩ := hlim
    have M : Mod K mg (hidT s1.heap H) := ⟨kin, ns1 hns, ⟨mb, ns1 hb, hbb⟩, ⟨mc, ns1 l1, l2⟩⟩
    have e0 : Env0 P w K mg (hidT s1.heap H) callerA [] s1 H :=
      ⟨rfl, M, fun b o e => of_hidT e, Nat.le_of_eq (hidT_size _ _), trivial, fun b hb => (by cases hb), hok, .of_eq hg⟩
    have c := (F _ kin (ns1 hns)).run callerA [] s1 H ⟨[.ref a], []⟩ [.ref a] [.ref a] _ _ rfl hr e0 (hbind s1 (.ref a)) (.cons rfl .nil) (hsp H hO hS)
    refine codeAny_mono c fun r s' h => ?_
    match r, h with
    | .error e, h => exact False.elim h
    | .ok .next, h => exact False.elim h
    | .ok .brk, h => exact False.elim h
    | .ok .cont, h => exact False.elim h
    | .ok (.ret u), ⟨v, H', os, bare, un, hok', r', q⟩ =>
      cases (show v = V.bl true from q)
      cases (show u = Value.bool true from r')
      refine ⟨rfl, OldK.of_keep fun b o e => ?_, os, bare⟩
      rcases hO b with z | ⟨ob, xs, z⟩
      · exact un.keep b o e z (fun y => (by cases y)) (fun y => (by cases y))
      · have e1 := (hok b _ z).1
        have e2 := (hok' b _ (un.frzs b ob _ z)).1
        rw [e1] at e
        rw [e2, e]
  have len := hi.length
  cases hk : K.lookup a with
  | some o =>
    have e := (KX a o hk).symm.trans ha
    cases e
    exact main (fun _ => none) (fun _ => .inl rfl)
      (.inr ⟨_, vs.toArray, _, hk, rfl, rfl, rfl, by rw [List.size_toArray, len]; exact hl, by simpa using rv⟩)
      (fun b u z => nomatch (show (none : Option HO) = some u from z)) fun b z => (z rfl).elim
  | none =>
    let o : Obj := { cls := .type "list", data := .seq vs.toArray }
    have here : ∀ b u, (if b = a then some (HO.frz o (.lst (ns.map V.int))) else none) = some u → b = a ∧ u = HO.frz o (.lst (ns.map V.int)) := fun b u z => by
      by_cases hb : b = a
      · rw [if_pos hb] at z
        exact ⟨hb, (Option.some.inj z).symm⟩
      · rw [if_neg hb] at z
        cases z
    refine main (fun b => if b = a then some (.frz o (.lst (ns.map V.int))) else none) (fun b => ?_) (.inl (.inr ⟨o, if_pos rfl⟩)) (fun b u z => ?_) fun b z => ?_
    · by_cases hb : b = a
      · exact .inr ⟨_, _, if_pos hb⟩
      · exact .inl (if_neg hb)
    · obtain ⟨rfl, rfl⟩ := here b u z
      exact ⟨ha, by rw [List.length_map]; exact hl, vs, _, rv, ha⟩
    · refine ⟨?_, hk⟩
      by_cases hb : b = a
      · exact hb
      · exact absurd (if_neg hb) z
theorem walkG {l : PySem.W.OpenLaw} {n k : Nat} {q : Program} {loose : List Str} {XP : (Str → Option Value) → Heap → Prop} {YP : World → Heap → Prop} {d : DefRec} {K : Params → PySem.W.Frag} {sp : PySem.W.Frag → Sp} {x : Str}
    (hn : l.most = some n) (hn2 : n ≤ sizeLine) (hdf : d.params.defaults = []) (hr : Room k callerA) (hY : ∀ (w : World) (h : Heap), YP w h → (K w.params).In h)
    (F : ∀ (w : World) (mg : Str → Option Value) (fa : Addr) (h : Heap), (K w.params).In h → h.Ns mainGlobals mg → mg d.name = some (.ref fa) →
      ∃ fd : FuncData, (∀ (s : Shared) (u : Value), BindsTo s fd ⟨[u], []⟩ [(x, u)]) ∧ ∀ base : Heap, (K w.params).In base → base.Ns mainGlobals mg → FnG l.prog w (K w.params) mg base CX0 k fa fd [x] (sp (K w.params)))
    (hsp : ∀ (w : World) (H : Hp) (a : Addr) (ns : List Int), ns.length ≤ n → Only H → SqL (K w.params) H a (ns.map V.int) → sp (K w.params) [.ref a] H (fun v _ => v = .bl true) fun _ _ _ => False) :
    PySem.W.WalkO q loose XP YP l.row.toRowW d [] (fun f vs => PySem.call f vs) := by
  refine Att.attach_call hn hdf fun w s0 s1 mg mb fa o pm cd doc a vs ns G Y ho hd hcd hmg hobj hints hlen hg => ?_
  obtain ⟨fd, hb, hF⟩ := F w mg fa _ (hY w _ Y) G.T.g hmg
  exact law_callG (hY w _ Y) G.T.g G.T.b G.T.builtins G.T.nolimit hg hobj hints (Nat.le_trans hlen hn2) hr hF hb fun H hO hS => hsp w H a ns hlen hO hS
end My
/-! ### the law's source of numbers: a dict of two lists and a count of turns -/
namespace My
open PySem PySem.Spec PyProof.Rows L2
/-- the heap without the source's dict and its list of large numbers: all else that is tracked -/
def hid (s l : Addr) (H : Hp) : Hp := fun b => if b = s ∨ b = l then none else H b
theorem hid_some {s l b : Addr} {H : Hp} {o : HO} (h : hid s l H b = some o) : b ≠ s ∧ b ≠ l ∧ H b = some o := by
  unfold hid at h
  by_cases e : b = s ∨ b = l
  · rw [if_pos e] at h
    cases h
  · rw [if_neg e] at h
    exact ⟨fun z => e (.inl z), fun z => e (.inr z), h⟩
theorem hid_of {s l b : Addr} {H : Hp} {o : HO} (h1 : b ≠ s) (h2 : b ≠ l) (h : H b = some o) : hid s l H b = some o := by
  unfold hid
  rw [if_neg fun z => z.elim h1 h2]
  exact h
theorem hid_same (s l : Addr) (H : Hp) : Same (hid s l H) H := fun _ _ h => (hid_some h).2.2
theorem Dd.out {s l : Addr} {H : Hp} {v : V} {d : PyData} (h : Dd (hid s l H) v d) : Dd H v d := h.mono (hid_same s l H)
/-- the source stands: its dict at s, the large numbers at l, the cells at c, t turns so far -/
structure Src (H : Hp) (s l c : Addr) (t : Int) : Prop where
  d : H s = some (.dK [((.inr ("large" : Str) : Key), .ref l), (.inr ("cells" : Str), .ref c), (.inr ("turn" : Str), .int t)])
  lg : ∃ xs : List Int, H l = some (.lst (xs.map V.int)) ∧ xs.length ≤ 63
  ce : ∃ ys : List Int, H c = some (.lst (ys.map V.int)) ∧ ys ≠ [] ∧ ys.length ≤ 64
  cl : c ≠ l
  t0 : 0 ≤ t
theorem Src.sl {H : Hp} {s l c : Addr} {t : Int} (S : Src H s l c t) : s ≠ l := by
  obtain ⟨xs, e, _⟩ := S.lg
  exact ne_of S.d e (fun z => by cases z)
theorem Src.sc {H : Hp} {s l c : Addr} {t : Int} (S : Src H s l c t) : s ≠ c := by
  obtain ⟨xs, e, _⟩ := S.ce
  exact ne_of S.d e (fun z => by cases z)
theorem Src.new {H : Hp} {s l c p : Addr} {t : Int} {o : HO} (S : Src H s l c t) (h : H p = none) : Src (upd H p o) s l c t := by
  obtain ⟨xs, e, hx⟩ := S.lg
  obtain ⟨ys, e2, hy⟩ := S.ce
  exact ⟨by rw [upd_ne (ne_of_none S.d h)]; exact S.d, ⟨xs, by rw [upd_ne (ne_of_none e h)]; exact e, hx⟩, ⟨ys, by rw [upd_ne (ne_of_none e2 h)]; exact e2, hy⟩, S.cl, S.t0⟩
/-- a new object is seen beside the source -/
theorem Src.hidNew {H : Hp} {s l c p : Addr} {t : Int} {o : HO} (S : Src H s l c t) (h : H p = none) : hid s l (upd H p o) p = some o := by
  obtain ⟨xs, e, _⟩ := S.lg
  exact hid_of (ne_of_none S.d h).symm (ne_of_none e h).symm upd_same
theorem same_new {H : Hp} {p : Addr} {o : HO} (h : H p = none) : Same H (upd H p o) := fun b x e => by
  rw [upd_ne (ne_of_none e h)]
  exact e
theorem hid_mono {s l : Addr} {H H' : Hp} (e : Same H H') : Same (hid s l H) (hid s l H') := fun b o h => by
  obtain ⟨h1, h2, h3⟩ := hid_some h
  exact hid_of h1 h2 (e b o h3)
/-- behind at most n turns of the source: what is tracked beside it is tracked still -/
structure Goes (s l c : Addr) (n : Int) (H H' : Hp) (t t' : Int) : Prop where
  src : Src H' s l c t'
  le : t ≤ t'
  up : t' ≤ t + n
  keep : Same (hid s l H) (hid s l H')
section
variable {H H1 H2 : Hp} {s l c p : Addr} {t t1 t2 m n : Int} {o : HO}
theorem Goes.refl (S : Src H s l c t) : Goes s l c 0 H H t t := ⟨S, Int.le_refl _, by omega, Same.refl _⟩
theorem Goes.trans (a : Goes s l c m H H1 t t1) (b : Goes s l c n H1 H2 t1 t2) : Goes s l c (m + n) H H2 t t2 :=
  ⟨b.src, Int.le_trans a.le b.le, by have := a.up; have := b.up; omega, a.keep.trans b.keep⟩
theorem Goes.wide (a : Goes s l c m H H1 t t1) (h : m ≤ n) : Goes s l c n H H1 t t1 := ⟨a.src, a.le, by have := a.up; omega, a.keep⟩
theorem Goes.new (a : Goes s l c n H H1 t t1) (h : H1 p = none) : Goes s l c n H (upd H1 p o) t t1 :=
  ⟨a.src.new h, a.le, a.up, a.keep.trans (hid_mono (same_new h))⟩
theorem Src.goesNew (S : Src H s l c t) (h : H p = none) : Goes s l c 0 H (upd H p o) t t := (Goes.refl S).new h
theorem Goes.same (a : Goes s l c n H H1 t t1) (e : Same H1 H2) : Goes s l c n H H2 t t1 := by
  obtain ⟨xs, e1, hx⟩ := a.src.lg
  obtain ⟨ys, e2, hy⟩ := a.src.ce
  exact ⟨⟨e _ _ a.src.d, ⟨xs, e _ _ e1, hx⟩, ⟨ys, e _ _ e2, hy⟩, a.src.cl, a.src.t0⟩, a.le, a.up, a.keep.trans (hid_mono e)⟩
theorem Goes.dd {v : V} {d : PyData} (g : Goes s l c n H H1 t t1) (h : Dd (hid s l H) v d) : Dd (hid s l H1) v d := h.mono g.keep
theorem Goes.dds {vs : List V} {ds : List PyData} (g : Goes s l c n H H1 t t1) (h : DdAll (hid s l H) vs ds) : DdAll (hid s l H1) vs ds := h.mono g.keep
end

theorem kLC : ¬ (("large" : Str) = "cells") := by decide +kernel
theorem kLT : ¬ (("large" : Str) = "turn") := by decide +kernel
theorem kCT : ¬ (("cells" : Str) = "turn") := by decide +kernel
theorem inr_ne {a b : Str} (h : ¬ a = b) : ¬ ((Sum.inr a : Key) = Sum.inr b) := fun z => h (Sum.inr.inj z)
section
variable {l c : Addr} {t u : Int}
abbrev srcD (l c : Addr) (t : Int) : List (Key × V) := [((.inr ("large" : Str) : Key), .ref l), (.inr ("cells" : Str), .ref c), (.inr ("turn" : Str), .int t)]
theorem src_large : valV (srcD l c t) (.inr ("large" : Str)) = some (.ref l) := valV_pos rfl
theorem src_cells : valV (srcD l c t) (.inr ("cells" : Str)) = some (.ref c) := by
  unfold valV
  rw [List.find?_cons, decide_eq_false (inr_ne kLC), List.find?_cons, decide_eq_true rfl]
  rfl
theorem src_turn : valV (srcD l c t) (.inr ("turn" : Str)) = some (.int t) := by
  unfold valV
  rw [List.find?_cons, decide_eq_false (inr_ne kLT), List.find?_cons, decide_eq_false (inr_ne kCT), List.find?_cons, decide_eq_true rfl]
  rfl
theorem src_put : putK (srcD l c t) (.inr ("turn" : Str)) (.int u) = srcD l c u := by
  unfold putK
  have h : ((srcD l c t).any fun kv => decide (kv.1 = (.inr ("turn" : Str) : Key))) = true := by
    rw [List.any_cons, List.any_cons, List.any_cons, decide_eq_true (p := (Sum.inr ("turn" : Str) : Key) = Sum.inr ("turn" : Str)) rfl]
    simp
  rw [if_pos h, List.map_cons, List.map_cons, List.map_cons, if_neg (inr_ne kLT), if_neg (inr_ne kCT), if_pos rfl]
  rfl
end
theorem Src.getL {H : Hp} {s l c : Addr} {t : Int} (S : Src H s l c t) : DGet H s (.str "large") (some (.ref l)) := by
  have h := DGet.k (k := (.inr ("large" : Str) : Key)) S.d
  rw [src_large] at h
  exact h
theorem Src.getC {H : Hp} {s l c : Addr} {t : Int} (S : Src H s l c t) : DGet H s (.str "cells") (some (.ref c)) := by
  have h := DGet.k (k := (.inr ("cells" : Str) : Key)) S.d
  rw [src_cells] at h
  exact h
theorem Src.getT {H : Hp} {s l c : Addr} {t : Int} (S : Src H s l c t) : DGet H s (.str "turn") (some (.int t)) := by
  have h := DGet.k (k := (.inr ("turn" : Str) : Key)) S.d
  rw [src_turn] at h
  exact h
theorem Src.put {H : Hp} {s l c : Addr} {t u : Int} (S : Src H s l c t) : DPut H s (.str "turn") (.int u) (upd H s (.dK (srcD l c u))) := by
  have h := DPut.k (k := (.inr ("turn" : Str) : Key)) (v := .int u) S.d (by show 3 < sizeLine; decide)
  rw [src_put] at h
  exact h
/-- the turn stored -/
theorem Src.turned {H : Hp} {s l c : Addr} {t : Int} (S : Src H s l c t) : Goes s l c 1 H (upd H s (.dK (srcD l c (t + 1)))) t (t + 1) := by
  obtain ⟨xs, e, hx⟩ := S.lg
  obtain ⟨ys, e2, hy⟩ := S.ce
  refine ⟨⟨upd_same, ⟨xs, by rw [upd_ne S.sl.symm]; exact e, hx⟩, ⟨ys, by rw [upd_ne S.sc.symm]; exact e2, hy⟩, S.cl, by have := S.t0; omega⟩, by omega, by omega, fun b o hb => ?_⟩
  obtain ⟨h1, h2, h3⟩ := hid_some hb
  exact hid_of h1 h2 (by rw [upd_ne h1]; exact h3)
/-- the large numbers stored -/
theorem Src.stored {H : Hp} {s l c : Addr} {t : Int} (S : Src H s l c t) (zs : List Int) (hz : zs.length ≤ 63) : Goes s l c 0 H (upd H l (.lst (zs.map V.int))) t t := by
  obtain ⟨ys, e2, hy⟩ := S.ce
  refine ⟨⟨by rw [upd_ne S.sl]; exact S.d, ⟨zs, upd_same, hz⟩, ⟨ys, by rw [upd_ne S.cl]; exact e2, hy⟩, S.cl, S.t0⟩, Int.le_refl _, by omega, fun b o hb => ?_⟩
  obtain ⟨h1, h2, h3⟩ := hid_some hb
  exact hid_of h1 h2 (by rw [upd_ne h2]; exact h3)
/-! lists of ints as data -/
def intsD (xs : List Int) : PyData := .list (xs.map PyData.int)
theorem dp_ints {K : PySem.W.Frag} {H : Hp} {a : Addr} : ∀ {xs : List Int}, DpAll K H (xs.map V.int) (xs.map PyData.int)
  | [] => .nil
  | x :: xs => .cons (.int x) (dp_ints (xs := xs) (a := a))
theorem lay_ints : ∀ xs : List Int, PyData.canLayAll0 (xs.map PyData.int) = true
  | [] => by simp [PyData.canLayAll0]
  | x :: xs => by simp [PyData.canLayAll0, PyData.canLay0, lay_ints xs]
theorem depth_ints : ∀ xs : List Int, PyData.depthAll (xs.map PyData.int) ≤ 1
  | [] => by simp [PyData.depthAll]
  | x :: xs => by
    have := depth_ints xs
    simp only [List.map_cons, PyData.depthAll, PyData.depth]
    omega
theorem shaped_ints (xs : List Int) : SeqAt.shaped (intsD xs) = true := by
  unfold SeqAt.shaped intsD
  have h := depth_ints xs
  have e : PyData.depth (.list (xs.map PyData.int)) ≤ 64 := by
    simp only [PyData.depth]
    omega
  rw [Bool.and_eq_true]
  exact ⟨by simp only [PyData.canLay0, lay_ints], decide_eq_true e⟩
theorem eqv_nil (x : Int) (xs : List Int) : PyData.eqv (intsD (x :: xs)) (intsD []) = false := by
  simp [intsD, PyData.eqv, PyData.eqvAll]
theorem eqv_nil0 : PyData.eqv (intsD []) (intsD []) = true := by
  simp [intsD, PyData.eqv, PyData.eqvAll]
/-- xs != [] of a list of ints, the empty list new -/
theorem ne_nil {K : PySem.W.Frag} {H : Hp} {a p : Addr} {xs : List Int} {Q : VK} (h : H a = some (.lst (xs.map V.int))) (hp : H p = some (.lst [])) (q : Q (.bl (!decide (xs = []))) H) : rNeD K (.ref a) (.ref p) H Q := by
  refine ⟨intsD xs, intsD [], .lst (SqL.of h) (dp_ints (a := a)), .lst (SqL.of hp) .nil, shaped_ints xs, shaped_ints [], ?_⟩
  cases xs with
  | nil =>
    rw [eqv_nil0]
    exact q
  | cons x r =>
    rw [eqv_nil]
    exact q
end My
/-! ### what the three defs of every law's source promise -/
namespace My
open PySem PySem.Spec PyProof.Rows L2
def sp_l_source (K : PySem.W.Frag) : Sp := fun vs H Q _ => ∃ (a : Addr) (ns : List Int), vs = [.ref a] ∧ SqL K H a (ns.map V.int) ∧ ns.length ≤ 63 ∧
  ∀ (H' : Hp) (s l c : Addr), Src H' s l c 0 → Same H (hid s l H') → Q (.ref s) H'
def sp_l_below : Sp := fun vs H Q _ => ∃ (s l c : Addr) (t many : Int), vs = [.ref s, .int many] ∧ Src H s l c t ∧ t < 2 ^ 40 ∧ 0 < many ∧ many < 2 ^ 64 ∧
  ∀ (H' : Hp) (r t' : Int), Goes s l c 1 H H' t t' → 0 ≤ r → r < many → Q (.int r) H'
def sp_l_pick : Sp := fun vs H Q _ => ∃ (s l c p : Addr) (t : Int) (xs : List V), vs = [.ref s, .ref p] ∧ Src H s l c t ∧ t < 2 ^ 40 ∧ hid s l H p = some (.lst xs) ∧ 0 < xs.length ∧ xs.length ≤ 1000 ∧
  ∀ (H' : Hp) (i : Nat) (v : V) (t' : Int), Goes s l c 1 H H' t t' → xs[i]? = some v → Q v H'
theorem get_ints {xs : List Int} {i : Nat} {v : V} (h : (xs.map V.int)[i]? = some v) : ∃ z, xs[i]? = some z ∧ v = V.int z := by
  rw [List.getElem?_map] at h
  cases e : xs[i]? with
  | none =>
    rw [e] at h
    cases h
  | some z =>
    rw [e] at h
    exact ⟨z, rfl, (Option.some.inj h).symm⟩
theorem log_of {n : Int} {k : Nat} (h0 : 0 < n) (h : n < 2 ^ k) (hk : 0 < k) (h9 : k ≤ 9000) (m : Int) : CDivW m n := by
  refine wide_div h0 (b := k) ?_ hk h9
  have e : ((2 ^ k : Nat) : Int) = (2 : Int) ^ k := by simp
  omega
end My
namespace My
open PySem PySem.Spec PyProof.Rows L2
theorem putK_out {kvs : List (Key × V)} {k : Key} {v : V} (h : ∀ p ∈ kvs, ¬ p.1 = k) : putK kvs k v = kvs ++ [(k, v)] := by
  unfold putK
  have e : (kvs.any fun kv => decide (kv.1 = k)) = false := by
    rw [List.any_eq_false]
    intro p hp
    simpa using h p hp
  rw [if_neg (by rw [e]; exact Bool.false_ne_true)]
theorem src_merge {l c : Addr} {t : Int} : mergeK [] (srcD l c t) = srcD l c t := by
  unfold mergeK
  rw [List.foldl_cons, List.foldl_cons, List.foldl_cons, List.foldl_nil, putK_out (kvs := []) (fun _ h => by cases h)]
  rw [putK_out (k := (.inr ("cells" : Str) : Key)) (fun p h => ?_), putK_out (k := (.inr ("turn" : Str) : Key)) (fun p h => ?_)]
  · rfl
  · rcases List.mem_append.mp h with h | h
    · rcases List.mem_append.mp h with h | h
      · cases h
      · rw [List.mem_singleton.mp h]
        exact inr_ne kLT
    · rw [List.mem_singleton.mp h]
      exact inr_ne kCT
  · rcases List.mem_append.mp h with h | h
    · cases h
    · rw [List.mem_singleton.mp h]
      exact inr_ne kLC
end My
namespace My
open PySem PySem.Spec PyProof.Rows L2
theorem ixN_nat {n j : Nat} (h : j < n) : ixN n (j : Int) = some j := by
  unfold ixN
  rw [if_pos (by omega), if_pos (by omega), Int.toNat_natCast]
theorem ixN_zero {n : Nat} (h : 0 < n) : ixN n 0 = some 0 := ixN_nat (j := 0) h
end My
namespace My
open PySem PySem.Spec PyProof.Rows L2
theorem seq_zero {n : Nat} (h : 0 < n) : seqIndex? 0 n = some 0 := by
  unfold seqIndex?
  simp
  omega
end My
/-! ### new data beside the source -/
namespace My
open PySem PySem.Spec PyProof.Rows L2
/-- one step of building: the source as it was, what stood stands, one more value -/
structure More (s l c : Addr) (H H1 : Hp) (t : Int) (vs : List V) (ds : List PyData) : Prop where
  src : Src H1 s l c t
  keep : Same (hid s l H) (hid s l H1)
  all : DdAll (hid s l H1) vs ds
section
variable {H H1 H2 : Hp} {s l c p : Addr} {t : Int} {vs xs : List V} {ds es : List PyData} {v : V} {d : PyData}
theorem More.start (S : Src H s l c t) : More s l c H H t [] [] := ⟨S, Same.refl _, .nil⟩
theorem More.new {o : HO} (m : More s l c H H1 t vs ds) (h : H1 p = none) : More s l c H (upd H1 p o) t vs ds :=
  ⟨m.src.new h, m.keep.trans (hid_mono (same_new h)), m.all.mono (hid_mono (same_new h))⟩
theorem More.add (m : More s l c H H1 t vs ds) (h : Dd (hid s l H1) v d) : More s l c H H1 t (v :: vs) (d :: ds) := ⟨m.src, m.keep, .cons h m.all⟩
/-- a new tuple, list, dict -/
theorem More.tup (m : More s l c H H1 t vs ds) (h : H1 p = none) (hx : DdAll (hid s l H1) xs es) : More s l c H (upd H1 p (.tup xs)) t (.ref p :: vs) (.tuple es :: ds) :=
  (m.new h).add (.tup (m.src.hidNew h) (hx.mono (hid_mono (same_new h))))
theorem More.lst (m : More s l c H H1 t vs ds) (h : H1 p = none) (hx : DdAll (hid s l H1) xs es) : More s l c H (upd H1 p (.lst xs)) t (.ref p :: vs) (.list es :: ds) :=
  (m.new h).add (.lst (m.src.hidNew h) (hx.mono (hid_mono (same_new h))))
theorem More.dic (m : More s l c H H1 t vs ds) (h : H1 p = none) : More s l c H (upd H1 p (.dK [])) t (.ref p :: vs) (.dict [] :: ds) := (m.new h).add (.dic (m.src.hidNew h))
theorem More.goes (m : More s l c H H1 t vs ds) : Goes s l c 0 H H1 t t := ⟨m.src, Int.le_refl _, by omega, m.keep⟩
theorem More.hd (m : More s l c H H1 t (v :: vs) (d :: ds)) : Dd (hid s l H1) v d := by
  cases m.all with
  | cons h _ => exact h
theorem More.tl (m : More s l c H H1 t (v :: vs) (d :: ds)) : More s l c H H1 t vs ds := by
  cases m.all with
  | cons _ h => exact ⟨m.src, m.keep, h⟩
/-- the same where the heap behind has a name -/
theorem More.tupE (m : More s l c H H1 t vs ds) (h : H1 p = none) (e : upd H1 p (.tup xs) = H2) (hx : DdAll (hid s l H1) xs es) : More s l c H H2 t (.ref p :: vs) (.tuple es :: ds) := e ▸ m.tup h hx
theorem More.lstE (m : More s l c H H1 t vs ds) (h : H1 p = none) (e : upd H1 p (.lst xs) = H2) (hx : DdAll (hid s l H1) xs es) : More s l c H H2 t (.ref p :: vs) (.list es :: ds) := e ▸ m.lst h hx
/-- the list that a data list stands for -/
theorem Dd.list {G : Hp} {a : Addr} (h : Dd G (.ref a) (.list ds)) : ∃ xs, G a = some (.lst xs) ∧ DdAll G xs ds := by
  cases h with
  | lst h1 h2 => exact ⟨_, h1, h2⟩
theorem Dd.tuple {G : Hp} {a : Addr} (h : Dd G (.ref a) (.tuple ds)) : ∃ xs, G a = some (.tup xs) ∧ DdAll G xs ds := by
  cases h with
  | tup h1 h2 => exact ⟨_, h1, h2⟩
end
def oddL : List PyData := [.none, .bool true, .bool false, .int (-16), .int 0, .int 1, .int 8, .int 16, .int 17, .int 281474976710656, .int 281474976710672,
  .int 1000000000000000000000000000000000000000, .str "", .str "16", .tuple [], .list [], .dict [], .tuple [.int 0],
  .list [.int 0, .int 16], .tuple [.int 0, .int 16], .tuple [.int 0, .int 16, .int 0], .tuple [.int 16, .int 32], .tuple [.bool true, .int 16], .tuple [.int 0, .bool true],
  .tuple [.str "0", .int 16], .tuple [.tuple [.int 0, .int 16]], .list [.tuple [.int 0, .int 16]], .tuple [.none, .none]]
def sp_l_odd : Sp := fun vs H Q _ => ∃ (s l c : Addr) (t : Int), vs = [.ref s] ∧ Src H s l c t ∧ t < 2 ^ 40 ∧
  ∀ (H' : Hp) (v : V) (d : PyData) (t' : Int), Goes s l c 1 H H' t t' → Dd (hid s l H') v d → d ∈ oddL → Q v H'
end My
/-! ### sizes and blocks as data -/
namespace My
open PySem PySem.Spec PyProof.Rows L2
def withinD : PyData → Int → Int → Bool
  | .int i, lo, hi => decide (lo ≤ i) && decide (i ≤ hi)
  | _, _, _ => false
def sizeD : PyData → Bool
  | .int i => (decide (16 ≤ i) && decide (i ≤ 281474976710656)) && decide (Builtin.bitAnd i (i - 1) = 0)
  | _ => false
def blockD : PyData → Bool
  | .tuple [.int i, .int j] => sizeD (.int j) && (withinD (.int i) 0 281474976710655 && decide (i % j = 0))
  | _ => false
def sp_q_is_within : Sp := fun vs H Q _ => ∃ (v : V) (d : PyData) (lo hi : Int), vs = [v, .int lo, .int hi] ∧ Dd H v d ∧ Q (.bl (withinD d lo hi)) H
def sp_q_is_size : Sp := fun vs H Q _ => ∃ (v : V) (d : PyData), vs = [v] ∧ Dd H v d ∧ Q (.bl (sizeD d)) H
def sp_q_is_block : Sp := fun vs H Q _ => ∃ (v : V) (d : PyData), vs = [v] ∧ Dd H v d ∧ Q (.bl (blockD d)) H
/-- a size by the law's own look: one of 45 powers -/
def sizeDue : PyData → Bool
  | .int i => (List.range 45).any fun k => decide (16 * 2 ^ k = i)
  | _ => false
def intD : PyData → Bool
  | .int _ => true
  | _ => false
def blockDue : PyData → Bool
  | .tuple [.int i, .int j] => sizeDue (.int j) && (decide (0 ≤ i) && (decide (i % j = 0) && decide (i + j ≤ 281474976710656)))
  | _ => false
theorem int_two {i : Int} (h : 0 ≤ i) : ∃ n : Nat, i = n := ⟨i.toNat, by omega⟩
theorem and_pred_pow (k : Nat) : (2 ^ k) &&& (2 ^ k - 1) = 0 := by
  rw [Nat.and_two_pow_sub_one_eq_mod]
  exact Nat.mod_self _
/-- n and n - 1 have no bit in common: n is a power of two -/
theorem pow_of_and : ∀ n : Nat, 0 < n → n &&& (n - 1) = 0 → ∃ k, n = 2 ^ k := by
  intro n
  induction n using Nat.strongRecOn with
  | ind n ih =>
    intro h0 h
    by_cases h1 : n = 1
    · exact ⟨0, by rw [h1]⟩
    rcases Nat.mod_two_eq_zero_or_one n with e | e
    · -- even
      have hd : 0 < n / 2 := by omega
      have h2 : (n / 2) &&& (n / 2 - 1) = 0 := by
        have q : (n &&& (n - 1)) / 2 = (n / 2) &&& ((n - 1) / 2) := Nat.and_div_two
        have r : (n - 1) / 2 = n / 2 - 1 := by omega
        rw [← r, ← q, h]
      obtain ⟨k, hk⟩ := ih (n / 2) (by omega) hd h2
      refine ⟨k + 1, ?_⟩
      rw [Nat.pow_succ, ← hk]
      omega
    · -- odd, above 1: n and n - 1 share a bit
      have q : (n &&& (n - 1)) / 2 = (n / 2) &&& ((n - 1) / 2) := Nat.and_div_two
      have r : (n - 1) / 2 = n / 2 := by omega
      rw [h, r, Nat.and_self] at q
      omega
theorem bit_nat (n : Nat) (h : 0 < n) : Builtin.bitAnd (n : Int) ((n : Int) - 1) = ((n &&& (n - 1) : Nat) : Int) := by
  have e : ((n : Int) - 1) = ((n - 1 : Nat) : Int) := by omega
  rw [e]
  rfl
theorem size_same (d : PyData) : sizeD d = sizeDue d := by
  cases d with
  | int i =>
    show ((decide (16 ≤ i) && decide (i ≤ 281474976710656)) && decide (Builtin.bitAnd i (i - 1) = 0)) = (List.range 45).any fun k => decide (16 * 2 ^ k = i)
    by_cases h : 16 ≤ i ∧ i ≤ 281474976710656 ∧ Builtin.bitAnd i (i - 1) = 0
    · obtain ⟨h1, h2, h3⟩ := h
      rw [decide_eq_true h1, decide_eq_true h2, decide_eq_true h3]
      obtain ⟨n, rfl⟩ := int_two (show 0 ≤ i by omega)
      rw [bit_nat n (by omega)] at h3
      obtain ⟨k, hk⟩ := pow_of_and n (by omega) (by omega)
      subst hk
      have k4 : 4 ≤ k := by
        refine Nat.le_of_not_lt fun q => ?_
        have : 2 ^ k ≤ 2 ^ 3 := Nat.pow_le_pow_right (by decide) (by omega)
        omega
      have k48 : k ≤ 48 := by
        refine Nat.le_of_not_lt fun q => ?_
        have : 2 ^ 49 ≤ 2 ^ k := Nat.pow_le_pow_right (by decide) (by omega)
        omega
      symm
      show _ = true
      rw [List.any_eq_true]
      refine ⟨k - 4, List.mem_range.mpr (by omega), decide_eq_true ?_⟩
      have e : k = 4 + (k - 4) := by omega
      rw [e, Nat.pow_add]
      have e2 : 4 + (k - 4) - 4 = k - 4 := by omega
      rw [e2]
      simp
    · have hf : ((decide (16 ≤ i) && decide (i ≤ 281474976710656)) && decide (Builtin.bitAnd i (i - 1) = 0)) = false := by
        rw [Bool.eq_false_iff]
        intro q
        simp only [Bool.and_eq_true, decide_eq_true_eq] at q
        exact h ⟨q.1.1, q.1.2, q.2⟩
      rw [hf]
      symm
      rw [List.any_eq_false]
      intro k hk q
      have hk := List.mem_range.mp hk
      have q := of_decide_eq_true q
      refine h ?_
      have e : i = ((2 ^ (k + 4) : Nat) : Int) := by
        rw [← q, Nat.pow_add]
        simp
        omega
      have b1 : 2 ^ 4 ≤ 2 ^ (k + 4) := Nat.pow_le_pow_right (by decide) (by omega)
      have b2 : 2 ^ (k + 4) ≤ 2 ^ 48 := Nat.pow_le_pow_right (by decide) (by omega)
      rw [e]
      refine ⟨by omega, by omega, ?_⟩
      rw [bit_nat _ (by omega), and_pred_pow]
      rfl
  | _ => rfl
theorem block_same (d : PyData) : blockD d = blockDue d := by
  unfold blockD blockDue
  split
  · rename_i i j
    rw [size_same]
    by_cases h : sizeDue (.int j) = true
    · rw [h]
      have h2 : sizeD (.int j) = true := by rw [size_same]; exact h
      have h3 : 16 ≤ j ∧ j ≤ 281474976710656 := by
        have q : ((decide (16 ≤ j) && decide (j ≤ 281474976710656)) && decide (Builtin.bitAnd j (j - 1) = 0)) = true := h2
        simp only [Bool.and_eq_true, decide_eq_true_eq] at q
        exact q.1
      obtain ⟨k, hk, e⟩ : ∃ k, k < 45 ∧ (16 * 2 ^ k : Int) = j := by
        have q : ((List.range 45).any fun k => decide (16 * 2 ^ k = j)) = true := h
        obtain ⟨k, h1, h2⟩ := List.any_eq_true.mp q
        exact ⟨k, List.mem_range.mp h1, of_decide_eq_true h2⟩
      -- the size divides all addresses
      have hd : (281474976710656 : Int) % j = 0 := by
        have e3 : (281474976710656 : Int) = j * 2 ^ (44 - k) := by
          rw [← e, Int.mul_assoc, ← Int.pow_add, show k + (44 - k) = 44 by omega]
          decide
        rw [e3]
        exact Int.mul_emod_right _ _
      show (true && ((decide (0 ≤ i) && decide (i ≤ 281474976710655)) && decide (i % j = 0))) = (true && (decide (0 ≤ i) && (decide (i % j = 0) && decide (i + j ≤ 281474976710656))))
      rw [Bool.eq_iff_iff]
      simp only [Bool.true_and, Bool.and_eq_true, decide_eq_true_eq]
      constructor
      · rintro ⟨⟨a, b⟩, c⟩
        refine ⟨a, c, ?_⟩
        obtain ⟨x, hx⟩ := Int.dvd_of_emod_eq_zero c
        obtain ⟨y, hy⟩ := Int.dvd_of_emod_eq_zero hd
        have : x < y := by
          refine Int.lt_of_not_ge fun q => ?_
          have : j * y ≤ j * x := Int.mul_le_mul_of_nonneg_left q (by omega)
          omega
        have : j * (x + 1) ≤ j * y := Int.mul_le_mul_of_nonneg_left (by omega) (by omega)
        rw [Int.mul_add] at this
        omega
      · rintro ⟨a, b, c⟩
        exact ⟨⟨a, by omega⟩, b⟩
    · have h := Bool.eq_false_iff.mpr h
      rw [h, Bool.false_and, Bool.false_and]
  · rfl
end My
namespace My
open PySem PySem.Spec PyProof.Rows L2
def sp_l_is_int : Sp := fun vs H Q _ => ∃ (v : V) (d : PyData), vs = [v] ∧ Dd H v d ∧ Q (.bl (intD d)) H
def sp_l_size_due : Sp := fun vs H Q _ => ∃ (v : V) (d : PyData), vs = [v] ∧ Dd H v d ∧ ∀ H', Same H H' → Q (.bl (sizeDue d)) H'
def sp_l_block_due : Sp := fun vs H Q _ => ∃ (v : V) (d : PyData), vs = [v] ∧ Dd H v d ∧ ∀ H', Same H H' → Q (.bl (blockDue d)) H'
/-- a drawn value of any kind -/
def spDraw (n : Int) : Sp := fun vs H Q _ => ∃ (s l c : Addr) (t : Int), vs = [.ref s] ∧ Src H s l c t ∧ t + n < 2 ^ 40 ∧
  ∀ (H' : Hp) (v : V) (d : PyData) (t' : Int), Goes s l c n H H' t t' → Dd (hid s l H') v d → Q v H'
abbrev sp_l_pair : Sp := spDraw 6
abbrev sp_l_number : Sp := spDraw 3
theorem all_ints {xs : List V} {i : Nat} {v : V} (h : ∀ x ∈ xs, ∃ z, x = V.int z) (e : xs[i]? = some v) : ∃ z, v = V.int z := h v (List.mem_of_getElem? e)
theorem pow_bounds {r : Int} (h0 : 0 ≤ r) (h1 : r < 45) : 16 ≤ (16 : Int) * 2 ^ r.toNat ∧ (16 : Int) * 2 ^ r.toNat ≤ 281474976710656 := by
  have a : 2 ^ 0 ≤ 2 ^ r.toNat := Nat.pow_le_pow_right (by decide) (by omega)
  have b : 2 ^ r.toNat ≤ 2 ^ 44 := Nat.pow_le_pow_right (by decide) (by omega)
  have e : ((2 ^ r.toNat : Nat) : Int) = (2 : Int) ^ r.toNat := by simp
  rw [← e]
  omega
end My
/-! ### data of tuples alone; the marks of a room and the blocks by the law's own walk -/
namespace My
open PySem PySem.Spec PyProof.Rows L2
mutual
def tupOnly : PyData → Bool
  | .list _ => false
  | .dict _ => false
  | .tuple ds => tupOnlyAll ds
  | _ => true
def tupOnlyAll : List PyData → Bool
  | [] => true
  | d :: ds => tupOnly d && tupOnlyAll ds
end
def Tups (H H' : Hp) : Prop := ∀ a xs, H a = some (.tup xs) → H' a = some (.tup xs)
mutual
theorem Dd.tups {H H' : Hp} (e : Tups H H') : ∀ {d : PyData} {v : V}, tupOnly d = true → Dd H v d → Dd H' v d
  | _, _, _, .non => .non
  | _, _, _, .bl b => .bl b
  | _, _, _, .int i => .int i
  | _, _, _, .str x => .str x
  | _, _, z, .lst _ _ => by simp [tupOnly] at z
  | _, _, z, .tup h a => .tup (e _ _ h) (DdAll.tups e (by simpa [tupOnly] using z) a)
  | _, _, z, .dic _ => by simp [tupOnly] at z
theorem DdAll.tups {H H' : Hp} (e : Tups H H') : ∀ {ds : List PyData} {vs : List V}, tupOnlyAll ds = true → DdAll H vs ds → DdAll H' vs ds
  | _, _, _, .nil => .nil
  | _, _, z, .cons h t => .cons (Dd.tups e (by simp [tupOnlyAll] at z; exact z.1) h) (DdAll.tups e (by simp [tupOnlyAll] at z; exact z.2) t)
end
theorem Src.tups {H : Hp} {s l c : Addr} {t : Int} (S : Src H s l c t) : Tups H (hid s l H) := fun a xs h => by
  obtain ⟨ys, e, _⟩ := S.lg
  exact hid_of (ne_of h S.d (fun z => by cases z)) (ne_of h e (fun z => by cases z)) h
theorem tups_upd {H : Hp} {p : Addr} {xs : List V} {o : HO} (h : H p = some (.lst xs)) : Tups H (upd H p o) := fun a ys e => by
  rw [upd_ne (ne_of e h (fun z => by cases z))]
  exact e
theorem Same.tups {H H' : Hp} (e : Same H H') : Tups H H' := fun a xs h => e a _ h
theorem Tups.trans {H H1 H2 : Hp} (a : Tups H H1) (b : Tups H1 H2) : Tups H H2 := fun x xs h => b x xs (a x xs h)
theorem Src.ne {H : Hp} {s l c p : Addr} {t : Int} (S : Src H s l c t) (h : H p = none) : p ≠ s ∧ p ≠ l ∧ p ≠ c := by
  obtain ⟨ys, e, _⟩ := S.lg
  obtain ⟨zs, e2, _⟩ := S.ce
  exact ⟨(ne_of_none S.d h).symm, (ne_of_none e h).symm, (ne_of_none e2 h).symm⟩
/-- an object of one's own is changed -/
theorem Goes.mut {H H2 : Hp} {s l c p : Addr} {t t2 n : Int} {o : HO} (S : Src H s l c t) (g : Goes s l c n H H2 t t2) (h : H p = none) : Goes s l c n H (upd H2 p o) t t2 := by
  obtain ⟨n1, n2, n3⟩ := S.ne h
  obtain ⟨ys, e, hy⟩ := g.src.lg
  obtain ⟨zs, e2, hz⟩ := g.src.ce
  refine ⟨⟨by rw [upd_ne n1.symm]; exact g.src.d, ⟨ys, by rw [upd_ne n2.symm]; exact e, hy⟩, ⟨zs, by rw [upd_ne n3.symm]; exact e2, hz⟩, g.src.cl, g.src.t0⟩, g.le, g.up, fun b u hb => ?_⟩
  have q := g.keep b u hb
  obtain ⟨h1, h2, h3⟩ := hid_some q
  have hbp : b ≠ p := ne_of_none (hid_some hb).2.2 h
  exact hid_of h1 h2 (by rw [upd_ne hbp]; exact h3)
theorem Src.hidUpd {H : Hp} {s l c p : Addr} {t : Int} {o : HO} (S : Src H s l c t) {H' : Hp} (h : H p = none) : hid s l (upd H' p o) p = some o := by
  obtain ⟨n1, n2, _⟩ := S.ne h
  exact hid_of n1 n2 upd_same

/-! the law's own walk through marks -/
def fits (bs : List Bool) (spot w : Nat) : Bool := decide (spot % w = 0) && !((bs.drop spot).take w).contains false
def widthM (bs : List Bool) (spot : Nat) (w : Nat) : Nat :=
  if h : w ≤ 1 then w else if fits bs spot w = true then w else widthM bs spot (w / 2)
termination_by w
decreasing_by omega
theorem widthM_eq (bs : List Bool) (spot w : Nat) : widthM bs spot w = if w ≤ 1 then w else if fits bs spot w = true then w else widthM bs spot (w / 2) := by
  rw [widthM]
  split <;> rfl
theorem widthM_pos (bs : List Bool) (spot : Nat) : ∀ w, 0 < w → 0 < widthM bs spot w := by
  intro w
  induction w using Nat.strongRecOn with
  | ind w ih =>
    intro h
    rw [widthM_eq]
    split
    · exact h
    · split
      · exact h
      · exact ih (w / 2) (by omega) (by omega)
theorem widthM_le (bs : List Bool) (spot : Nat) : ∀ w, widthM bs spot w ≤ w := by
  intro w
  induction w using Nat.strongRecOn with
  | ind w ih =>
    rw [widthM_eq]
    split
    · exact Nat.le_refl _
    · split
      · exact Nat.le_refl _
      · exact Nat.le_trans (ih (w / 2) (by omega)) (Nat.div_le_self _ _)
/-- the blocks from a spot on: spot and width of each -/
def roomM (bs : List Bool) (spot : Nat) : List (Nat × Nat) :=
  if h : spot < bs.length then
    (if bs[spot] = true then [(spot, widthM bs spot bs.length)] else []) ++ roomM bs (spot + widthM bs spot bs.length)
  else []
termination_by bs.length - spot
decreasing_by
  have := widthM_pos bs spot bs.length (by omega)
  omega
theorem roomM_lt {bs : List Bool} {spot : Nat} (h : spot < bs.length) : roomM bs spot = (if bs[spot] = true then [(spot, widthM bs spot bs.length)] else []) ++ roomM bs (spot + widthM bs spot bs.length) := by
  rw [roomM, dif_pos h]
theorem roomM_ge {bs : List Bool} {spot : Nat} (h : bs.length ≤ spot) : roomM bs spot = [] := by
  rw [roomM, dif_neg (by omega)]
theorem roomM_len (bs : List Bool) : ∀ n spot, bs.length - spot = n → (roomM bs spot).length ≤ n := by
  intro n
  induction n using Nat.strongRecOn with
  | ind n ih =>
    intro spot hn
    by_cases h : spot < bs.length
    · have hw := widthM_pos bs spot bs.length (by omega)
      rw [roomM_lt h, List.length_append]
      have := ih (bs.length - (spot + widthM bs spot bs.length)) (by omega) _ rfl
      have : (if bs[spot] = true then [(spot, widthM bs spot bs.length)] else []).length ≤ 1 := by split <;> simp
      omega
    · rw [roomM_ge (by omega)]
      exact Nat.zero_le _
/-- blocks as data -/
def blkD (unit first : Int) (b : Nat × Nat) : PyData := .tuple [.int (first + b.1 * unit), .int (b.2 * unit)]
def blksD (unit first : Int) (bs : List (Nat × Nat)) : List PyData := bs.map (blkD unit first)
theorem tup_blks (unit first : Int) : ∀ bs, tupOnlyAll (blksD unit first bs) = true
  | [] => by simp [blksD, tupOnlyAll]
  | b :: bs => by
    have := tup_blks unit first bs
    simp [blksD, tupOnlyAll, blkD, tupOnly] at this ⊢
    exact this
theorem in_bools (bs : List Bool) : inV (.bl false) (bs.map V.bl) = bs.contains false := by
  unfold inV
  induction bs with
  | nil => rfl
  | cons b bs ih =>
    rw [List.map_cons, List.any_cons, ih, List.contains_cons]
    cases b <;> rfl
theorem flat_bools (bs : List Bool) : (bs.map V.bl).all flatV = true := by
  rw [List.all_eq_true]
  intro x hx
  obtain ⟨b, _, rfl⟩ := List.mem_map.mp hx
  rfl
theorem cut_bools (bs : List Bool) (i w : Nat) : cutV (bs.map V.bl) (some (i : Int)) (some ((i : Int) + (w : Int))) = ((bs.drop i).take w).map V.bl := by
  have e : ((i : Int) + (w : Int)) = ((i + w : Nat) : Int) := by omega
  rw [e]
  unfold cutV
  rw [HT.sIx_nat, HT.sIx_nat, List.map_take, List.map_drop]
  rw [show (bs.map V.bl).length = bs.length from List.length_map _]
  by_cases h : i ≤ bs.length
  · rw [Nat.min_eq_left h]
    by_cases h2 : i + w ≤ bs.length
    · rw [Nat.min_eq_left h2, Nat.add_sub_cancel_left]
    · rw [Nat.min_eq_right (by omega)]
      rw [List.take_of_length_le, List.take_of_length_le]
      · rw [List.length_drop, List.length_map]
        omega
      · rw [List.length_drop, List.length_map]
        omega
  · rw [Nat.min_eq_right (show bs.length ≤ i by omega), List.drop_of_length_le (by rw [List.length_map]; exact Nat.le_refl _), List.drop_of_length_le (by rw [List.length_map]; omega)]
    simp
def sp_l_world : Sp := fun vs H Q _ => ∃ (s l c : Addr) (t : Int), vs = [.ref s] ∧ Src H s l c t ∧ t + 3 < 2 ^ 40 ∧
  ∀ (H' : Hp) (v : V) (t' : Int) (k : Nat) (m : Int), Goes s l c 3 H H' t t' → k ≤ 38 → 0 ≤ m → m < 2 ^ (38 - k) →
    Dd (hid s l H') v (.tuple [.int (16 * 2 ^ k), .int (m * 64 * (16 * 2 ^ k))]) → Q v H'
def sp_l_marks : Sp := fun vs H Q _ => ∃ (s l c : Addr) (t : Int) (n : Nat), vs = [.ref s, .int n] ∧ Src H s l c t ∧ t + (n + 30) < 2 ^ 40 ∧ 0 < n ∧ n ≤ 1000 ∧
  ∀ (H' : Hp) (p : Addr) (t' : Int) (bs : List Bool), Goes s l c (n + 30) H H' t t' → H p = none → hid s l H' p = some (.lst (bs.map V.bl)) → bs.length = n → Q (.ref p) H'
def sp_l_room (K : PySem.W.Frag) : Sp := fun vs H Q _ => ∃ (p : Addr) (bs : List Bool) (unit first : Int), vs = [.ref p, .int unit, .int first] ∧ H p = some (.lst (bs.map V.bl)) ∧ 0 < bs.length ∧ bs.length ≤ 1000 ∧
  ∀ (H' : Hp) (v : V), Same H H' → Dd H' v (.tuple (blksD unit first (roomM bs 0))) → Q v H'
end My
/-! ### what is wrong with a room, as data -/
namespace My
open PySem PySem.Spec PyProof.Rows L2
theorem DdAll.getD {H : Hp} : ∀ {vs : List V} {ds : List PyData} {i : Nat} {d : PyData}, DdAll H vs ds → ds[i]? = some d → ∃ v, vs[i]? = some v ∧ Dd H v d
  | _, _, _, _, .nil, e => by simp at e
  | _, _, 0, _, .cons h _, e => by
    simp at e
    subst e
    exact ⟨_, rfl, h⟩
  | _, _, i + 1, d, .cons _ t, e => by
    obtain ⟨v, h1, h2⟩ := DdAll.getD (i := i) (d := d) t (by simpa using e)
    exact ⟨v, by simpa using h1, h2⟩
theorem block_shape {d : PyData} (h : blockD d = true) : ∃ i j : Int, d = .tuple [.int i, .int j] ∧ 16 ≤ j ∧ j ≤ 281474976710656 ∧ 0 ≤ i ∧ i ≤ 281474976710655 ∧ i % j = 0 := by
  unfold blockD at h
  split at h
  · rename_i i j
    have h1 : ((decide (16 ≤ j) && decide (j ≤ 281474976710656)) && decide (Builtin.bitAnd j (j - 1) = 0)) = true := (Bool.and_eq_true_iff.mp h).1
    have h2 : ((decide (0 ≤ i) && decide (i ≤ 281474976710655)) && decide (i % j = 0)) = true := (Bool.and_eq_true_iff.mp h).2
    simp only [Bool.and_eq_true, decide_eq_true_eq] at h1 h2
    exact ⟨i, j, rfl, h1.1.1, h1.1.2, h2.1.1, h2.1.2, h2.2⟩
  · cases h
/-- a pair of ints in the heap -/
theorem Dd.pair {H : Hp} {v : V} {i j : Int} (h : Dd H v (.tuple [.int i, .int j])) : ∃ a, v = .ref a ∧ H a = some (.tup [.int i, .int j]) := by
  cases h with
  | tup h1 h2 =>
    cases h2 with
    | cons a h2 =>
      cases a
      cases h2 with
      | cons b h2 =>
        cases b
        cases h2
        exact ⟨_, rfl, h1⟩
def pairWord (b z i j : Int) : Option Str :=
  if i < b + z then some "order" else if j = z ∧ i = b + j ∧ b % (2 * j) = 0 then some "halves" else none
def wordD (prev : Option PyData) (d : PyData) : Option Str :=
  if blockD d = true then
    match prev, d with
    | some (.tuple [.int b, .int z]), .tuple [.int i, .int j] => pairWord b z i j
    | _, _ => none
  else some "block"
def firstErr : Nat → Option PyData → List PyData → PyData
  | _, _, [] => .none
  | i, prev, d :: r => match wordD prev d with
    | some w => .tuple [.int i, .str w]
    | none => firstErr (i + 1) (some d) r
def roomErrD : PyData → PyData
  | .tuple ds => if 128 < ds.length then .tuple [.none, .str "room"] else firstErr 0 none ds
  | _ => .tuple [.none, .str "room"]
def wordV : Option Str → V
  | none => .non
  | some w => .str w
def prevAt (ds : List PyData) (i : Nat) : Option PyData := if i = 0 then none else ds[i - 1]?
theorem first_step {ds : List PyData} {i : Nat} {d : PyData} (h : ds[i]? = some d) : firstErr i (prevAt ds i) (ds.drop i) = match wordD (prevAt ds i) d with
    | some w => .tuple [.int i, .str w]
    | none => firstErr (i + 1) (prevAt ds (i + 1)) (ds.drop (i + 1)) := by
  obtain ⟨hi, e⟩ := List.getElem?_eq_some_iff.mp h
  rw [List.drop_eq_getElem_cons hi, e]
  have ep : prevAt ds (i + 1) = some d := by
    unfold prevAt
    rw [if_neg (Nat.succ_ne_zero i), Nat.add_sub_cancel, h]
  rw [ep]
  rfl
theorem word_block {prev : Option PyData} {d : PyData} (h : wordD prev d = none) : blockD d = true := by
  unfold wordD at h
  split at h
  · assumption
  · cases h
/-- the halves by both looks -/
theorem halves_same {b z i j : Int} (hz : 0 < z) (hb : b % z = 0) : (j = z ∧ i = b + j ∧ b % (2 * j) = 0) ↔ (j = z ∧ b + z = i ∧ b / z % 2 = 0) := by
  constructor
  · rintro ⟨rfl, rfl, h⟩
    refine ⟨rfl, rfl, ?_⟩
    obtain ⟨q, rfl⟩ := Int.dvd_of_emod_eq_zero hb
    rw [Int.mul_comm 2 j, Int.mul_emod_mul_of_pos _ _ hz] at h
    rw [Int.mul_ediv_cancel_left _ (by omega)]
    rcases Int.mul_eq_zero.mp h with z | z
    · omega
    · exact z
  · rintro ⟨rfl, rfl, h⟩
    refine ⟨rfl, rfl, ?_⟩
    obtain ⟨q, rfl⟩ := Int.dvd_of_emod_eq_zero hb
    rw [Int.mul_ediv_cancel_left _ (by omega)] at h
    rw [Int.mul_comm 2 j, Int.mul_emod_mul_of_pos _ _ hz, h, Int.mul_zero]
def sp_p_item_error : Sp := fun vs H Q _ => ∃ (v : V) (ds : List PyData) (i : Nat) (d : PyData), vs = [v, .int i] ∧ Dd H v (.tuple ds) ∧ ds[i]? = some d ∧ (0 < i → ∃ b, ds[i - 1]? = some b ∧ blockD b = true) ∧
  Q (wordV (wordD (prevAt ds i) d)) H
def sp_q_room_error : Sp := fun vs H Q _ => ∃ (v : V) (d : PyData), vs = [v] ∧ Dd H v d ∧ (∀ ds, d = .tuple ds → ds.length ≤ 1000) ∧ ∀ (H' : Hp) (r : V), Same H H' → Dd H' r (roomErrD d) → Q r H'
abbrev sp_l_due1 : Sp := sp_q_room_error
def sp_l_is_block : Sp := fun vs H Q _ => ∃ (v : V) (d : PyData), vs = [v] ∧ Dd H v d ∧ ∀ H', Same H H' → Q (.bl (blockD d)) H'
/-- xs == [] of a list of ints, the empty list new -/
theorem eq_nil {K : PySem.W.Frag} {H : Hp} {a p : Addr} {xs : List Int} {Q : VK} (h : H a = some (.lst (xs.map V.int))) (hp : H p = some (.lst [])) (q : Q (.bl (decide (xs = []))) H) : rEqD K (.ref a) (.ref p) H Q := by
  refine ⟨intsD xs, intsD [], .lst (SqL.of h) (dp_ints (a := a)), .lst (SqL.of hp) .nil, shaped_ints xs, shaped_ints [], ?_⟩
  cases xs with
  | nil =>
    rw [eqv_nil0]
    exact q
  | cons x r =>
    rw [eqv_nil]
    exact q
end My
namespace My
open PySem PySem.Spec PyProof.Rows L2
theorem DdAll.take {H : Hp} : ∀ {vs : List V} {ds : List PyData} (n : Nat), DdAll H vs ds → DdAll H (vs.take n) (ds.take n)
  | _, _, 0, _ => .nil
  | _, _, _ + 1, .nil => .nil
  | _, _, n + 1, .cons h t => .cons h (DdAll.take n t)
theorem DdAll.drop {H : Hp} : ∀ {vs : List V} {ds : List PyData} (n : Nat), DdAll H vs ds → DdAll H (vs.drop n) (ds.drop n)
  | _, _, 0, h => h
  | _, _, _ + 1, .nil => .nil
  | _, _, n + 1, .cons _ t => DdAll.drop n t
theorem DdAll.rev {H : Hp} : ∀ {vs : List V} {ds : List PyData}, DdAll H vs ds → DdAll H vs.reverse ds.reverse
  | _, _, .nil => .nil
  | _, _, .cons h t => by
    rw [List.reverse_cons, List.reverse_cons]
    exact (DdAll.rev t).append (.cons h .nil)
/-- a slice of data -/
def cutD (ds : List PyData) (lo hi : Option Int) : List PyData := (ds.drop (HT.sIx ds.length 0 lo)).take (HT.sIx ds.length ds.length hi - HT.sIx ds.length 0 lo)
theorem DdAll.cut {H : Hp} {vs : List V} {ds : List PyData} (h : DdAll H vs ds) (lo hi : Option Int) : DdAll H (cutV vs lo hi) (cutD ds lo hi) := by
  unfold cutV cutD
  rw [h.length]
  exact (h.drop _).take _
theorem cutD_to (ds : List PyData) (n : Nat) : (cutD ds none (some (n : Int))).length ≤ n := by
  unfold cutD
  rw [HT.sIx_nat, HT.sIx_none, List.length_take, List.drop_zero]
  omega
theorem cutD_from (ds : List PyData) (n : Nat) : (cutD ds (some (n : Int)) none).length ≤ ds.length - n := by
  unfold cutD
  rw [HT.sIx_nat, HT.sIx_none, List.length_take, List.length_drop]
  omega
theorem cutD_one (ds : List PyData) (n : Nat) : (cutD ds (some (n : Int)) (some ((n : Int) + 1))).length ≤ 1 := by
  unfold cutD
  rw [show ((n : Int) + 1) = ((n + 1 : Nat) : Int) by omega, HT.sIx_nat, HT.sIx_nat, List.length_take]
  omega
section
variable {K : PySem.W.Frag} {G H : Hp} {a b : Addr} {ds es : List PyData} {Q : VK}
theorem Dd.sql (h : Dd H (.ref a) (.list ds)) : ∃ xs, SqL K H a xs ∧ H a = some (.lst xs) ∧ DdAll H xs ds := by
  cases h with
  | lst h1 h2 => exact ⟨_, SqL.of h1, h1, h2⟩
/-- readings over lists of data -/
theorem rd_len (e : Same G H) (h : Dd G (.ref a) (.list ds)) (q : Q (.int ds.length) H) : rLenK K [.ref a] H Q := by
  unfold rLenK
  obtain ⟨xs, h1, _, h3⟩ := (h.mono e).sql (K := K)
  refine ⟨a, xs, rfl, .inl h1, ?_⟩
  rw [h3.length]
  exact q
theorem rd_cat (e : Same G H) (ha : Dd G (.ref a) (.list ds)) (hb : Dd G (.ref b) (.list es)) (hz : ds.length + es.length ≤ 1000)
    (q : ∀ p xs, H p = none → DdAll G xs (ds ++ es) → Q (.ref p) (upd H p (.lst xs))) : rCatK (.ref a) (.ref b) H Q := by
  unfold rCatK
  cases ha with
  | lst h1 h2 =>
    cases hb with
    | lst h3 h4 =>
      refine ⟨a, b, _, _, rfl, rfl, e _ _ h1, e _ _ h3, ?_, fun p np => q p _ np (h2.append h4)⟩
      rw [h2.length, h4.length]
      exact Nat.le_of_lt (small1000 hz)
theorem rd_slice {lo hi : Option Int} (e : Same G H) (ha : Dd G (.ref a) (.list ds)) (q : ∀ p xs, H p = none → DdAll G xs (cutD ds lo hi) → Q (.ref p) (upd H p (.lst xs))) : rSlK K (.ref a) lo hi H Q := by
  unfold rSlK
  cases ha with
  | lst h1 h2 => exact ⟨a, _, rfl, SqL.of (e _ _ h1), fun p np => q p _ np (h2.cut lo hi)⟩
theorem rd_item {i : Int} {j : Nat} {d : PyData} (e : Same G H) (ha : Dd G (.ref a) (.list ds)) (hi : i = j) (hd : ds[j]? = some d) (q : ∀ v, Dd G v d → Q v H) : rIxK K (.ref a) (.int i) H Q := by
  unfold rIxK
  cases ha with
  | lst h1 h2 =>
    obtain ⟨v, hv, dv⟩ := h2.getD hd
    exact ⟨a, _, i, v, rfl, rfl, SqL.of (e _ _ h1), at_of hi hv, q v dv⟩
theorem rd_twice (e : Same G H) (ha : Dd G (.ref a) (.list ds)) (hz : ds.length ≤ 400) (q : ∀ p xs, H p = none → DdAll G xs (ds ++ ds) → Q (.ref p) (upd H p (.lst xs))) : rRepK (.ref a) (.int 2) H Q := by
  unfold rRepK
  cases ha with
  | @lst _ xs _ h1 h2 =>
    have l := h2.length
    refine ⟨a, 2, _, rfl, rfl, e _ _ h1, by decide, by decide, (by show xs.length * 2 ≤ sizeLine; exact Nat.le_of_lt (small1000 (by omega))), fun p np => ?_⟩
    have e2 : (List.replicate (2 : Int).toNat xs).flatten = xs ++ xs := by
      show xs ++ (xs ++ []) = xs ++ xs
      rw [List.append_nil]
    rw [e2]
    exact q p _ np (h2.append h2)
end
theorem More.call {H H1 H2 : Hp} {s l c : Addr} {t t2 n : Int} {vs : List V} {ds : List PyData} (m : More s l c H H1 t vs ds) (g : Goes s l c n H1 H2 t t2) : More s l c H H2 t2 vs ds :=
  ⟨g.src, m.keep.trans g.keep, g.dds m.all⟩
/-- what a room's error looks like -/
def errForms : List PyData := (.none : PyData) :: .tuple [.none, .str "room"] :: (List.range 129).flatMap fun (i : Nat) => [.tuple [.int (i : Int), .str "block"], .tuple [.int (i : Int), .str "order"], .tuple [.int (i : Int), .str "halves"]]
theorem word_forms {prev : Option PyData} {d : PyData} {w : Str} (h : wordD prev d = some w) : w = "block" ∨ w = "order" ∨ w = "halves" := by
  unfold wordD at h
  split at h
  · split at h
    · unfold pairWord at h
      split at h
      · exact .inr (.inl (Option.some.inj h).symm)
      · split at h
        · exact .inr (.inr (Option.some.inj h).symm)
        · cases h
    · cases h
  · exact .inl (Option.some.inj h).symm
theorem first_forms : ∀ (ds : List PyData) (i : Nat) (prev : Option PyData), i + ds.length ≤ 129 → firstErr i prev ds ∈ errForms
  | [], _, _, _ => List.mem_cons_self
  | d :: r, i, prev, h => by
    show (match wordD prev d with
      | some w => PyData.tuple [.int i, .str w]
      | none => firstErr (i + 1) (some d) r) ∈ errForms
    cases e : wordD prev d with
    | none => exact first_forms r (i + 1) (some d) (by rw [List.length_cons] at h; omega)
    | some w =>
      refine List.mem_cons_of_mem _ (List.mem_cons_of_mem _ (List.mem_flatMap.mpr ⟨i, List.mem_range.mpr (by rw [List.length_cons] at h; omega), ?_⟩))
      rcases word_forms e with rfl | rfl | rfl <;> simp
theorem err_forms (d : PyData) : roomErrD d ∈ errForms := by
  have bad : PyData.tuple [.none, .str "room"] ∈ errForms := List.mem_cons_of_mem _ List.mem_cons_self
  cases d with
  | tuple ds =>
    show (if 128 < ds.length then PyData.tuple [.none, .str "room"] else firstErr 0 none ds) ∈ errForms
    split
    · exact bad
    · exact first_forms ds 0 none (by omega)
  | _ => exact bad
theorem two_errs : ∀ e ∈ errForms, (PyData.list [e, e]).shown.length ≤ sizeLine ∧ (PyData.list [e, e]).showable = true ∧ (PyData.list [e, e]).hasDict = false ∧ (PyData.list [e, e]).depth ≤ 40 := by decide +kernel
/-- a list drawn and bent -/
def sp_l_bent : Sp := fun vs H Q _ => ∃ (s l c p : Addr) (t : Int) (ds : List PyData), vs = [.ref s, .ref p] ∧ Src H s l c t ∧ t + 4 < 2 ^ 40 ∧ Dd (hid s l H) (.ref p) (.list ds) ∧ ds.length ≤ 300 ∧
  ∀ (H' : Hp) (r : Addr) (t' : Int) (es : List PyData), Src H' s l c t' → t' ≤ t + 4 → Same (hid s l H) (hid s l H') → Dd (hid s l H') (.ref r) (.list es) → es.length ≤ ds.length + 1 → Q (.ref r) H'
end My
/-! ### the greatest blocks of a stretch, as numbers -/
namespace My
open PySem PySem.Spec PyProof.Rows L2
def lowbit (n : Nat) : Nat := n - (n &&& (n - 1))
theorem and_even {a b : Nat} (h : a % 2 = 0 ∨ b % 2 = 0) : (a &&& b) % 2 = 0 := by
  have e : (a &&& b).testBit 0 = (a.testBit 0 && b.testBit 0) := Nat.testBit_and a b 0
  rw [Nat.testBit_zero, Nat.testBit_zero, Nat.testBit_zero] at e
  rcases Nat.mod_two_eq_zero_or_one (a &&& b) with z | z
  · exact z
  · rw [z] at e
    rcases h with h | h
    · rw [h] at e
      simp at e
    · rw [h] at e
      simp at e
theorem lowbit_odd {n : Nat} (h : n % 2 = 1) : lowbit n = 1 := by
  unfold lowbit
  have e := Nat.and_div_two (a := n) (b := n - 1)
  have z := and_even (a := n) (b := n - 1) (.inr (by omega))
  have r : (n - 1) / 2 = n / 2 := by omega
  rw [r, Nat.and_self] at e
  omega
theorem lowbit_even {n : Nat} (h0 : 0 < n) (h : n % 2 = 0) : lowbit n = 2 * lowbit (n / 2) := by
  unfold lowbit
  have e := Nat.and_div_two (a := n) (b := n - 1)
  have z := and_even (a := n) (b := n - 1) (.inl h)
  have r : (n - 1) / 2 = n / 2 - 1 := by omega
  rw [r] at e
  have l : n / 2 &&& (n / 2 - 1) ≤ n / 2 := Nat.and_le_left
  omega
/-- the lowest bit of a number is the greatest power of two that divides it -/
theorem lowbit_spec : ∀ n : Nat, 0 < n → ∃ k, lowbit n = 2 ^ k ∧ n % 2 ^ k = 0 ∧ n % 2 ^ (k + 1) ≠ 0 := by
  intro n
  induction n using Nat.strongRecOn with
  | ind n ih =>
    intro h0
    rcases Nat.mod_two_eq_zero_or_one n with e | e
    · obtain ⟨k, h1, h2, h3⟩ := ih (n / 2) (by omega) (by omega)
      refine ⟨k + 1, by rw [lowbit_even h0 e, h1, Nat.pow_succ, Nat.mul_comm], ?_, ?_⟩
      · have q : n = 2 * (n / 2) := by omega
        rw [q, Nat.pow_succ, Nat.mul_comm (2 ^ k) 2, Nat.mul_mod_mul_left, h2]
      · have q : n = 2 * (n / 2) := by omega
        rw [q, Nat.pow_succ, Nat.mul_comm (2 ^ (k + 1)) 2, Nat.mul_mod_mul_left]
        omega
    · refine ⟨0, by rw [lowbit_odd e], Nat.mod_one n, ?_⟩
      show n % 2 ^ 1 ≠ 0
      omega
def alignedN (s : Nat) : Nat := if 0 < s then lowbit s else 2 ^ 48
def fittingN (r : Nat) : Nat := 2 ^ r.log2
def sizeN (s e : Nat) : Nat := if fittingN (e - s) < alignedN s then fittingN (e - s) else alignedN s
theorem aligned_pow (s : Nat) : ∃ k, alignedN s = 2 ^ k ∧ s % 2 ^ k = 0 ∧ (0 < s → s % 2 ^ (k + 1) ≠ 0) ∧ (s = 0 → k = 48) := by
  unfold alignedN
  by_cases h : 0 < s
  · rw [if_pos h]
    obtain ⟨k, h1, h2, h3⟩ := lowbit_spec s h
    exact ⟨k, h1, h2, fun _ => h3, fun z => by omega⟩
  · rw [if_neg h]
    have z : s = 0 := by omega
    exact ⟨48, rfl, by rw [z], fun q => absurd q h, fun _ => rfl⟩
theorem aligned_pos (s : Nat) : 0 < alignedN s := by
  obtain ⟨k, h, _⟩ := aligned_pow s
  rw [h]
  exact Nat.two_pow_pos k
theorem fitting_pos (r : Nat) : 0 < fittingN r := Nat.two_pow_pos _
theorem fitting_le {r : Nat} (h : 0 < r) : fittingN r ≤ r := Nat.log2_self_le (by omega)
theorem fitting_lt {r : Nat} (h : 0 < r) : r < 2 * fittingN r := by
  unfold fittingN
  have := Nat.lt_log2_self (n := r)
  rw [Nat.pow_succ] at this
  omega
theorem size_pos (s e : Nat) : 0 < sizeN s e := by
  unfold sizeN
  split
  · exact fitting_pos _
  · exact aligned_pos s
theorem size_le {s e : Nat} (h : s < e) : s + sizeN s e ≤ e := by
  have h1 := fitting_le (r := e - s) (by omega)
  unfold sizeN
  split <;> omega
theorem size_le_aligned (s e : Nat) : sizeN s e ≤ alignedN s := by
  unfold sizeN
  split <;> omega
/-- the blocks -/
def greatM (s e : Nat) : List (Nat × Nat) := if h : s < e then (s, sizeN s e) :: greatM (s + sizeN s e) e else []
termination_by e - s
decreasing_by
  have := size_pos s e
  omega
theorem greatM_lt {s e : Nat} (h : s < e) : greatM s e = (s, sizeN s e) :: greatM (s + sizeN s e) e := by
  rw [greatM, dif_pos h]
theorem greatM_ge {s e : Nat} (h : e ≤ s) : greatM s e = [] := by
  rw [greatM, dif_neg (by omega)]
theorem mod_pow_le {s a b : Nat} (h : s % 2 ^ a = 0) (hb : b ≤ a) : s % 2 ^ b = 0 :=
  Nat.mod_eq_zero_of_dvd (Nat.dvd_trans (Nat.pow_dvd_pow 2 hb) (Nat.dvd_of_mod_eq_zero h))
theorem aligned_ge {s r : Nat} (h : s % 2 ^ r = 0) (hs : 0 < s) : 2 ^ r ≤ alignedN s := by
  obtain ⟨k, h1, h2, h3, h4⟩ := aligned_pow s
  rw [h1]
  refine Nat.pow_le_pow_right (by decide) (Nat.le_of_not_lt fun q => h3 hs (mod_pow_le h (by omega)))
theorem fitting_log {r n : Nat} (h0 : 0 < r) (h : r < 2 ^ n) : r.log2 < n := by
  refine Nat.lt_of_not_le fun q => ?_
  have h1 := Nat.log2_self_le (n := r) (by omega)
  have h2 : 2 ^ n ≤ 2 ^ r.log2 := Nat.pow_le_pow_right (by decide) q
  omega
/-- behind the first fitting block all others fit alone: as many as the rest has bits at most -/
theorem great_tail : ∀ (r : Nat) (s e : Nat), e ≤ 2 ^ 48 → e - s < 2 ^ r → s % 2 ^ r = 0 → (greatM s e).length ≤ r := by
  intro r
  induction r using Nat.strongRecOn with
  | ind r ih =>
    intro s e he h hs
    by_cases hlt : s < e
    · rw [greatM_lt hlt, List.length_cons]
      have hf := fitting_le (r := e - s) (by omega)
      have hsz : sizeN s e = fittingN (e - s) := by
        unfold sizeN
        split
        · rfl
        · rename_i hn
          by_cases z : 0 < s
          · have := aligned_ge hs z
            omega
          · have e0 : alignedN s = 2 ^ 48 := by
              unfold alignedN
              rw [if_neg z]
            omega
      have hj := fitting_log (r := e - s) (by omega) h
      have hl := fitting_lt (r := e - s) (by omega)
      rw [hsz]
      have := ih _ hj (s + fittingN (e - s)) e he (by unfold fittingN at *; omega) (by
        unfold fittingN
        rw [Nat.add_mod_right]
        exact mod_pow_le hs (by omega))
      omega
    · rw [greatM_ge (by omega)]
      exact Nat.zero_le _
theorem great_len_aux : ∀ (n : Nat) (s e : Nat), n ≤ 48 → e ≤ 2 ^ 48 → s % 2 ^ (48 - n) = 0 → (greatM s e).length ≤ n + 49 := by
  intro n
  induction n with
  | zero =>
    intro s e _ he hs
    by_cases h : e - s < 2 ^ 48
    · have := great_tail 48 s e he h hs
      omega
    · have z : s = 0 := by omega
      have z2 : e = 2 ^ 48 := by omega
      subst z z2
      rw [greatM_lt (by decide), greatM_ge]
      · decide
      · have h1 : alignedN 0 = 2 ^ 48 := rfl
        have h2 : fittingN (2 ^ 48 - 0) = 2 ^ 48 := by
          unfold fittingN
          rw [Nat.sub_zero, Nat.log2_two_pow]
        unfold sizeN
        rw [h1, h2]
        decide
  | succ n ih =>
    intro s e hn he hs
    by_cases h : s % 2 ^ (48 - n) = 0
    · have := ih s e (by omega) he h
      omega
    · have h0 : 0 < s := by
        refine Nat.pos_of_ne_zero fun z => h ?_
        rw [z]
        exact Nat.zero_mod _
      by_cases hlt : s < e
      · rw [greatM_lt hlt, List.length_cons]
        obtain ⟨k, h1, h2, h3, h4⟩ := aligned_pow s
        have hk : k = 48 - (n + 1) := by
          have a1 : 48 - (n + 1) ≤ k := Nat.le_of_not_lt fun q => h3 h0 (mod_pow_le hs (by omega))
          have a2 : k < 48 - n := Nat.lt_of_not_le fun q => h (mod_pow_le h2 q)
          omega
        unfold sizeN
        split
        · rename_i hf
          rw [h1] at hf
          have hl := fitting_lt (r := e - s) (by omega)
          have hj : (e - s).log2 < k := by
            refine Nat.lt_of_not_le fun q => ?_
            have : 2 ^ k ≤ 2 ^ (e - s).log2 := Nat.pow_le_pow_right (by decide) q
            unfold fittingN at hf
            omega
          have := great_tail (e - s).log2 (s + fittingN (e - s)) e he (by unfold fittingN at *; omega) (by
            unfold fittingN
            rw [Nat.add_mod_right]
            exact mod_pow_le h2 (by omega))
          omega
        · rw [h1]
          have := ih (s + 2 ^ k) e (by omega) he (by
            have e1 : 48 - n = k + 1 := by omega
            rw [e1]
            -- an odd multiple of the power, and one more
            obtain ⟨q, hq⟩ := Nat.dvd_of_mod_eq_zero h2
            have hq2 : q % 2 = 1 := by
              rcases Nat.mod_two_eq_zero_or_one q with z | z
              · refine absurd ?_ (h3 h0)
                obtain ⟨m, hm⟩ := Nat.dvd_of_mod_eq_zero z
                rw [hq, hm, Nat.pow_succ, ← Nat.mul_assoc]
                exact Nat.mul_mod_right _ _
              · exact z
            have e2 : s + 2 ^ k = 2 ^ k * (q + 1) := by
              rw [Nat.mul_add, Nat.mul_one, ← hq]
            obtain ⟨m, hm⟩ : ∃ m, q + 1 = 2 * m := ⟨(q + 1) / 2, by omega⟩
            rw [e2, hm, Nat.pow_succ, ← Nat.mul_assoc]
            exact Nat.mul_mod_right _ _)
          omega
      · rw [greatM_ge (by omega)]
        exact Nat.zero_le _
theorem great_len (s e : Nat) (he : e ≤ 2 ^ 48) : (greatM s e).length ≤ 97 := great_len_aux 48 s e (Nat.le_refl _) he (Nat.mod_one s)
/-- the program's own reckoning of the size -/
theorem and_neg {n : Nat} (h : 0 < n) : Builtin.bitAnd (n : Int) (-(n : Int)) = (lowbit n : Int) := by
  unfold Builtin.bitAnd
  have h1 : decide ((0 : Int) ≤ (n : Int)) = true := decide_eq_true (by omega)
  have h2 : decide ((0 : Int) ≤ -(n : Int)) = false := decide_eq_false (by omega)
  rw [h1, h2]
  have h3 : (Builtin.bitNot (-(n : Int))).toNat = n - 1 := by
    unfold Builtin.bitNot
    omega
  show (n : Int) - (((n : Int).toNat &&& (Builtin.bitNot (-(n : Int))).toNat : Nat) : Int) = _
  rw [h3, Int.toNat_natCast]
  unfold lowbit
  have := Nat.and_le_left (n := n) (m := n - 1)
  omega
theorem bits_nat {r : Nat} (h : 0 < r) : Builtin.Int.intBits (r : Int) = r.log2 + 1 := by
  unfold Builtin.Int.intBits
  rw [if_neg]
  · rfl
  · intro z
    have z := beq_iff_eq.mp z
    omega
end My
/-! ### sorted of pairs of ints, out of a list or a tuple -/
namespace My
open PySem PySem.Spec PyProof.Rows L2
section
variable {prog : Program} {w : World} {A : Around} {E : Value → Shared → Prop} {s : Shared}
/-- the items of a list or tuple, collected into a new list at the heap's end -/
theorem collect_at {l : Addr} {o : Obj} {n0 : Nat} {T : String} {vs : List Value} {Q : List Value → Shared → Prop} (hT : T = "list" ∨ T = "tuple") (ho : s.heap.get? l = some o) (hc : o.cls = .type T) (hd : o.data = .seq vs.toArray n0) (hz : vs.length ≤ sizeLine)
    (q : Q vs { s with heap := (s.heap.push (seqObj "list" #[] 0)).update s.heap.objs.size (Obj.mapSeq (· ++ vs.toArray)) }) : wpAny (model prog w) A (collect (.ref l)) Q E s := by
  unfold collect
  refine wpAny_bind (wpAny_runValue (codeAny_builtin entry_proto_collect' ?_))
  refine wpAny_bind (wpAny_newList (wpAny_pure ⟨Code.quiet_builtin _ (by decide +kernel), codeAny_builtin entry_list_iadd' ?_⟩))
  have hl1 : (s.heap.push (seqObj "list" #[] 0)).get? l = some o := Heap.get?_push_of_some _ ho
  have hs1 : (s.heap.push (seqObj "list" #[] 0)).get? s.heap.objs.size = some (seqObj "list" #[] 0) := Heap.get?_push_size _ rfl
  show wpAny _ _ (Builtin.List.listExtendWith (.ref s.heap.objs.size) (.ref l) (.ref s.heap.objs.size)) _ _ { s with heap := s.heap.push (seqObj "list" #[] 0) }
  unfold Builtin.List.listExtendWith
  refine wpAny_bind (wpAny_typeOf (T := T) ⟨o, hl1, hc⟩ ?_)
  have ht : (Value.type T == Value.type "list" || Value.type T == Value.type "tuple") = true := by
    rcases hT with e | e
    · subst e
      rfl
    · subst e
      rfl
  rw [if_pos (by rw [Bool.or_assoc, ht]; simp)]
  refine wpAny_bind (listItems_at hl1 hd (wpAny_bind (listItems_at (xs := #[]) (n := 0) hs1 rfl ?_)))
  rw [if_neg (by simp)]
  refine wpAny_bind (listUpdate_at (xs := #[]) (n := 0) hs1 rfl (wpAny_pure ?_) (Nat.zero_le _) (by show (#[] ++ vs.toArray).size ≤ sizeLine + 1; rw [Array.size_append, List.size_toArray]; show 0 + vs.length ≤ _; omega))
  refine wpAny_bind (wpAny_load (get?_update_seq hs1 _) ?_)
  have e : ((#[] : Array Value) ++ vs.toArray).toList = vs := by simp
  show wpAny _ _ (pure ((#[] : Array Value) ++ vs.toArray).toList) Q E _
  rw [e]
  exact wpAny_pure q
theorem sorted_seq {l : Addr} {o : Obj} {n0 : Nat} {T : String} {vs : List Value} {k : Value → Int × Int} {Q : Value → Shared → Prop} (hT : T = "list" ∨ T = "tuple") (ho : s.heap.get? l = some o) (hc : o.cls = .type T) (hd : o.data = .seq vs.toArray n0)
    (hz : vs.length ≤ sizeLine) (hp : ∀ v ∈ vs, Srt.IsPair s.heap v (k v).1 (k v).2)
    (h : ∀ (h' : Heap) (d : Addr) (out : List Value), SrtO.Srtd (fun v u => SrtO.lexB (k v) (k u)) out → SrtO.Stb (fun v u => SrtO.lexB (k v) (k u)) out vs → (∀ b o, s.heap.get? b = some o → h'.get? b = some o) →
      s.heap.objs.size ≤ d → (∃ n, h'.get? d = some (seqObj "list" out.toArray n)) → Q (.ref d) { s with heap := h' }) :
    wpAny (model prog w) A (call (.builtin "sorted") [.ref l]) Q E s := by
  refine Calls.call_function_entry kind_sorted plain_sorted entry_sorted (args_sorted1 _) ?_
  unfold Builtin.«sorted»
  refine wpAny_bind (m := checkCount "sorted" 1 1 _) (wpAny_pure ?_)
  refine wpAny_bind (collect_at hT ho hc hd hz ?_)
  have k1 : ∀ b o, s.heap.get? b = some o → ((s.heap.push (seqObj "list" #[] 0)).update s.heap.objs.size (Obj.mapSeq (· ++ vs.toArray))).get? b = some o := fun b o q => by
    rw [Heap.get?_update_ne _ _ _ _ (Nat.ne_of_lt (Heap.lt_size q))]
    exact Heap.get?_push_of_some _ q
  have z1 : s.heap.objs.size ≤ ((s.heap.push (seqObj "list" #[] 0)).update s.heap.objs.size (Obj.mapSeq (· ++ vs.toArray))).objs.size := by
    rw [Heap.size_update, size_push']
    exact Nat.le_succ _
  generalize (s.heap.push (seqObj "list" #[] 0)).update s.heap.objs.size (Obj.mapSeq (· ++ vs.toArray)) = h1 at k1 z1 ⊢
  refine wpAny_bind (wpAny_newList ?_ hz)
  have hoL : (h1.push (seqObj "list" vs.toArray 0)).get? h1.objs.size = some (seqObj "list" vs.toArray 0) := Heap.get?_push_size _ rfl
  have keep : ∀ b o, s.heap.get? b = some o → b ≠ h1.objs.size ∧ (h1.push (seqObj "list" vs.toArray 0)).get? b = some o := fun b o q =>
    ⟨Nat.ne_of_lt (Heap.lt_size (k1 b o q)), Heap.get?_push_of_some _ (k1 b o q)⟩
  have hz2 : vs.length ≤ sizeLine := hz
  refine wpAny_bind (wpAny_holding (wpAny_call_entry slot_list_sort ⟨_, hoL, rfl⟩ entry_list_sort (SrtO.list_sort_ord (SrtO.swo_lex k) hoL hz2 (fun h2 => ?_) fun out hs hb => ⟨_, rfl, ?_⟩) (args_list_sort _)))
  · refine SrtO.pairs_sortableO (by omega) (fun v hm => (hp v hm).keeps fun b o e _ => (keep b o e).2) fun o2 e => ?_
    have e2 : some o2 = some (seqObj "list" vs.toArray 0) := e.symm.trans hoL
    cases e2
    exact fun c => absurd (Value.type.inj c) (by decide)
  · refine wpAny_pure ⟨_, rfl, h _ _ out hs hb (fun b o e => ?_) z1 (sortedHeap_at hoL)⟩
    obtain ⟨a1, a2⟩ := keep b o e
    rw [sortedHeap_old a1 (Heap.lt_size a2)]
    exact a2
/-- sorted(xs), xs a list or tuple of pairs of ints of any length -/
def rSortP (K : PySem.W.Frag) : List V → Hp → VK → Prop := fun vs H Q => ∃ (a : Addr) (xs : List V) (k : V → Int × Int), vs = [V.ref a] ∧ (SqL K H a xs ∨ SqT K H a xs) ∧ (∀ x ∈ xs, ∃ t, x = V.ref t ∧ H t = some (.tup [.int (k x).1, .int (k x).2])) ∧
  ∀ ys p, SrtO.Srtd (ltP k) ys → SrtO.Stb (ltP k) ys xs → H p = none → Q (.ref p) (upd H p (.lst ys))
theorem call_sortP {X : Cx} : CallR X (.builtin "sorted") (rSortP X.K) := by
  intro pins s σ H vs us Q I r h
  obtain ⟨a, xs, k, rfl, hs, hx, q⟩ := h
  obtain ⟨its, T, o, n0, hT, rv, ho, hc, hd, hz⟩ : ∃ (its : List Value) (T : String) (o : Obj) (n0 : Nat), (T = "list" ∨ T = "tuple") ∧ Vals xs its ∧ s.heap.get? a = some o ∧ o.cls = .type T ∧ o.data = .seq its.toArray n0 ∧ xs.length ≤ sizeLine := by
    rcases hs with hs | hs
    · obtain ⟨its, rv, ⟨o, n, ho, hc, _, hd⟩, hz⟩ := I.list hs
      exact ⟨its, "list", o, n, .inl rfl, rv, ho, hc, hd, hz⟩
    · obtain ⟨its, rv, ⟨o, ho, hc, n, hd⟩, hz⟩ := I.tuple hs
      exact ⟨its, "tuple", o, n, .inr rfl, rv, ho, hc, hd, hz⟩
  obtain ⟨u, rfl, ru⟩ := vals1 r
  cases ru
  obtain ⟨e1, e2⟩ := refs_back rv fun x m => by
    obtain ⟨t, e, _⟩ := hx x m
    exact ⟨t, e⟩
  refine sorted_seq (k := fun u => k (backV u)) hT ho hc hd (by rw [← rv.length]; exact hz) (fun v hv => ?_) fun h' d out h1 h2 kp hd hn => ?_
  · obtain ⟨t, rfl⟩ := e2 v hv
    have hm : V.ref t ∈ xs := by
      rw [e1]
      exact List.mem_map.mpr ⟨_, hv, rfl⟩
    obtain ⟨t', e, ht⟩ := hx _ hm
    cases e
    obtain ⟨_, its2, r2, o, ho, hc, n, hd⟩ := I.hok _ _ ht
    obtain ⟨u1, u2, rfl, ri, rj⟩ := vals2 r2
    obtain ⟨t1, rfl⟩ := ri
    obtain ⟨t2, rfl⟩ := rj
    exact ⟨t, o, t1, t2, n, rfl, ho, hc, hd⟩
  · have h3 : ∀ u ∈ out, ∃ a, u = Value.ref a := fun u hu => e2 u (h2.perm.mem_iff.mp hu)
    obtain ⟨n, hn⟩ := hn
    have hb : SrtO.Stb (ltP k) (out.map backV) xs := by
      rw [e1]
      exact SrtO.Stb.map (ltP_swo k) backV h2
    have new : ObjOk X.prog X.w (upd H d (.lst (out.map backV))) h' d (.lst (out.map backV)) := ⟨by rw [hb.len]; exact hz, out, n, vals_back h3, hn⟩
    exact ⟨.ref d, _, I.laid (t' := s.toks) kp hd new, rfl, q _ d (SrtO.srtd_map h1) hb (I.hok.fresh hd)⟩
end
end My
/-! ### rooms as the program makes them: spans, blocks, what defs promise of them -/
namespace My
open PySem PySem.Spec PyProof.Rows L2
abbrev Pr := Nat × Nat
def prD (b : Pr) : PyData := .tuple [.int (b.1 : Int), .int (b.2 : Int)]
def prsD (bs : List Pr) : List PyData := bs.map prD
theorem prsD_len (bs : List Pr) : (prsD bs).length = bs.length := List.length_map _
theorem prsD_append (a b : List Pr) : prsD (a ++ b) = prsD a ++ prsD b := List.map_append
theorem tup_prs : ∀ bs, tupOnlyAll (prsD bs) = true
  | [] => by simp [prsD, tupOnlyAll]
  | b :: bs => by
    have := tup_prs bs
    simp [prsD, tupOnlyAll, prD, tupOnly] at this ⊢
    exact this
/-- the spans of ascending blocks: one more block -/
def spansStep (acc : List Pr) (b : Pr) : List Pr := match acc.reverse with
  | [] => [(b.1, b.1 + b.2)]
  | q :: r => if b.1 ≤ q.2 then r.reverse ++ [(q.1, if q.2 < b.1 + b.2 then b.1 + b.2 else q.2)] else acc ++ [(b.1, b.1 + b.2)]
theorem step_nil (b : Pr) : spansStep [] b = [(b.1, b.1 + b.2)] := rfl
theorem step_concat (i : List Pr) (q b : Pr) : spansStep (i ++ [q]) b = if b.1 ≤ q.2 then i ++ [(q.1, if q.2 < b.1 + b.2 then b.1 + b.2 else q.2)] else (i ++ [q]) ++ [(b.1, b.1 + b.2)] := by
  unfold spansStep
  rw [List.reverse_append]
  show (if b.1 ≤ q.2 then (i.reverse).reverse ++ _ else _) = _
  rw [List.reverse_reverse]
def spansM (bs : List Pr) : List Pr := bs.foldl spansStep []
theorem step_len (acc : List Pr) (b : Pr) : (spansStep acc b).length ≤ acc.length + 1 := by
  rcases List.eq_nil_or_concat acc with rfl | ⟨i, q, e⟩
  · exact Nat.le_refl _
  · rw [List.concat_eq_append] at e
    subst e
    rw [step_concat]
    split
    · simp
    · simp
theorem fold_len : ∀ (bs acc : List Pr), (bs.foldl spansStep acc).length ≤ acc.length + bs.length
  | [], acc => Nat.le_refl _
  | b :: bs, acc => by
    have h1 := fold_len bs (spansStep acc b)
    have h2 := step_len acc b
    rw [List.foldl_cons, List.length_cons]
    omega
theorem spans_len (bs : List Pr) : (spansM bs).length ≤ bs.length := by
  have := fold_len bs []
  simpa [spansM] using this
theorem fold_take {bs : List Pr} {i : Nat} {b : Pr} (h : bs[i]? = some b) : (bs.take (i + 1)).foldl spansStep [] = spansStep ((bs.take i).foldl spansStep []) b := by
  rw [List.take_add_one, h, List.foldl_append]
  rfl
/-- the room of spans -/
def roomP (sp : List Pr) : List Pr := sp.flatMap fun p => greatM p.1 p.2
theorem roomP_len : ∀ sp : List Pr, (∀ p ∈ sp, p.2 ≤ 2 ^ 48) → (roomP sp).length ≤ 97 * sp.length
  | [], _ => Nat.le_refl _
  | p :: sp, h => by
    have h1 := great_len p.1 p.2 (h p List.mem_cons_self)
    have h2 := roomP_len sp fun q hq => h q (List.mem_cons_of_mem _ hq)
    unfold roomP at *
    rw [List.flatMap_cons, List.length_append, List.length_cons]
    omega
/-- pairs of ints in the heap, by place -/
theorem pr_get {H : Hp} {ys : List V} {bs : List Pr} {i : Nat} {v : V} (h : DdAll H ys (prsD bs)) (e : ys[i]? = some v) : ∃ (b : Pr) (a : Addr), bs[i]? = some b ∧ v = .ref a ∧ H a = some (.tup [.int (b.1 : Int), .int (b.2 : Int)]) := by
  obtain ⟨d, hd, hv⟩ := h.get e
  unfold prsD at hd
  rw [List.getElem?_map] at hd
  cases eb : bs[i]? with
  | none =>
    rw [eb] at hd
    cases hd
  | some b =>
    rw [eb] at hd
    cases hd
    obtain ⟨a, rfl, ha⟩ := hv.pair
    exact ⟨b, a, rfl, rfl, ha⟩
theorem DdAll.concat {H : Hp} : ∀ {ys : List V} {ds : List PyData} {d : PyData}, DdAll H ys (ds ++ [d]) → ∃ zs z, ys = zs ++ [z] ∧ DdAll H zs ds ∧ Dd H z d
  | _, [], _, .cons h .nil => ⟨[], _, rfl, .nil, h⟩
  | _, _ :: _, _, .cons h t => by
    obtain ⟨zs, z, rfl, h1, h2⟩ := DdAll.concat t
    exact ⟨_ :: zs, z, rfl, .cons h h1, h2⟩
/-- what a def is handed: pairs in a list or a tuple -/
def Seq2 (H : Hp) (a : Addr) (bs : List Pr) : Prop := ∃ ys, (H a = some (.lst ys) ∨ H a = some (.tup ys)) ∧ DdAll H ys (prsD bs)
theorem Seq2.mono {H H' : Hp} {a : Addr} {bs : List Pr} (e : Same H H') (h : Seq2 H a bs) : Seq2 H' a bs := by
  obtain ⟨ys, h1, h2⟩ := h
  exact ⟨ys, h1.imp (e _ _) (e _ _), h2.mono e⟩
def Lst2 (H : Hp) (a : Addr) (bs : List Pr) : Prop := ∃ ys, H a = some (.lst ys) ∧ DdAll H ys (prsD bs)
theorem Lst2.mono {H H' : Hp} {a : Addr} {bs : List Pr} (e : Same H H') (h : Lst2 H a bs) : Lst2 H' a bs := by
  obtain ⟨ys, h1, h2⟩ := h
  exact ⟨ys, e _ _ h1, h2.mono e⟩
theorem Lst2.seq {H : Hp} {a : Addr} {bs : List Pr} (h : Lst2 H a bs) : Seq2 H a bs := by
  obtain ⟨ys, h1, h2⟩ := h
  exact ⟨ys, .inl h1, h2⟩
def Tup2 (H : Hp) (a : Addr) (bs : List Pr) : Prop := ∃ ys, H a = some (.tup ys) ∧ DdAll H ys (prsD bs)
theorem Tup2.mono {H H' : Hp} {a : Addr} {bs : List Pr} (e : Same H H') (h : Tup2 H a bs) : Tup2 H' a bs := by
  obtain ⟨ys, h1, h2⟩ := h
  exact ⟨ys, e _ _ h1, h2.mono e⟩
theorem Tup2.seq {H : Hp} {a : Addr} {bs : List Pr} (h : Tup2 H a bs) : Seq2 H a bs := by
  obtain ⟨ys, h1, h2⟩ := h
  exact ⟨ys, .inr h1, h2⟩
theorem sz_of {n : Nat} (h : n ≤ 10000000) : n < sizeLine := Nat.lt_of_le_of_lt h (by rw [sizeLine_eq]; decide)
def sp_p_spans : Sp := fun vs H Q _ => ∃ (a : Addr) (bs : List Pr), vs = [.ref a] ∧ Seq2 H a bs ∧ bs.length ≤ 100000 ∧
  ∀ (H' : Hp) (f : Addr), Same H H' → H f = none → Lst2 H' f (spansM bs) → Q (.ref f) H'
def sp_p_greatest : Sp := fun vs H Q _ => ∃ (lo hi : Nat), vs = [.int lo, .int hi] ∧ hi ≤ 2 ^ 48 ∧
  ∀ (H' : Hp) (f : Addr), Same H H' → H f = none → Lst2 H' f (greatM lo hi) → Q (.ref f) H'
def sp_p_room : Sp := fun vs H Q _ => ∃ (a : Addr) (sp : List Pr), vs = [.ref a] ∧ Lst2 H a sp ∧ (∀ p ∈ sp, p.2 ≤ 2 ^ 48) ∧ sp.length ≤ 100000 ∧
  ∀ (H' : Hp) (f : Addr), Same H H' → Tup2 H' f (roomP sp) → Q (.ref f) H'
/-- a statement that is never reached -/
theorem ps_never {X : Cx} {st : Stmt} : PS X st (fun _ _ _ => False) := ⟨fun _ _ _ _ _ _ h => False.elim h⟩
theorem yesT {σ : L2.St} {H : Hp} {A B : Hp → Prop} (h : A H) : tYes σ H fun b H1 => if b = true then A H1 else B H1 := h
/-- the turns of a walk over a list, whatever a turn is -/
theorem turns_list {K : PySem.W.Frag} {a : Addr} {xs : List V} {B : V → Hp → (Hp → Prop) → Prop} {H0 : Hp} {Qd : Hp → Prop} (Pv : Nat → Hp → Prop) (h0 : Pv 0 H0) (hl : ∀ i H, i ≤ xs.length → Pv i H → SqL K H a xs)
    (hs : ∀ i x H, xs[i]? = some x → Pv i H → B x H (Pv (i + 1))) (hd : ∀ H, Pv xs.length H → Qd H) :
    ∃ W : Nat → Nat → Hp → Prop, (∃ m, W 0 m H0) ∧ ∀ i m H, W i m H → ((Itl K a).stop i H ∧ Qd H) ∨
      ((Itl K a).go i H ∧ ∃ Nx : Hp → Prop, (∀ H', Nx H' → ∃ m', m' < m ∧ W (i + 1) m' H') ∧ ∀ x H', (Itl K a).yld i H x H' → B x H' Nx) := by
  refine ⟨fun i m H => m = xs.length - i ∧ i ≤ xs.length ∧ Pv i H, ⟨xs.length, rfl, Nat.zero_le _, h0⟩, fun i m H h => ?_⟩
  obtain ⟨rfl, hi, p⟩ := h
  have q := hl i H hi p
  rcases Nat.lt_or_ge i xs.length with hlt | hge
  · have ex := List.getElem?_eq_getElem hlt
    refine .inr ⟨⟨xs, xs[i], q, ex⟩, Pv (i + 1), fun H' p' => ⟨xs.length - (i + 1), by omega, rfl, hlt, p'⟩, fun x H' y => ?_⟩
    obtain ⟨e, y⟩ := y
    subst e
    exact hs i x _ (y xs q) p
  · have e : i = xs.length := Nat.le_antisymm hi hge
    subst e
    exact .inl ⟨⟨xs, q, Nat.le_refl _⟩, hd H p⟩
/-- the pair that a value of the heap is -/
def kP (H : Hp) : V → Int × Int
  | .ref a => match H a with
    | some (.tup [.int i, .int j]) => (i, j)
    | _ => (0, 0)
  | _ => (0, 0)
def natP (p : Int × Int) : Pr := (p.1.toNat, p.2.toNat)
theorem kP_of {H : Hp} {v : V} {b : Pr} (h : Dd H v (prD b)) : kP H v = ((b.1 : Int), (b.2 : Int)) ∧ ∃ t, v = .ref t ∧ H t = some (.tup [.int (b.1 : Int), .int (b.2 : Int)]) := by
  obtain ⟨a, rfl, ha⟩ := h.pair
  refine ⟨?_, a, rfl, ha⟩
  show (match H a with
    | some (.tup [.int i, .int j]) => (i, j)
    | _ => (0, 0)) = _
  rw [ha]
theorem natP_k {H : Hp} {v : V} {b : Pr} (h : Dd H v (prD b)) : natP (kP H v) = b := by
  rw [(kP_of h).1]
  rfl
theorem map_kP {H : Hp} : ∀ {xs : List V} {bs : List Pr}, DdAll H xs (prsD bs) → xs.map (fun v => natP (kP H v)) = bs
  | _, [], .nil => rfl
  | _, _ :: _, .cons h t => by rw [List.map_cons, natP_k h, map_kP t]
theorem mem_pr {H : Hp} : ∀ {xs : List V} {bs : List Pr}, DdAll H xs (prsD bs) → ∀ x ∈ xs, ∃ b, Dd H x (prD b)
  | _, [], .nil, x, h => by cases h
  | _, b :: _, .cons h t, x, hx => by
    rcases List.mem_cons.mp hx with rfl | m
    · exact ⟨b, h⟩
    · exact mem_pr t x m
theorem dd_back {H : Hp} : ∀ {ys : List V}, (∀ y ∈ ys, ∃ b, Dd H y (prD b)) → DdAll H ys (prsD (ys.map (fun v => natP (kP H v))))
  | [], _ => .nil
  | y :: ys, h => by
    obtain ⟨b, hb⟩ := h y List.mem_cons_self
    refine .cons ?_ (dd_back fun z hz => h z (List.mem_cons_of_mem _ hz))
    show Dd H y (prD (natP (kP H y)))
    rw [natP_k hb]
    exact hb
def Asc (bs : List Pr) : Prop := bs.Pairwise fun x y => x.1 ≤ y.1
theorem asc_sorted {H : Hp} {ys : List V} (h : ∀ y ∈ ys, ∃ b, Dd H y (prD b)) (hs : SrtO.Srtd (ltP (kP H)) ys) : Asc (ys.map (fun v => natP (kP H v))) := by
  unfold Asc
  rw [List.pairwise_map]
  refine List.Pairwise.imp_of_mem (fun {x y} hx hy hl => ?_) hs
  obtain ⟨b, hb⟩ := h x hx
  obtain ⟨c, hc⟩ := h y hy
  rw [natP_k hb, natP_k hc]
  refine Nat.le_of_not_lt fun z => ?_
  have e : ltP (kP H) y x = true := by
    show SrtO.lexB (kP H y) (kP H x) = true
    rw [(kP_of hb).1, (kP_of hc).1]
    exact SrtO.lexB_iff.mpr (.inl (by show (c.1 : Int) < (b.1 : Int); omega))
  rw [e] at hl
  cases hl
theorem step_ends {M : Nat} {acc : List Pr} {b : Pr} (h : ∀ p ∈ acc, p.2 ≤ M) (hb : b.1 + b.2 ≤ M) : ∀ p ∈ spansStep acc b, p.2 ≤ M := by
  rcases List.eq_nil_or_concat acc with rfl | ⟨i, q, e⟩
  · intro p hp
    rw [step_nil] at hp
    rw [List.mem_singleton.mp hp]
    exact hb
  · rw [List.concat_eq_append] at e
    subst e
    rw [step_concat]
    have hq := h q (by simp)
    split
    · intro p hp
      rcases List.mem_append.mp hp with m | m
      · exact h p (List.mem_append.mpr (.inl m))
      · rw [List.mem_singleton.mp m]
        show (if q.2 < b.1 + b.2 then b.1 + b.2 else q.2) ≤ M
        split <;> omega
    · intro p hp
      rcases List.mem_append.mp hp with m | m
      · exact h p m
      · rw [List.mem_singleton.mp m]
        exact hb
theorem fold_ends {M : Nat} : ∀ (bs acc : List Pr), (∀ p ∈ acc, p.2 ≤ M) → (∀ b ∈ bs, b.1 + b.2 ≤ M) → ∀ p ∈ bs.foldl spansStep acc, p.2 ≤ M
  | [], _, h, _ => h
  | b :: bs, acc, h, hb => fold_ends bs _ (step_ends h (hb b List.mem_cons_self)) fun c hc => hb c (List.mem_cons_of_mem _ hc)
theorem spans_ends {M : Nat} {bs : List Pr} (h : ∀ b ∈ bs, b.1 + b.2 ≤ M) : ∀ p ∈ spansM bs, p.2 ≤ M := fold_ends bs [] (fun p hp => by cases hp) h
def InSp (bs : List Pr) : Prop := ∀ b ∈ bs, b.1 + b.2 ≤ 2 ^ 48
def sp_q_room_of : Sp := fun vs H Q _ => ∃ (a : Addr) (bs : List Pr), vs = [.ref a] ∧ Seq2 H a bs ∧ InSp bs ∧ bs.length ≤ 100000 ∧
  ∀ (H' : Hp) (f : Addr) (bs' : List Pr), bs'.Perm bs → Asc bs' → Same H H' → Tup2 H' f (roomP (spansM bs')) → Q (.ref f) H'
def sp_q_union : Sp := fun vs H Q _ => ∃ (a b : Addr) (as bs : List Pr), vs = [.ref a, .ref b] ∧ Tup2 H a as ∧ Tup2 H b bs ∧ InSp as ∧ InSp bs ∧ as.length ≤ 50000 ∧ bs.length ≤ 50000 ∧
  ∀ (H' : Hp) (f : Addr) (bs' : List Pr), bs'.Perm (as ++ bs) → Asc bs' → Same H H' → Tup2 H' f (roomP (spansM bs')) → Q (.ref f) H'
/-- what two lists of spans share -/
def sharedM : List Pr → List Pr → List Pr
  | [], _ => []
  | _ :: _, [] => []
  | p :: ps, q :: qs => (if max p.1 q.1 < min p.2 q.2 then [(max p.1 q.1, min p.2 q.2)] else []) ++ (if p.2 < q.2 then sharedM ps (q :: qs) else sharedM (p :: ps) qs)
termination_by a b => a.length + b.length
theorem shared_nil (bs : List Pr) : sharedM [] bs = [] := by
  unfold sharedM
  rfl
theorem shared_nilR (as : List Pr) : sharedM as [] = [] := by
  cases as <;> unfold sharedM <;> rfl
theorem shared_cons (p q : Pr) (ps qs : List Pr) : sharedM (p :: ps) (q :: qs) = (if max p.1 q.1 < min p.2 q.2 then [(max p.1 q.1, min p.2 q.2)] else []) ++ (if p.2 < q.2 then sharedM ps (q :: qs) else sharedM (p :: ps) qs) := by
  conv => lhs; unfold sharedM
theorem shared_len : ∀ as bs : List Pr, (sharedM as bs).length ≤ as.length + bs.length
  | [], bs => by
    rw [shared_nil]
    exact Nat.zero_le _
  | as, [] => by
    rw [shared_nilR]
    exact Nat.zero_le _
  | p :: ps, q :: qs => by
    have h1 := shared_len ps (q :: qs)
    have h2 := shared_len (p :: ps) qs
    rw [shared_cons, List.length_append]
    have h3 : (if max p.1 q.1 < min p.2 q.2 then [(max p.1 q.1, min p.2 q.2)] else []).length ≤ 1 := by split <;> simp
    have h4 : (if p.2 < q.2 then sharedM ps (q :: qs) else sharedM (p :: ps) qs).length ≤ ps.length + qs.length + 1 := by
      simp only [List.length_cons] at h1 h2
      split <;> omega
    simp only [List.length_cons]
    omega
termination_by a b => a.length + b.length
/-- what spans leave over -/
def gapsM (sp : List Pr) : List Pr := ((0 :: sp.map (·.2)).zip (sp.map (·.1) ++ [2 ^ 48])).filter fun p => decide (p.1 < p.2)
def sp_p_shared : Sp := fun vs H Q _ => ∃ (a b : Addr) (as bs : List Pr), vs = [.ref a, .ref b] ∧ Lst2 H a as ∧ Lst2 H b bs ∧ as.length ≤ 100000 ∧ bs.length ≤ 100000 ∧
  ∀ (H' : Hp) (f : Addr), Same H H' → H f = none → Lst2 H' f (sharedM as bs) → Q (.ref f) H'
def sp_p_gaps : Sp := fun vs H Q _ => ∃ (a : Addr) (as : List Pr), vs = [.ref a] ∧ Lst2 H a as ∧ as.length ≤ 90000 ∧
  ∀ (H' : Hp) (f : Addr), Same H H' → H f = none → Lst2 H' f (gapsM as) → Q (.ref f) H'
def sp_q_common : Sp := fun vs H Q _ => ∃ (a b : Addr) (as bs : List Pr), vs = [.ref a, .ref b] ∧ Tup2 H a as ∧ Tup2 H b bs ∧ InSp as ∧ InSp bs ∧ as.length ≤ 40000 ∧ bs.length ≤ 40000 ∧
  ∀ (H' : Hp) (f : Addr), Same H H' → Tup2 H' f (roomP (sharedM (spansM as) (spansM bs))) → Q (.ref f) H'
def sp_q_without : Sp := fun vs H Q _ => ∃ (a b : Addr) (as bs : List Pr), vs = [.ref a, .ref b] ∧ Tup2 H a as ∧ Tup2 H b bs ∧ InSp as ∧ InSp bs ∧ as.length ≤ 40000 ∧ bs.length ≤ 40000 ∧
  ∀ (H' : Hp) (f : Addr), Same H H' → Tup2 H' f (roomP (sharedM (spansM as) (gapsM (spansM bs)))) → Q (.ref f) H'
theorem shared_ends {M : Nat} : ∀ as bs : List Pr, (∀ p ∈ as, p.2 ≤ M) → ∀ p ∈ sharedM as bs, p.2 ≤ M
  | [], bs, _ => by
    rw [shared_nil]
    intro p hp
    cases hp
  | as, [], _ => by
    rw [shared_nilR]
    intro p hp
    cases hp
  | p :: ps, q :: qs, h => by
    have h1 := shared_ends ps (q :: qs) fun r hr => h r (List.mem_cons_of_mem _ hr)
    have h2 := shared_ends (p :: ps) qs h
    rw [shared_cons]
    intro r hr
    rcases List.mem_append.mp hr with m | m
    · split at m
      · rw [List.mem_singleton.mp m]
        exact Nat.le_trans (Nat.min_le_left _ _) (h p List.mem_cons_self)
      · cases m
    · split at m
      · exact h1 r m
      · exact h2 r m
termination_by a b => a.length + b.length
theorem gaps_len (sp : List Pr) : (gapsM sp).length ≤ sp.length + 1 := by
  unfold gapsM
  refine Nat.le_trans (List.length_filter_le _ _) ?_
  simp
/-- the turns of a walk over two lists at once -/
theorem turns_zip {K : PySem.W.Frag} {a b : Addr} {xs ys : List V} {B : V → Hp → (Hp → Prop) → Prop} {H0 : Hp} {Qd : Hp → Prop} (Pv : Nat → Hp → Prop) (he : xs.length = ys.length) (h0 : Pv 0 H0) (hl : ∀ i H, i ≤ xs.length → Pv i H → SqL K H a xs ∧ SqL K H b ys)
    (hs : ∀ i x y T H, xs[i]? = some x → ys[i]? = some y → H T = none → Pv i H → B (.ref T) (upd H T (.tup [x, y])) (Pv (i + 1))) (hd : ∀ H, Pv xs.length H → Qd H) :
    ∃ W : Nat → Nat → Hp → Prop, (∃ m, W 0 m H0) ∧ ∀ i m H, W i m H → ((Itz K a b).stop i H ∧ Qd H) ∨
      ((Itz K a b).go i H ∧ ∃ Nx : Hp → Prop, (∀ H', Nx H' → ∃ m', m' < m ∧ W (i + 1) m' H') ∧ ∀ x H', (Itz K a b).yld i H x H' → B x H' Nx) := by
  refine ⟨fun i m H => m = xs.length - i ∧ i ≤ xs.length ∧ Pv i H, ⟨xs.length, rfl, Nat.zero_le _, h0⟩, fun i m H h => ?_⟩
  obtain ⟨rfl, hi, p⟩ := h
  obtain ⟨q1, q2⟩ := hl i H hi p
  rcases Nat.lt_or_ge i xs.length with hlt | hge
  · have ex := List.getElem?_eq_getElem hlt
    have ey := List.getElem?_eq_getElem (l := ys) (i := i) (by omega)
    refine .inr ⟨⟨xs, ys, xs[i], ys[i], q1, q2, ex, ey⟩, Pv (i + 1), fun H' p' => ⟨xs.length - (i + 1), by omega, rfl, hlt, p'⟩, fun x H' y => ?_⟩
    obtain ⟨T, x1, y1, rfl, nT, rfl, k1, k2⟩ := y
    exact hs i x1 y1 T H (k1 xs q1) (k2 ys q2) nT p
  · have e : i = xs.length := Nat.le_antisymm hi hge
    subst e
    exact .inl ⟨⟨xs, ys, q1, q2, .inl (Nat.le_refl _)⟩, hd H p⟩
theorem filter_take {α : Type} (p : α → Bool) {l : List α} {i : Nat} {x : α} (h : l[i]? = some x) : (l.take (i + 1)).filter p = (l.take i).filter p ++ if p x = true then [x] else [] := by
  rw [List.take_add_one, h, List.filter_append]
  congr 1
  show [x].filter p = _
  rw [List.filter_cons]
  split <;> rfl
def intV (l : List Nat) : List V := l.map fun n : Nat => V.int (n : Int)
theorem intV_get {l : List Nat} {i : Nat} {x : V} (h : (intV l)[i]? = some x) : ∃ n, l[i]? = some n ∧ x = .int (n : Int) := by
  unfold intV at h
  rw [List.getElem?_map] at h
  cases e : l[i]? with
  | none =>
    rw [e] at h
    cases h
  | some n =>
    rw [e] at h
    cases h
    exact ⟨n, rfl, rfl⟩
end My
/-! ### spans that ascend and do not touch: one list for each set of addresses -/
namespace My
open PySem PySem.Spec PyProof.Rows L2
def memS (sp : List Pr) (x : Nat) : Prop := ∃ p ∈ sp, p.1 ≤ x ∧ x < p.2
def memB (bs : List Pr) (x : Nat) : Prop := ∃ b ∈ bs, b.1 ≤ x ∧ x < b.1 + b.2
def Canon (sp : List Pr) : Prop := (∀ p ∈ sp, p.1 < p.2) ∧ sp.Pairwise fun p q => p.2 < q.1
theorem memS_nil (x : Nat) : ¬ memS [] x := fun ⟨_, h, _⟩ => by cases h
theorem memB_nil (x : Nat) : ¬ memB [] x := fun ⟨_, h, _⟩ => by cases h
theorem memS_cons {p : Pr} {ps : List Pr} {x : Nat} : memS (p :: ps) x ↔ (p.1 ≤ x ∧ x < p.2) ∨ memS ps x := by
  constructor
  · rintro ⟨q, hq, h⟩
    rcases List.mem_cons.mp hq with rfl | m
    · exact .inl h
    · exact .inr ⟨q, m, h⟩
  · rintro (h | ⟨q, m, h⟩)
    · exact ⟨p, List.mem_cons_self, h⟩
    · exact ⟨q, List.mem_cons_of_mem _ m, h⟩
theorem memB_cons {p : Pr} {ps : List Pr} {x : Nat} : memB (p :: ps) x ↔ (p.1 ≤ x ∧ x < p.1 + p.2) ∨ memB ps x := by
  constructor
  · rintro ⟨q, hq, h⟩
    rcases List.mem_cons.mp hq with rfl | m
    · exact .inl h
    · exact .inr ⟨q, m, h⟩
  · rintro (h | ⟨q, m, h⟩)
    · exact ⟨p, List.mem_cons_self, h⟩
    · exact ⟨q, List.mem_cons_of_mem _ m, h⟩
theorem memS_append {a b : List Pr} {x : Nat} : memS (a ++ b) x ↔ memS a x ∨ memS b x := by
  constructor
  · rintro ⟨q, hq, h⟩
    rcases List.mem_append.mp hq with m | m
    · exact .inl ⟨q, m, h⟩
    · exact .inr ⟨q, m, h⟩
  · rintro (⟨q, m, h⟩ | ⟨q, m, h⟩)
    · exact ⟨q, List.mem_append.mpr (.inl m), h⟩
    · exact ⟨q, List.mem_append.mpr (.inr m), h⟩
theorem memB_append {a b : List Pr} {x : Nat} : memB (a ++ b) x ↔ memB a x ∨ memB b x := by
  constructor
  · rintro ⟨q, hq, h⟩
    rcases List.mem_append.mp hq with m | m
    · exact .inl ⟨q, m, h⟩
    · exact .inr ⟨q, m, h⟩
  · rintro (⟨q, m, h⟩ | ⟨q, m, h⟩)
    · exact ⟨q, List.mem_append.mpr (.inl m), h⟩
    · exact ⟨q, List.mem_append.mpr (.inr m), h⟩
theorem memS_one {p : Pr} {x : Nat} : memS [p] x ↔ p.1 ≤ x ∧ x < p.2 := by
  rw [memS_cons]
  exact ⟨fun h => h.elim id fun h => absurd h (memS_nil x), .inl⟩
theorem memB_perm {a b : List Pr} (h : a.Perm b) {x : Nat} : memB a x ↔ memB b x :=
  ⟨fun ⟨q, m, k⟩ => ⟨q, h.mem_iff.mp m, k⟩, fun ⟨q, m, k⟩ => ⟨q, h.mem_iff.mpr m, k⟩⟩
theorem canon_nil : Canon [] := ⟨fun p h => (by cases h), .nil⟩
theorem canon_cons {p : Pr} {ps : List Pr} : Canon (p :: ps) ↔ p.1 < p.2 ∧ (∀ q ∈ ps, p.2 < q.1) ∧ Canon ps := by
  unfold Canon
  rw [List.pairwise_cons]
  constructor
  · rintro ⟨h1, h2, h3⟩
    exact ⟨h1 p List.mem_cons_self, h2, fun q m => h1 q (List.mem_cons_of_mem _ m), h3⟩
  · rintro ⟨h1, h2, h3, h4⟩
    refine ⟨fun q m => ?_, h2, h4⟩
    rcases List.mem_cons.mp m with rfl | m
    · exact h1
    · exact h3 q m
theorem canon_concat {i : List Pr} {q : Pr} : Canon (i ++ [q]) ↔ Canon i ∧ q.1 < q.2 ∧ ∀ p ∈ i, p.2 < q.1 := by
  unfold Canon
  rw [List.pairwise_append]
  constructor
  · rintro ⟨h1, h2, _, h3⟩
    exact ⟨⟨fun p m => h1 p (List.mem_append.mpr (.inl m)), h2⟩, h1 q (by simp), fun p m => h3 p m q (List.mem_singleton.mpr rfl)⟩
  · rintro ⟨⟨h1, h2⟩, h3, h4⟩
    refine ⟨fun p m => ?_, h2, List.pairwise_singleton _ _, fun p m r hr => ?_⟩
    · rcases List.mem_append.mp m with m | m
      · exact h1 p m
      · rw [List.mem_singleton.mp m]
        exact h3
    · rw [List.mem_singleton.mp hr]
      exact h4 p m
theorem mem_above {a x : Nat} {ps : List Pr} (h : ∀ q ∈ ps, a < q.1) : memS ps x → a < x := fun ⟨q, m, k, _⟩ => Nat.lt_of_lt_of_le (h q m) k
theorem canon_ext : ∀ a b : List Pr, Canon a → Canon b → (∀ x, memS a x ↔ memS b x) → a = b
  | [], [], _, _, _ => rfl
  | [], q :: qs, _, hb, e => absurd ((e q.1).mpr ⟨q, List.mem_cons_self, Nat.le_refl _, (canon_cons.mp hb).1⟩) (memS_nil _)
  | p :: ps, [], ha, _, e => absurd ((e p.1).mp ⟨p, List.mem_cons_self, Nat.le_refl _, (canon_cons.mp ha).1⟩) (memS_nil _)
  | p :: ps, q :: qs, ha, hb, e => by
    obtain ⟨a1, a2, a3⟩ := canon_cons.mp ha
    obtain ⟨b1, b2, b3⟩ := canon_cons.mp hb
    have e1 : p.1 = q.1 := by
      have h1 : memS (q :: qs) p.1 := (e p.1).mp (memS_cons.mpr (.inl ⟨Nat.le_refl _, a1⟩))
      have h2 : memS (p :: ps) q.1 := (e q.1).mpr (memS_cons.mpr (.inl ⟨Nat.le_refl _, b1⟩))
      rcases memS_cons.mp h1 with ⟨c1, c2⟩ | c
      · rcases memS_cons.mp h2 with ⟨d1, d2⟩ | d
        · omega
        · have := mem_above a2 d
          omega
      · have := mem_above b2 c
        rcases memS_cons.mp h2 with ⟨d1, d2⟩ | d
        · omega
        · have := mem_above a2 d
          omega
    have e2 : p.2 = q.2 := by
      rcases Nat.lt_trichotomy p.2 q.2 with h | h | h
      · have h1 : memS (p :: ps) p.2 := (e p.2).mpr (memS_cons.mpr (.inl ⟨by omega, h⟩))
        rcases memS_cons.mp h1 with c | c
        · omega
        · have := mem_above a2 c
          omega
      · exact h
      · have h1 : memS (q :: qs) q.2 := (e q.2).mp (memS_cons.mpr (.inl ⟨by omega, h⟩))
        rcases memS_cons.mp h1 with c | c
        · omega
        · have := mem_above b2 c
          omega
    have ep : p = q := Prod.ext e1 e2
    subst ep
    have et : ps = qs := canon_ext ps qs a3 b3 fun x => by
      constructor
      · intro h
        have l := mem_above a2 h
        rcases memS_cons.mp ((e x).mp (memS_cons.mpr (.inr h))) with c | c
        · omega
        · exact c
      · intro h
        have l := mem_above b2 h
        rcases memS_cons.mp ((e x).mpr (memS_cons.mpr (.inr h))) with c | c
        · omega
        · exact c
    rw [et]
/-- spans of ascending blocks -/
theorem step_ok {acc : List Pr} {b : Pr} (hc : Canon acc) (hb : ∀ p ∈ acc, p.1 ≤ b.1) (h0 : 0 < b.2) :
    Canon (spansStep acc b) ∧ (∀ x, memS (spansStep acc b) x ↔ memS acc x ∨ (b.1 ≤ x ∧ x < b.1 + b.2)) ∧ ∀ p ∈ spansStep acc b, p.1 ≤ b.1 := by
  rcases List.eq_nil_or_concat acc with rfl | ⟨i, q, e⟩
  · rw [step_nil]
    refine ⟨canon_cons.mpr ⟨by show b.1 < b.1 + b.2; omega, fun q h => (by cases h), canon_nil⟩, fun x => ?_, fun p hp => ?_⟩
    · rw [memS_one]
      exact ⟨.inr, fun h => h.elim (fun h => absurd h (memS_nil x)) id⟩
    · rw [List.mem_singleton.mp hp]
      exact Nat.le_refl _
  · rw [List.concat_eq_append] at e
    subst e
    obtain ⟨c1, c2, c3⟩ := canon_concat.mp hc
    have hq := hb q (by simp)
    rw [step_concat]
    by_cases h : b.1 ≤ q.2
    · rw [if_pos h]
      have hm : q.2 ≤ (if q.2 < b.1 + b.2 then b.1 + b.2 else q.2) ∧ b.1 + b.2 ≤ (if q.2 < b.1 + b.2 then b.1 + b.2 else q.2) ∧ ((if q.2 < b.1 + b.2 then b.1 + b.2 else q.2) = q.2 ∨ (if q.2 < b.1 + b.2 then b.1 + b.2 else q.2) = b.1 + b.2) := by
        split <;> omega
      obtain ⟨m1, m2, m3⟩ := hm
      generalize (if q.2 < b.1 + b.2 then b.1 + b.2 else q.2) = m at m1 m2 m3
      refine ⟨canon_concat.mpr ⟨c1, Nat.lt_of_lt_of_le c2 m1, c3⟩, fun x => ?_, fun p hp => ?_⟩
      · rw [memS_append, memS_append, memS_one, memS_one, or_assoc]
        refine or_congr Iff.rfl ?_
        show q.1 ≤ x ∧ x < m ↔ _
        constructor
        · intro k
          omega
        · intro k
          omega
      · rcases List.mem_append.mp hp with k | k
        · exact hb p (List.mem_append.mpr (.inl k))
        · rw [List.mem_singleton.mp k]
          exact hq
    · rw [if_neg h]
      refine ⟨canon_concat.mpr ⟨hc, by show b.1 < b.1 + b.2; omega, fun p hp => ?_⟩, fun x => ?_, fun p hp => ?_⟩
      · show p.2 < b.1
        rcases List.mem_append.mp hp with k | k
        · have := c3 p k
          omega
        · rw [List.mem_singleton.mp k]
          omega
      · rw [memS_append (b := [(b.1, b.1 + b.2)]), memS_one]
      · rcases List.mem_append.mp hp with k | k
        · exact hb p k
        · rw [List.mem_singleton.mp k]
          exact Nat.le_refl _
theorem fold_ok : ∀ (bs acc : List Pr), Canon acc → (∀ p ∈ acc, ∀ b ∈ bs, p.1 ≤ b.1) → Asc bs → (∀ b ∈ bs, 0 < b.2) →
    Canon (bs.foldl spansStep acc) ∧ ∀ x, memS (bs.foldl spansStep acc) x ↔ memS acc x ∨ memB bs x
  | [], acc, hc, _, _, _ => ⟨hc, fun x => ⟨.inl, fun h => h.elim id fun h => absurd h (memB_nil x)⟩⟩
  | b :: bs, acc, hc, hb, ha, h0 => by
    obtain ⟨a1, a2⟩ := List.pairwise_cons.mp ha
    obtain ⟨s1, s2, s3⟩ := step_ok hc (fun p m => hb p m b List.mem_cons_self) (h0 b List.mem_cons_self)
    obtain ⟨r1, r2⟩ := fold_ok bs (spansStep acc b) s1 (fun p m c hm => Nat.le_trans (s3 p m) (a1 c hm)) a2 fun c m => h0 c (List.mem_cons_of_mem _ m)
    refine ⟨r1, fun x => ?_⟩
    rw [List.foldl_cons, r2, s2, memB_cons, or_assoc]
theorem spans_ok {bs : List Pr} (ha : Asc bs) (h0 : ∀ b ∈ bs, 0 < b.2) : Canon (spansM bs) ∧ ∀ x, memS (spansM bs) x ↔ memB bs x := by
  obtain ⟨h1, h2⟩ := fold_ok bs [] canon_nil (fun p h => (by cases h)) ha h0
  exact ⟨h1, fun x => ⟨fun h => ((h2 x).mp h).elim (fun h => absurd h (memS_nil x)) id, fun h => (h2 x).mpr (.inr h)⟩⟩
/-- what two lists share -/
theorem shared_in : ∀ as bs : List Pr, ∀ r ∈ sharedM as bs, (∃ p ∈ as, p.1 ≤ r.1 ∧ r.2 ≤ p.2) ∧ (∃ q ∈ bs, q.1 ≤ r.1 ∧ r.2 ≤ q.2) ∧ r.1 < r.2
  | [], bs => by
    rw [shared_nil]
    intro r h
    cases h
  | as, [] => by
    rw [shared_nilR]
    intro r h
    cases h
  | p :: ps, q :: qs => by
    have h1 := shared_in ps (q :: qs)
    have h2 := shared_in (p :: ps) qs
    rw [shared_cons]
    intro r hr
    rcases List.mem_append.mp hr with m | m
    · split at m
      · rename_i hlt
        rw [List.mem_singleton.mp m]
        exact ⟨⟨p, List.mem_cons_self, Nat.le_max_left _ _, Nat.min_le_left _ _⟩, ⟨q, List.mem_cons_self, Nat.le_max_right _ _, Nat.min_le_right _ _⟩, hlt⟩
      · cases m
    · split at m
      · obtain ⟨⟨x, xm, xk⟩, y, z⟩ := h1 r m
        exact ⟨⟨x, List.mem_cons_of_mem _ xm, xk⟩, y, z⟩
      · obtain ⟨x, ⟨y, ym, yk⟩, z⟩ := h2 r m
        exact ⟨x, ⟨y, List.mem_cons_of_mem _ ym, yk⟩, z⟩
termination_by a b => a.length + b.length
theorem shared_canon : ∀ as bs : List Pr, Canon as → Canon bs → Canon (sharedM as bs)
  | [], bs, _, _ => by
    rw [shared_nil]
    exact canon_nil
  | as, [], _, _ => by
    rw [shared_nilR]
    exact canon_nil
  | p :: ps, q :: qs, ha, hb => by
    obtain ⟨a1, a2, a3⟩ := canon_cons.mp ha
    obtain ⟨b1, b2, b3⟩ := canon_cons.mp hb
    have h1 := shared_canon ps (q :: qs) a3 hb
    have h2 := shared_canon (p :: ps) qs ha b3
    have i1 := shared_in ps (q :: qs)
    have i2 := shared_in (p :: ps) qs
    rw [shared_cons]
    have ht : Canon (if p.2 < q.2 then sharedM ps (q :: qs) else sharedM (p :: ps) qs) ∧ ∀ r ∈ (if p.2 < q.2 then sharedM ps (q :: qs) else sharedM (p :: ps) qs), min p.2 q.2 < r.1 := by
      by_cases h : p.2 < q.2
      · rw [if_pos h]
        refine ⟨h1, fun r m => ?_⟩
        obtain ⟨⟨x, xm, xk⟩, _⟩ := i1 r m
        have := a2 x xm
        have := Nat.min_le_left p.2 q.2
        omega
      · rw [if_neg h]
        refine ⟨h2, fun r m => ?_⟩
        obtain ⟨_, ⟨x, xm, xk⟩, _⟩ := i2 r m
        have := b2 x xm
        have := Nat.min_le_right p.2 q.2
        omega
    by_cases h : max p.1 q.1 < min p.2 q.2
    · rw [if_pos h]
      exact canon_cons.mpr ⟨h, ht.2, ht.1⟩
    · rw [if_neg h]
      exact ht.1
termination_by a b => a.length + b.length
theorem shared_mem : ∀ as bs : List Pr, Canon as → Canon bs → ∀ x, memS as x → memS bs x → memS (sharedM as bs) x
  | [], bs, _, _, x, h, _ => absurd h (memS_nil x)
  | as, [], _, _, x, _, h => absurd h (memS_nil x)
  | p :: ps, q :: qs, ha, hb, x, hx, hy => by
    obtain ⟨a1, a2, a3⟩ := canon_cons.mp ha
    obtain ⟨b1, b2, b3⟩ := canon_cons.mp hb
    have h1 := shared_mem ps (q :: qs) a3 hb x
    have h2 := shared_mem (p :: ps) qs ha b3 x
    rw [shared_cons, memS_append]
    rcases memS_cons.mp hx with cx | cx
    · rcases memS_cons.mp hy with cy | cy
      · left
        have k : max p.1 q.1 ≤ x ∧ x < min p.2 q.2 := ⟨Nat.max_le.mpr ⟨cx.1, cy.1⟩, Nat.lt_min.mpr ⟨cx.2, cy.2⟩⟩
        rw [if_pos (Nat.lt_of_le_of_lt k.1 k.2), memS_one]
        exact k
      · right
        have := mem_above b2 cy
        rw [if_neg (by omega)]
        exact h2 hx cy
    · have := mem_above a2 cx
      rcases memS_cons.mp hy with cy | cy
      · right
        rw [if_pos (by omega)]
        exact h1 cx hy
      · right
        have := mem_above b2 cy
        split
        · exact h1 cx hy
        · exact h2 hx cy
termination_by a b => a.length + b.length
theorem shared_iff {as bs : List Pr} (ha : Canon as) (hb : Canon bs) (x : Nat) : memS (sharedM as bs) x ↔ memS as x ∧ memS bs x := by
  constructor
  · rintro ⟨r, m, k1, k2⟩
    obtain ⟨⟨p, pm, p1, p2⟩, ⟨q, qm, q1, q2⟩, _⟩ := shared_in as bs r m
    exact ⟨⟨p, pm, by omega, by omega⟩, ⟨q, qm, by omega, by omega⟩⟩
  · rintro ⟨h1, h2⟩
    exact shared_mem as bs ha hb x h1 h2
/-- the gaps, one after another -/
def gapsFrom : Nat → List Pr → List Pr
  | lo, [] => if lo < 2 ^ 48 then [(lo, 2 ^ 48)] else []
  | lo, p :: ps => (if lo < p.1 then [(lo, p.1)] else []) ++ gapsFrom p.2 ps
theorem gaps_from : ∀ (sp : List Pr) (lo : Nat), ((lo :: sp.map (·.2)).zip (sp.map (·.1) ++ [2 ^ 48])).filter (fun p => decide (p.1 < p.2)) = gapsFrom lo sp
  | [], lo => by
    show ([(lo, 2 ^ 48)] : List Pr).filter _ = _
    unfold gapsFrom
    rw [List.filter_cons]
    by_cases h : lo < 2 ^ 48
    · rw [if_pos h, if_pos (decide_eq_true h)]
      rfl
    · rw [if_neg h, if_neg (fun z => h (of_decide_eq_true z))]
      rfl
  | p :: ps, lo => by
    have ih := gaps_from ps p.2
    show ((lo, p.1) :: ((p.2 :: ps.map (·.2)).zip (ps.map (·.1) ++ [2 ^ 48]))).filter _ = _
    rw [List.filter_cons, ih]
    show _ = (if lo < p.1 then [(lo, p.1)] else []) ++ gapsFrom p.2 ps
    by_cases h : lo < p.1
    · rw [if_pos h, if_pos (decide_eq_true h)]
      rfl
    · rw [if_neg h, if_neg (fun z => h (of_decide_eq_true z))]
      rfl
theorem gapsFrom_ok : ∀ (sp : List Pr) (lo : Nat), Canon sp → (∀ p ∈ sp, lo ≤ p.1 ∧ p.2 ≤ 2 ^ 48) →
    Canon (gapsFrom lo sp) ∧ (∀ r ∈ gapsFrom lo sp, lo ≤ r.1) ∧ ∀ x, memS (gapsFrom lo sp) x ↔ lo ≤ x ∧ x < 2 ^ 48 ∧ ¬ memS sp x
  | [], lo, _, _ => by
    unfold gapsFrom
    by_cases h : lo < 2 ^ 48
    · rw [if_pos h]
      refine ⟨canon_cons.mpr ⟨h, fun q m => (by cases m), canon_nil⟩, fun r m => ?_, fun x => ?_⟩
      · rw [List.mem_singleton.mp m]
        exact Nat.le_refl _
      · rw [memS_one]
        exact ⟨fun k => ⟨k.1, k.2, memS_nil x⟩, fun k => ⟨k.1, k.2.1⟩⟩
    · rw [if_neg h]
      refine ⟨canon_nil, fun r m => (by cases m), fun x => ⟨fun k => absurd k (memS_nil x), fun k => ?_⟩⟩
      omega
  | p :: ps, lo, hc, hb => by
    obtain ⟨c1, c2, c3⟩ := canon_cons.mp hc
    obtain ⟨b1, b2⟩ := hb p List.mem_cons_self
    obtain ⟨r1, r2, r3⟩ := gapsFrom_ok ps p.2 c3 fun q m => ⟨Nat.le_of_lt (c2 q m), (hb q (List.mem_cons_of_mem _ m)).2⟩
    show Canon ((if lo < p.1 then [(lo, p.1)] else []) ++ gapsFrom p.2 ps) ∧ (∀ r ∈ (if lo < p.1 then [(lo, p.1)] else []) ++ gapsFrom p.2 ps, lo ≤ r.1) ∧ ∀ x, memS ((if lo < p.1 then [(lo, p.1)] else []) ++ gapsFrom p.2 ps) x ↔ _
    by_cases h : lo < p.1
    · rw [if_pos h]
      refine ⟨canon_cons.mpr ⟨h, fun r m => Nat.lt_of_lt_of_le c1 (r2 r m), r1⟩, fun r m => ?_, fun x => ?_⟩
      · rcases List.mem_cons.mp m with rfl | m
        · exact Nat.le_refl _
        · have := r2 r m
          omega
      · rw [List.singleton_append, memS_cons, r3, memS_cons]
        show (lo ≤ x ∧ x < p.1) ∨ _ ↔ _
        constructor
        · rintro (k | ⟨k1, k2, k3⟩)
          · refine ⟨k.1, by omega, fun z => z.elim (fun z => by omega) fun z => ?_⟩
            have := mem_above c2 z
            omega
          · exact ⟨by omega, k2, fun z => z.elim (fun z => by omega) k3⟩
        · rintro ⟨k1, k2, k3⟩
          by_cases q : x < p.1
          · exact .inl ⟨k1, q⟩
          · refine .inr ⟨Nat.le_of_not_lt fun z => k3 (.inl ⟨by omega, z⟩), k2, fun z => k3 (.inr z)⟩
    · rw [if_neg h, List.nil_append]
      refine ⟨r1, fun r m => ?_, fun x => ?_⟩
      · have := r2 r m
        omega
      · rw [r3, memS_cons]
        constructor
        · rintro ⟨k1, k2, k3⟩
          exact ⟨by omega, k2, fun z => z.elim (fun z => by omega) k3⟩
        · rintro ⟨k1, k2, k3⟩
          exact ⟨Nat.le_of_not_lt fun z => k3 (.inl ⟨by omega, z⟩), k2, fun z => k3 (.inr z)⟩
theorem gaps_ok {sp : List Pr} (hc : Canon sp) (hb : ∀ p ∈ sp, p.2 ≤ 2 ^ 48) : Canon (gapsM sp) ∧ ∀ x, memS (gapsM sp) x ↔ x < 2 ^ 48 ∧ ¬ memS sp x := by
  have e : gapsM sp = gapsFrom 0 sp := gaps_from sp 0
  obtain ⟨h1, _, h3⟩ := gapsFrom_ok sp 0 hc fun p m => ⟨Nat.zero_le _, hb p m⟩
  rw [e]
  exact ⟨h1, fun x => ⟨fun h => ((h3 x).mp h).2, fun h => (h3 x).mpr ⟨Nat.zero_le _, h⟩⟩⟩
end My
/-! ### rooms of marks: the law's blocks are the greatest ones of the marked addresses -/
namespace My
open PySem PySem.Spec PyProof.Rows L2
theorem widthM_spec (bs : List Bool) (spot : Nat) : ∀ j : Nat, ∃ i, i ≤ j ∧ widthM bs spot (2 ^ j) = 2 ^ i ∧ (i = 0 ∨ fits bs spot (2 ^ i) = true) ∧ (i = j ∨ fits bs spot (2 ^ (i + 1)) = false)
  | 0 => ⟨0, Nat.le_refl _, by rw [widthM_eq, if_pos (by decide)], .inl rfl, .inl rfl⟩
  | j + 1 => by
    have h2 : ¬ 2 ^ (j + 1) ≤ 1 := by
      have := Nat.two_pow_pos j
      rw [Nat.pow_succ]
      omega
    rw [widthM_eq, if_neg h2]
    by_cases h : fits bs spot (2 ^ (j + 1)) = true
    · rw [if_pos h]
      exact ⟨j + 1, Nat.le_refl _, rfl, .inr h, .inl rfl⟩
    · rw [if_neg h]
      have e : 2 ^ (j + 1) / 2 = 2 ^ j := by rw [Nat.pow_succ, Nat.mul_div_cancel _ (by decide)]
      rw [e]
      obtain ⟨i, h1, h3, h4, h5⟩ := widthM_spec bs spot j
      refine ⟨i, by omega, h3, h4, .inr ?_⟩
      rcases h5 with rfl | h5
      · exact Bool.eq_false_iff.mpr h
      · exact h5
theorem fits_true {bs : List Bool} {spot w : Nat} (h : fits bs spot w = true) : spot % w = 0 ∧ ∀ k, spot ≤ k → k < spot + w → k < bs.length → bs[k]? = some true := by
  unfold fits at h
  rw [Bool.and_eq_true] at h
  obtain ⟨h1, h2⟩ := h
  refine ⟨of_decide_eq_true h1, fun k k1 k2 k3 => ?_⟩
  have e := List.getElem?_eq_getElem k3
  cases hb : bs[k] with
  | true => rw [e, hb]
  | false =>
    exfalso
    have m : false ∈ (bs.drop spot).take w := by
      refine List.mem_iff_getElem?.mpr ⟨k - spot, ?_⟩
      rw [List.getElem?_take, if_pos (by omega), List.getElem?_drop, Nat.add_sub_cancel' k1, e, hb]
    have c : ((bs.drop spot).take w).contains false = true := List.contains_iff_mem.mpr m
    rw [c] at h2
    cases h2
theorem fits_false {bs : List Bool} {spot w : Nat} (h : fits bs spot w = false) : spot % w ≠ 0 ∨ ∃ k, spot ≤ k ∧ k < spot + w ∧ bs[k]? = some false := by
  unfold fits at h
  by_cases h1 : spot % w = 0
  · right
    rw [decide_eq_true h1, Bool.true_and] at h
    have c : ((bs.drop spot).take w).contains false = true := by
      cases hc : ((bs.drop spot).take w).contains false with
      | true => rfl
      | false =>
        rw [hc] at h
        cases h
    have m := List.contains_iff_mem.mp c
    obtain ⟨j, hj⟩ := List.mem_iff_getElem?.mp m
    rw [List.getElem?_take] at hj
    split at hj
    · rw [List.getElem?_drop] at hj
      exact ⟨spot + j, by omega, by omega, hj⟩
    · cases hj
  · exact .inl h1
theorem pow_lt {a b : Nat} (h : 2 ^ a < 2 ^ b) : a < b := Nat.lt_of_not_le fun q => by
  have : 2 ^ b ≤ 2 ^ a := Nat.pow_le_pow_right (by decide) q
  omega
theorem size_uniq {s e k : Nat} (hlt : s < e) (he : e ≤ 2 ^ 48) (h1 : s % 2 ^ k = 0) (h2 : s + 2 ^ k ≤ e) (h3 : s % 2 ^ (k + 1) ≠ 0 ∨ e < s + 2 ^ (k + 1)) : sizeN s e = 2 ^ k := by
  obtain ⟨a, a1, a2, a3, a4⟩ := aligned_pow s
  have f1 := fitting_le (r := e - s) (by omega)
  have f2 := fitting_lt (r := e - s) (by omega)
  unfold fittingN at f1 f2
  have ka : k ≤ a := by
    by_cases z : 0 < s
    · exact Nat.le_of_not_lt fun q => a3 z (mod_pow_le h1 (by omega))
    · have e0 := a4 (by omega)
      have : 2 ^ k < 2 ^ 49 := by omega
      have := pow_lt this
      omega
  have kf : k ≤ (e - s).log2 := by
    have e1 : 2 * 2 ^ (e - s).log2 = 2 ^ ((e - s).log2 + 1) := by rw [Nat.pow_succ, Nat.mul_comm]
    have : 2 ^ k < 2 ^ ((e - s).log2 + 1) := by omega
    have := pow_lt this
    omega
  have km : a ≤ k ∨ (e - s).log2 ≤ k := by
    rcases h3 with h3 | h3
    · exact .inl (Nat.le_of_not_lt fun q => h3 (mod_pow_le a2 (by omega)))
    · right
      have : 2 ^ (e - s).log2 < 2 ^ (k + 1) := by omega
      have := pow_lt this
      omega
  unfold sizeN fittingN
  rw [a1]
  rcases km with h | h
  · have e1 : a = k := by omega
    subst e1
    have : 2 ^ a ≤ 2 ^ (e - s).log2 := Nat.pow_le_pow_right (by decide) kf
    rw [if_neg (by omega)]
  · have e1 : (e - s).log2 = k := by omega
    rw [e1]
    have : 2 ^ k ≤ 2 ^ a := Nat.pow_le_pow_right (by decide) ka
    split
    · rfl
    · omega
/-- an address is marked -/
def inMark (u F : Nat) (bs : List Bool) (x : Nat) : Prop := F ≤ x ∧ bs[(x - F) / 2 ^ u]? = some true
def scl (u F : Nat) (b : Pr) : Pr := (F + b.1 * 2 ^ u, b.2 * 2 ^ u)
theorem div_at {u F k x : Nat} (h1 : F + k * 2 ^ u ≤ x) (h2 : x < F + (k + 1) * 2 ^ u) : (x - F) / 2 ^ u = k := by
  have h3 := Nat.two_pow_pos u
  rw [Nat.add_mul, Nat.one_mul] at h2
  refine Nat.div_eq_of_lt_le ?_ ?_
  · omega
  · rw [Nat.succ_mul]
    omega
theorem div_lo {u F k x : Nat} (hF : F ≤ x) (h : k ≤ (x - F) / 2 ^ u) : F + k * 2 ^ u ≤ x := by
  have := (Nat.le_div_iff_mul_le (Nat.two_pow_pos u)).mp h
  omega
theorem lo_div {u F k x : Nat} (h : F + k * 2 ^ u ≤ x) : k ≤ (x - F) / 2 ^ u := (Nat.le_div_iff_mul_le (Nat.two_pow_pos u)).mpr (by omega)
theorem div_hi {u F k x : Nat} (hF : F ≤ x) (h : (x - F) / 2 ^ u < k) : x < F + k * 2 ^ u := by
  have := (Nat.div_lt_iff_lt_mul (Nat.two_pow_pos u)).mp h
  omega
theorem hi_div {u F k x : Nat} (hF : F ≤ x) (h : x < F + k * 2 ^ u) : (x - F) / 2 ^ u < k := (Nat.div_lt_iff_lt_mul (Nat.two_pow_pos u)).mpr (by omega)
theorem mark_hi {u F : Nat} {bs : List Bool} {x : Nat} (h : inMark u F bs x) : x < F + bs.length * 2 ^ u := by
  obtain ⟨h1, h2⟩ := h
  refine div_hi h1 ?_
  exact (List.getElem?_eq_some_iff.mp h2).1
/-- the walk of the law, step by step: what it does at a spot -/
theorem walk_step {bs : List Bool} (hl : bs.length = 64) {spot : Nat} (hs : spot < 64) : ∃ i, i ≤ 6 ∧ widthM bs spot 64 = 2 ^ i ∧ (bs[spot]? = some false → i = 0) ∧
    (bs[spot]? = some true → spot % 2 ^ i = 0 ∧ spot + 2 ^ i ≤ 64 ∧ (∀ k, spot ≤ k → k < spot + 2 ^ i → bs[k]? = some true) ∧ (i = 6 ∨ spot % 2 ^ (i + 1) ≠ 0 ∨ ∃ k, spot ≤ k ∧ k < spot + 2 ^ (i + 1) ∧ bs[k]? = some false)) := by
  obtain ⟨i, h1, h2, h3, h4⟩ := widthM_spec bs spot 6
  refine ⟨i, h1, h2, fun hf => ?_, fun ht => ?_⟩
  · rcases h3 with h3 | h3
    · exact h3
    · obtain ⟨_, k⟩ := fits_true h3
      have := k spot (Nat.le_refl _) (by have := Nat.two_pow_pos i; omega) (by omega)
      rw [hf] at this
      cases this
  · have hm : spot % 2 ^ i = 0 := by
      rcases h3 with rfl | h3
      · exact Nat.mod_one spot
      · exact (fits_true h3).1
    have hle : spot + 2 ^ i ≤ 64 := by
      obtain ⟨q, hq⟩ := Nat.dvd_of_mod_eq_zero hm
      have e : 64 = 2 ^ i * 2 ^ (6 - i) := by
        rw [← Nat.pow_add]
        have : i + (6 - i) = 6 := by omega
        rw [this]
      have lt : q < 2 ^ (6 - i) := by
        refine Nat.lt_of_mul_lt_mul_left (a := 2 ^ i) ?_
        omega
      have : 2 ^ i * (q + 1) ≤ 2 ^ i * 2 ^ (6 - i) := Nat.mul_le_mul_left _ lt
      rw [Nat.mul_add, Nat.mul_one] at this
      omega
    refine ⟨hm, hle, fun k k1 k2 => ?_, ?_⟩
    · rcases h3 with rfl | h3
      · have : k = spot := by
          rw [Nat.pow_zero] at k2
          omega
        rw [this]
        exact ht
      · exact (fits_true h3).2 k k1 k2 (by omega)
    · rcases h4 with h4 | h4
      · exact .inl h4
      · exact .inr (fits_false h4)
theorem room_runs {u F : Nat} {bs : List Bool} (hl : bs.length = 64) (hF : F % 2 ^ (u + 6) = 0) (hM : F + 64 * 2 ^ u ≤ 2 ^ 48) : ∀ (n spot : Nat) (S : List Pr), 64 - spot = n → Canon S →
    (∀ x, memS S x ↔ inMark u F bs x ∧ F + spot * 2 ^ u ≤ x) → roomP S = (roomM bs spot).map (scl u F) := by
  intro n
  induction n using Nat.strongRecOn with
  | ind n ih =>
    intro spot S hn hc hS
    have hu := Nat.two_pow_pos u
    by_cases hs : spot < 64
    · obtain ⟨i, i1, i2, i3, i4⟩ := walk_step hl hs
      have hi0 := Nat.two_pow_pos i
      have hsl : spot < bs.length := by omega
      have eg := List.getElem?_eq_getElem hsl
      rw [roomM_lt hsl, hl, i2]
      cases hb : bs[spot] with
      | false =>
        rw [hb] at eg
        have := i3 eg
        subst this
        rw [if_neg (by decide), List.nil_append]
        refine ih (64 - (spot + 2 ^ 0)) (by rw [Nat.pow_zero]; omega) _ S rfl hc fun x => ?_
        rw [hS]
        refine and_congr_right fun hx => ?_
        constructor
        · intro h
          have h1 := lo_div h
          rcases Nat.lt_or_ge spot ((x - F) / 2 ^ u) with k | k
          · exact div_lo hx.1 k
          · have e : (x - F) / 2 ^ u = spot := by omega
            have := hx.2
            rw [e, eg] at this
            cases this
        · intro h
          rw [Nat.pow_zero, Nat.add_mul] at h
          omega
      | true =>
        rw [hb] at eg
        obtain ⟨t1, t2, t3, t4⟩ := i4 eg
        rw [if_pos rfl]
        -- the address where the block begins
        have m0 : memS S (F + spot * 2 ^ u) := (hS _).mpr ⟨⟨by omega, by rw [div_at (Nat.le_refl _) (by rw [Nat.add_mul]; omega)]; exact eg⟩, Nat.le_refl _⟩
        cases S with
        | nil => exact absurd m0 (memS_nil _)
        | cons p ps =>
          obtain ⟨c1, c2, c3⟩ := canon_cons.mp hc
          have p1 : p.1 = F + spot * 2 ^ u := by
            have k1 := ((hS p.1).mp (memS_cons.mpr (.inl ⟨Nat.le_refl _, c1⟩))).2
            rcases memS_cons.mp m0 with k | k
            · omega
            · have := mem_above c2 k
              omega
          have p2 : p.2 ≤ F + 64 * 2 ^ u := by
            have k1 := ((hS (p.2 - 1)).mp (memS_cons.mpr (.inl ⟨by omega, by omega⟩))).1
            have := mark_hi k1
            rw [hl] at this
            omega
          have ew : 2 ^ i * 2 ^ u = 2 ^ (i + u) := (Nat.pow_add 2 i u).symm
          have hw : F + spot * 2 ^ u + 2 ^ (i + u) ≤ p.2 := by
            refine Nat.le_of_not_lt fun q => ?_
            have k1 : memS (p :: ps) p.2 := (hS _).mpr ⟨⟨by omega, ?_⟩, by omega⟩
            · rcases memS_cons.mp k1 with k | k
              · omega
              · have := mem_above c2 k
                omega
            · refine t3 _ (lo_div (by omega)) (hi_div (by omega) ?_)
              rw [Nat.add_mul, ew]
              omega
          have d1 : 2 ^ (i + u) ∣ F := Nat.dvd_trans (Nat.pow_dvd_pow 2 (by omega)) (Nat.dvd_of_mod_eq_zero hF)
          have d2 : 2 ^ (i + u) ∣ spot * 2 ^ u := by
            rw [Nat.pow_add]
            exact Nat.mul_dvd_mul_right (Nat.dvd_of_mod_eq_zero t1) _
          have hsz : sizeN (F + spot * 2 ^ u) p.2 = 2 ^ (i + u) := by
            refine size_uniq (by omega) (by omega) (Nat.mod_eq_zero_of_dvd (Nat.dvd_add d1 d2)) hw ?_
            rcases t4 with t4 | t4 | ⟨k, k1, k2, k3⟩
            · right
              subst t4
              have : spot = 0 := by
                have e : (2 : Nat) ^ 6 = 64 := rfl
                omega
              subst this
              have e : 2 ^ (6 + u + 1) = 128 * 2 ^ u := by
                rw [Nat.pow_succ, Nat.pow_add]
                have : (2 : Nat) ^ 6 = 64 := rfl
                omega
              omega
            · left
              intro z
              apply t4
              by_cases h6 : i + 1 ≤ 6
              · have d3 : 2 ^ (i + u + 1) ∣ F := Nat.dvd_trans (Nat.pow_dvd_pow 2 (by omega)) (Nat.dvd_of_mod_eq_zero hF)
                have d4 := (Nat.dvd_add_right d3).mp (Nat.dvd_of_mod_eq_zero z)
                have e : 2 ^ (i + u + 1) = 2 ^ (i + 1) * 2 ^ u := by
                  rw [← Nat.pow_add]
                  congr 1
                  omega
                rw [e] at d4
                exact Nat.mod_eq_zero_of_dvd (Nat.dvd_of_mul_dvd_mul_right hu d4)
              · have e6 : i = 6 := by omega
                subst e6
                have e : (2 : Nat) ^ 6 = 64 := rfl
                have : spot = 0 := by omega
                rw [this]
            · right
              have k4 : ¬ memS (p :: ps) (F + k * 2 ^ u) := fun h => by
                have := ((hS _).mp h).1.2
                rw [div_at (Nat.le_refl _) (by rw [Nat.add_mul]; omega), k3] at this
                cases this
              have k5 : spot * 2 ^ u ≤ k * 2 ^ u := Nat.mul_le_mul_right _ k1
              have k6 : p.2 ≤ F + k * 2 ^ u := Nat.le_of_not_lt fun q => k4 (memS_cons.mpr (.inl ⟨by omega, q⟩))
              have k7 : k * 2 ^ u < (spot + 2 ^ (i + 1)) * 2 ^ u := Nat.mul_lt_mul_of_pos_right k2 hu
              have e : 2 ^ (i + u + 1) = 2 ^ (i + 1) * 2 ^ u := by
                rw [← Nat.pow_add]
                congr 1
                omega
              rw [Nat.add_mul] at k7
              omega
          have eR : roomP (p :: ps) = (F + spot * 2 ^ u, 2 ^ (i + u)) :: (greatM (F + spot * 2 ^ u + 2 ^ (i + u)) p.2 ++ roomP ps) := by
            show (p :: ps).flatMap (fun p => greatM p.1 p.2) = _
            rw [List.flatMap_cons, p1, greatM_lt (by omega), hsz]
            rfl
          have eN : F + (spot + 2 ^ i) * 2 ^ u = F + spot * 2 ^ u + 2 ^ (i + u) := by
            rw [Nat.add_mul, ew]
            omega
          have next : greatM (F + spot * 2 ^ u + 2 ^ (i + u)) p.2 ++ roomP ps = (roomM bs (spot + 2 ^ i)).map (scl u F) := by
            rcases Nat.lt_or_ge (F + spot * 2 ^ u + 2 ^ (i + u)) p.2 with k | k
            · have := ih (64 - (spot + 2 ^ i)) (by omega) (spot + 2 ^ i) ((F + spot * 2 ^ u + 2 ^ (i + u), p.2) :: ps) rfl (canon_cons.mpr ⟨k, c2, c3⟩) fun x => ?_
              · exact this
              · have hx := hS x
                rw [memS_cons] at hx
                rw [memS_cons, eN]
                show (F + spot * 2 ^ u + 2 ^ (i + u) ≤ x ∧ x < p.2) ∨ memS ps x ↔ _
                have up : memS ps x → p.2 < x := mem_above c2
                constructor
                · rintro (h | h)
                  · exact ⟨(hx.mp (.inl ⟨by omega, h.2⟩)).1, h.1⟩
                  · have := up h
                    exact ⟨(hx.mp (.inr h)).1, by omega⟩
                · rintro ⟨h1, h2⟩
                  rcases hx.mpr ⟨h1, by omega⟩ with h | h
                  · exact .inl ⟨h2, h.2⟩
                  · exact .inr h
            · rw [greatM_ge k, List.nil_append]
              refine ih (64 - (spot + 2 ^ i)) (by omega) (spot + 2 ^ i) ps rfl c3 fun x => ?_
              have hx := hS x
              rw [memS_cons] at hx
              rw [eN]
              have up : memS ps x → p.2 < x := mem_above c2
              constructor
              · intro h
                have := up h
                exact ⟨(hx.mp (.inr h)).1, by omega⟩
              · rintro ⟨h1, h2⟩
                rcases hx.mpr ⟨h1, by omega⟩ with h | h
                · omega
                · exact h
          rw [eR, next]
          show _ = (scl u F (spot, 2 ^ i)) :: (roomM bs (spot + 2 ^ i)).map (scl u F)
          unfold scl
          rw [ew]
    · rw [roomM_ge (by omega)]
      have e : S = [] := by
        cases S with
        | nil => rfl
        | cons p ps =>
          obtain ⟨c1, _⟩ := canon_cons.mp hc
          obtain ⟨k1, k2⟩ := (hS p.1).mp (memS_cons.mpr (.inl ⟨Nat.le_refl _, c1⟩))
          have k3 := mark_hi k1
          rw [hl] at k3
          have : 64 * 2 ^ u ≤ spot * 2 ^ u := Nat.mul_le_mul_right _ (by omega)
          omega
      rw [e]
      rfl
/-- the addresses of the law's blocks -/
theorem marks_mem {u F : Nat} {bs : List Bool} (hl : bs.length = 64) : ∀ (n spot : Nat), 64 - spot = n →
    (∀ x, memB ((roomM bs spot).map (scl u F)) x ↔ inMark u F bs x ∧ F + spot * 2 ^ u ≤ x) ∧ (∀ b ∈ (roomM bs spot).map (scl u F), 0 < b.2 ∧ F + spot * 2 ^ u ≤ b.1 ∧ b.1 + b.2 ≤ F + 64 * 2 ^ u) ∧ Asc ((roomM bs spot).map (scl u F)) := by
  intro n
  induction n using Nat.strongRecOn with
  | ind n ih =>
    intro spot hn
    have hu := Nat.two_pow_pos u
    by_cases hs : spot < 64
    · obtain ⟨i, i1, i2, i3, i4⟩ := walk_step hl hs
      have hi0 := Nat.two_pow_pos i
      have hsl : spot < bs.length := by omega
      have eg := List.getElem?_eq_getElem hsl
      rw [roomM_lt hsl, hl, i2]
      obtain ⟨r1, r2, r3⟩ := ih (64 - (spot + 2 ^ i)) (by omega) (spot + 2 ^ i) rfl
      have eN : F + (spot + 2 ^ i) * 2 ^ u = F + spot * 2 ^ u + 2 ^ i * 2 ^ u := by
        rw [Nat.add_mul]
        omega
      have hp : 0 < 2 ^ i * 2 ^ u := Nat.mul_pos hi0 hu
      cases hb : bs[spot] with
      | false =>
        rw [hb] at eg
        have := i3 eg
        subst this
        rw [if_neg (by decide), List.nil_append]
        refine ⟨fun x => ?_, fun b m => ?_, r3⟩
        · rw [r1]
          refine and_congr_right fun hx => ?_
          constructor
          · intro h
            omega
          · intro h
            have h1 := lo_div h
            rcases Nat.lt_or_ge spot ((x - F) / 2 ^ u) with k | k
            · exact div_lo hx.1 k
            · have e : (x - F) / 2 ^ u = spot := by omega
              have := hx.2
              rw [e, eg] at this
              cases this
        · obtain ⟨k1, k2, k3⟩ := r2 b m
          exact ⟨k1, by omega, k3⟩
      | true =>
        rw [hb] at eg
        obtain ⟨t1, t2, t3, t4⟩ := i4 eg
        rw [if_pos rfl]
        show (∀ x, memB (scl u F (spot, 2 ^ i) :: (roomM bs (spot + 2 ^ i)).map (scl u F)) x ↔ _) ∧ (∀ b ∈ scl u F (spot, 2 ^ i) :: (roomM bs (spot + 2 ^ i)).map (scl u F), _) ∧ Asc (scl u F (spot, 2 ^ i) :: (roomM bs (spot + 2 ^ i)).map (scl u F))
        refine ⟨fun x => ?_, fun b m => ?_, List.pairwise_cons.mpr ⟨fun b m => ?_, r3⟩⟩
        · rw [memB_cons, r1]
          show (F + spot * 2 ^ u ≤ x ∧ x < F + spot * 2 ^ u + 2 ^ i * 2 ^ u) ∨ _ ↔ _
          constructor
          · rintro (⟨h1, h2⟩ | ⟨h1, h2⟩)
            · refine ⟨⟨by omega, t3 _ (lo_div h1) (hi_div (by omega) (by omega))⟩, h1⟩
            · exact ⟨h1, by omega⟩
          · rintro ⟨h1, h2⟩
            rcases Nat.lt_or_ge x (F + spot * 2 ^ u + 2 ^ i * 2 ^ u) with k | k
            · exact .inl ⟨h2, k⟩
            · exact .inr ⟨h1, by omega⟩
        · rcases List.mem_cons.mp m with rfl | m
          · refine ⟨hp, Nat.le_refl _, ?_⟩
            show F + spot * 2 ^ u + 2 ^ i * 2 ^ u ≤ F + 64 * 2 ^ u
            have : (spot + 2 ^ i) * 2 ^ u ≤ 64 * 2 ^ u := Nat.mul_le_mul_right _ t2
            omega
          · obtain ⟨k1, k2, k3⟩ := r2 b m
            exact ⟨k1, by omega, k3⟩
        · obtain ⟨k1, k2, k3⟩ := r2 b m
          show F + spot * 2 ^ u ≤ b.1
          omega
    · rw [roomM_ge (by omega)]
      refine ⟨fun x => ⟨fun h => absurd h (memB_nil x), fun ⟨h1, h2⟩ => ?_⟩, fun b m => (by cases m), .nil⟩
      have k3 := mark_hi h1
      rw [hl] at k3
      have : 64 * 2 ^ u ≤ spot * 2 ^ u := Nat.mul_le_mul_right _ (by omega)
      omega
end My
/-! ### reprs of lists of rooms -/
namespace My
open PySem PySem.Spec PyProof.Rows L2
def SmallP (r : List Pr) : Prop := ∀ b ∈ r, b.1 ≤ 2 ^ 48 ∧ b.2 ≤ 2 ^ 48
theorem shown_nat {n : Nat} (h : n ≤ 2 ^ 48) : (PyData.shown (.int (n : Int))).length ≤ 16 := by
  have hn : (n : Int).natAbs < 10 ^ 15 := by
    rw [Int.natAbs_natCast]
    have : (2 : Nat) ^ 48 < 10 ^ 15 := by decide
    omega
  have e := int_text_length_le10 (k := 15) (by decide) hn
  show (Str.ofString (toString (n : Int))).length ≤ 16
  rw [PySem.ofString_length]
  exact e
theorem log_nat {n : Nat} (h : n ≤ 2 ^ 48) : n.log2 ≤ 48 := by
  by_cases z : n = 0
  · rw [z]
    decide
  · have h1 := Nat.log2_self_le z
    have h2 : 2 ^ n.log2 < 2 ^ 49 := by
      have : (2 : Nat) ^ 48 < 2 ^ 49 := by decide
      omega
    have := pow_lt h2
    omega
theorem weight_nat {n : Nat} (h : n ≤ 2 ^ 48) : PyData.weight (.int (n : Int)) ≤ 49 := by
  have := log_nat h
  show (if ((n : Int) == 0) = true then 0 else (n : Int).natAbs.log2 + 1) ≤ 49
  rw [Int.natAbs_natCast]
  split <;> omega
theorem pairs_ok : ∀ r : List Pr, SmallP r → PyData.showableAll (prsD r) = true ∧ PyData.leavesShortAll 16 (prsD r) = true ∧ PyData.hasDictAll (prsD r) = false ∧ PyData.weightAll (prsD r) ≤ 101 * r.length ∧ PyData.depthAll (prsD r) ≤ 2
  | [], _ => by simp [prsD, PyData.showableAll, PyData.leavesShortAll, PyData.hasDictAll, PyData.weightAll, PyData.depthAll]
  | b :: r, h => by
    obtain ⟨h1, h2, h3, h4, h5⟩ := pairs_ok r fun c m => h c (List.mem_cons_of_mem _ m)
    obtain ⟨b1, b2⟩ := h b List.mem_cons_self
    have s1 := shown_nat b1
    have s2 := shown_nat b2
    have l1 := log_nat b1
    have l2 := log_nat b2
    have w1 := weight_nat b1
    have w2 := weight_nat b2
    refine ⟨?_, ?_, ?_, ?_, ?_⟩
    · show (PyData.showable (.tuple [.int (b.1 : Int), .int (b.2 : Int)]) && PyData.showableAll (prsD r)) = true
      rw [h1, Bool.and_true]
      show (decide ((b.1 : Int).natAbs.log2 < 1920) && (decide ((b.2 : Int).natAbs.log2 < 1920) && true)) = true
      rw [Int.natAbs_natCast, Int.natAbs_natCast, decide_eq_true (by omega), decide_eq_true (by omega)]
      rfl
    · show (PyData.leavesShort 16 (.tuple [.int (b.1 : Int), .int (b.2 : Int)]) && PyData.leavesShortAll 16 (prsD r)) = true
      rw [h2, Bool.and_true]
      show (decide ((PyData.shown (.int (b.1 : Int))).length ≤ 16) && (decide ((PyData.shown (.int (b.2 : Int))).length ≤ 16) && true)) = true
      rw [decide_eq_true s1, decide_eq_true s2]
      rfl
    · show (PyData.hasDict (.tuple [.int (b.1 : Int), .int (b.2 : Int)]) || PyData.hasDictAll (prsD r)) = false
      rw [h3]
      rfl
    · show PyData.weight (.tuple [.int (b.1 : Int), .int (b.2 : Int)]) + 1 + PyData.weightAll (prsD r) ≤ 101 * (r.length + 1)
      have e : PyData.weight (.tuple [.int (b.1 : Int), .int (b.2 : Int)]) = PyData.weight (.int (b.1 : Int)) + 1 + (PyData.weight (.int (b.2 : Int)) + 1 + 0) := rfl
      rw [e]
      omega
    · show PyData.depthAll (.tuple [.int (b.1 : Int), .int (b.2 : Int)] :: prsD r) ≤ 2
      simp only [PyData.depthAll, PyData.depth] at h5 ⊢
      omega
def roomsD (rs : List (List Pr)) : List PyData := rs.map fun r => .tuple (prsD r)
theorem rooms_ok : ∀ rs : List (List Pr), (∀ r ∈ rs, SmallP r ∧ r.length ≤ 64) →
    PyData.showableAll (roomsD rs) = true ∧ PyData.leavesShortAll 16 (roomsD rs) = true ∧ PyData.hasDictAll (roomsD rs) = false ∧ PyData.weightAll (roomsD rs) ≤ 6465 * rs.length ∧ PyData.depthAll (roomsD rs) ≤ 4
  | [], _ => by simp [roomsD, PyData.showableAll, PyData.leavesShortAll, PyData.hasDictAll, PyData.weightAll, PyData.depthAll]
  | r :: rs, h => by
    obtain ⟨h1, h2, h3, h4, h5⟩ := rooms_ok rs fun c m => h c (List.mem_cons_of_mem _ m)
    obtain ⟨hs, hl⟩ := h r List.mem_cons_self
    obtain ⟨p1, p2, p3, p4, p5⟩ := pairs_ok r hs
    refine ⟨?_, ?_, ?_, ?_, ?_⟩
    · show (PyData.showableAll (prsD r) && PyData.showableAll (roomsD rs)) = true
      rw [h1, p1]
      rfl
    · show (PyData.leavesShortAll 16 (prsD r) && PyData.leavesShortAll 16 (roomsD rs)) = true
      rw [h2, p2]
      rfl
    · show (PyData.hasDictAll (prsD r) || PyData.hasDictAll (roomsD rs)) = false
      rw [h3, p3]
      rfl
    · show PyData.weightAll (prsD r) + 1 + PyData.weightAll (roomsD rs) ≤ 6465 * (rs.length + 1)
      omega
    · show PyData.depthAll (.tuple (prsD r) :: roomsD rs) ≤ 4
      simp only [PyData.depthAll, PyData.depth] at h5 p5 ⊢
      omega
theorem rep_facts {rs : List (List Pr)} (hr : ∀ r ∈ rs, SmallP r ∧ r.length ≤ 64) (hn : rs.length ≤ 16) : (PyData.list (roomsD rs)).showable = true ∧ (PyData.list (roomsD rs)).hasDict = false ∧ (PyData.shown (.list (roomsD rs))).length ≤ sizeLine ∧ PyData.depth (.list (roomsD rs)) ≤ 40 := by
  obtain ⟨h1, h2, h3, h4, h5⟩ := rooms_ok rs hr
  refine ⟨h1, h3, ?_, ?_⟩
  · have h := PyData.shown_le 16 (by decide) (.list (roomsD rs)) h2
    have e : PyData.weight (.list (roomsD rs)) = PyData.weightAll (roomsD rs) := rfl
    rw [e] at h
    exact Nat.le_of_lt (sz_of (by omega))
  · simp only [PyData.depth]
    omega
/-- the law's blocks as pairs of numbers -/
theorem blks_prs (u F : Nat) : ∀ bs : List (Nat × Nat), blksD ((2 ^ u : Nat) : Int) (F : Int) bs = prsD (bs.map (scl u F))
  | [] => rfl
  | b :: bs => by
    have ih := blks_prs u F bs
    unfold blksD prsD at ih ⊢
    rw [List.map_cons, List.map_cons, List.map_cons, ih]
    congr 1
end My
/-! ### list(zip(a, b)) of two lists: a rule that the hand layer has not -/
namespace My
open PySem PySem.Spec PyProof.Rows L2
def tListZip (K : PySem.W.Frag) (ta : TA) : TE := fun σ H Q => ta σ H fun vs H1 => ∃ (a b : Addr) (xs ys : List V), vs = [.ref a, .ref b] ∧ SqL K H1 a xs ∧ SqL K H1 b ys ∧ xs.length = ys.length ∧ 0 < xs.length ∧ xs.length ≤ 1000 ∧
  ∀ (H2 : Hp) (p : Addr) (zs : List V), Same H1 H2 → H2 p = some (.lst zs) → zs.length = xs.length →
    (∀ (i : Nat) (z : V), zs[i]? = some z → ∃ (t : Addr) (x y : V), z = .ref t ∧ H2 t = some (.tup [x, y]) ∧ xs[i]? = some x ∧ ys[i]? = some y) → Q (.ref p) H2
def PairsOf (H : Hp) (zs xs ys : List V) : Prop := ∀ (i : Nat) (z : V), zs[i]? = some z → ∃ (t : Addr) (x y : V), z = .ref t ∧ H t = some (.tup [x, y]) ∧ xs[i]? = some x ∧ ys[i]? = some y
theorem zip_no_len : typeLookup (.type "zip") "__len__" = pure none := by rw [typeLookup_type, builtinLookup_eq_fast]; kernel_rfl
theorem zip_no_hint : typeLookup (.type "zip") "__length_hint__" = pure none := by rw [typeLookup_type, builtinLookup_eq_fast]; kernel_rfl
theorem fpOk_change {X : Cx} {pins : List (Addr × Obj)} {H H' : Hp} {b : Addr} (h : FpOk X pins H b) (e : H' b = none) : FpOk X pins H' b := ⟨e, h.2⟩
section
variable {X : Cx} {A : Around} {R : Result → Shared → Prop} {res : Value} {pins : List (Addr × Obj)} {σ : L2.St} {z TI TO i1 i2 a b S : Addr} {xs ys : List V} {H1 : Hp}
/-- the pairs, one more: what the tracked heap says -/
theorem pairs_more {Hc : Hp} {zs : List V} {N : Addr} {i : Nat} {x y : V} (hp : PairsOf Hc zs xs ys) (hS : Hc S = some (.lst zs)) (hN : Hc N = none) (hl : zs.length = i) (hx : xs[i]? = some x) (hy : ys[i]? = some y) :
    PairsOf (upd (upd Hc N (.tup [x, y])) S (.lst (zs ++ [.ref N]))) (zs ++ [.ref N]) xs ys := by
  have nSN : S ≠ N := ne_of_none hS hN
  intro j zv hj
  rcases Nat.lt_or_ge j zs.length with h | h
  · rw [List.getElem?_append_left h] at hj
    obtain ⟨t, x', y', e, et, ex, ey⟩ := hp j zv hj
    refine ⟨t, x', y', e, ?_, ex, ey⟩
    rw [upd_ne (ne_of et hS (fun z => by cases z)), upd_ne (ne_of_none et hN)]
    exact et
  · rw [List.getElem?_append_right h] at hj
    have e0 : j - zs.length = 0 := by
      have := (List.getElem?_eq_some_iff.mp hj).1
      simp at this
      omega
    rw [e0] at hj
    cases hj
    have ej : j = i := by omega
    subst ej
    exact ⟨N, x, y, rfl, by rw [upd_ne nSN.symm, upd_same], hx, hy⟩
theorem zip_loop (hA : A.in1.handled = none) (D : ZipApart z TI TO i1 i2 a b) (hlen : xs.length = ys.length) (hz : xs.length ≤ 1000) (hqx : SqL X.K H1 a xs) (hqy : SqL X.K H1 b ys) (nS : H1 S = none) (hSc : S ∉ [z, TI, TO, i1, i2])
    (fin : ∀ (s' : Shared) (H' : Hp) (zs : List V), Inv X pins σ H' s' → Same H1 H' → H' S = some (.lst zs) → zs.length = xs.length → PairsOf H' zs xs ys → R (.ok (.ret res)) s') :
    ∀ (k i : Nat) (s : Shared) (Hc : Hp) (zs : List V) (T : Addr) (f : Bool) (oT oO : Obj), xs.length - i = k → i ≤ xs.length → Inv X pins σ Hc s → (∀ c ∈ [z, TI, TO, i1, i2], FpOk X pins Hc c) → Same H1 Hc → Hc S = some (.lst zs) → zs.length = i → PairsOf Hc zs xs ys →
      IsZipHeld s.heap z TI TO T f → s.heap.get? T = some oT → s.heap.get? TO = some oO → T ∉ [z, TI, TO, i1, i2] → T ≠ S → IsPair s.heap TI (.ref i1) (.ref i2) → s.heap.IsListIter i1 a i → s.heap.IsListIter i2 b i →
      codeAny (model X.prog X.w) A (.builtin "list.extend.loop" ⟨[.ref S, .ref z, res], []⟩) R s := by
  have hS5 : S ≠ z ∧ S ≠ TI ∧ S ≠ TO ∧ S ≠ i1 ∧ S ≠ i2 := by simpa using hSc
  obtain ⟨Sz, STI, STO, Si1, Si2⟩ := hS5
  intro k
  induction k with
  | zero =>
    intro i s Hc zs T f oT oO hk hi I hf sm hS hl hp hzh hT hO hTc hTS hTI h1 h2
    refine codeAny_builtin F.entry_extend_loop ?_
    rw [Around.under_plainId F.plain_extend_loop _]
    show wpAny _ A.in1 (pyNext (.ref z) >>= _) _ _ s
    obtain ⟨its, rv, p1, _⟩ := I.list (sm.seq hqx)
    obtain ⟨its2, rv2, p2, _⟩ := I.list (sm.seq hqy)
    have l1 := rv.length
    have l2 := rv2.length
    refine wpAny_bind (wpAny_pyNext_zip_end_held hA D hzh hT hTI h1 h2 p1.isList p2.isList (.inl (by simp; omega)) fun h' hk' => ?_)
    have I1 : Inv X pins σ Hc { s with heap := h' } := I.turnedL (t' := s.toks) (ch := [z, TI, TO, i1, i2]) (fun c o hb q => hk' c o (fun q' => hb (by simp [q'])) (fun q' => hb (by simp [q'])) (fun q' => hb (by simp [q'])) q) hf
    exact wpAny_pure (fin _ Hc zs I1 sm hS (by omega) hp)
  | succ k ih =>
    intro i s Hc zs T f oT oO hk hi I hf sm hS hl hp hzh hT hO hTc hTS hTI h1 h2
    refine codeAny_builtin F.entry_extend_loop ?_
    rw [Around.under_plainId F.plain_extend_loop _]
    show wpAny _ A.in1 (pyNext (.ref z) >>= _) _ _ s
    obtain ⟨its, rv, p1, _⟩ := I.list (sm.seq hqx)
    obtain ⟨its2, rv2, p2, _⟩ := I.list (sm.seq hqy)
    have hx := List.getElem?_eq_getElem (l := xs) (i := i) (by omega)
    have hy := List.getElem?_eq_getElem (l := ys) (i := i) (by omega)
    obtain ⟨u, hu, ru⟩ := rv.get hx
    obtain ⟨u2, hu2, ru2⟩ := rv2.get hy
    have hT5 : T ≠ z ∧ T ≠ TI ∧ T ≠ TO ∧ T ≠ i1 ∧ T ≠ i2 := by simpa using hTc
    obtain ⟨Tz, TTI, TTO, Ti1, Ti2⟩ := hT5
    refine wpAny_bind (wpAny_pyNext_zip_item_held D hzh hT hTI h1 h2 p1.isList p2.isList (x := u) (y := u2) (by simpa using hu) (by simpa using hu2) fun h' z' h1' h2' hP hsz hk' => ?_)
    have new : ObjOk X.prog X.w (upd Hc s.heap.objs.size (.tup [xs[i], ys[i]])) h' s.heap.objs.size (.tup [xs[i], ys[i]]) :=
      ⟨by show 2 ≤ sizeLine; decide, [u, u2], .cons ru (.cons ru2 .nil), ⟨_, hP, rfl, _, rfl⟩⟩
    have I1 : Inv X pins σ (upd Hc s.heap.objs.size (.tup [xs[i], ys[i]])) { s with heap := h' } :=
      I.turnedNew (t' := s.toks) (ch := [z, TI, TO, i1, i2]) (fun c o hb q => hk' c o (fun q' => hb (by simp [q'])) (fun q' => hb (by simp [q'])) (fun q' => hb (by simp [q'])) q) hf (Nat.le_refl _) new
    have hN : Hc s.heap.objs.size = none := I.fresh
    have nSN : S ≠ s.heap.objs.size := ne_of_none hS hN
    have hS1 : (upd Hc s.heap.objs.size (.tup [xs[i], ys[i]])) S = some (.lst zs) := by
      rw [upd_ne nSN]
      exact hS
    obtain ⟨_, vs, n, rz, lz, e⟩ := I1.lstM hS1
    have old : ∀ c, c ∈ [z, TI, TO, i1, i2] → c ≠ s.heap.objs.size := fun c hc => by
      have e' : c = z ∨ c = TI ∨ c = TO ∨ c = i1 ∨ c = i2 := by simpa using hc
      have hlt : c < s.heap.objs.size := by
        rcases e' with q | q | q | q | q
        · rw [q]; exact Heap.lt_size hzh
        · rw [q]; exact Heap.lt_size hTI
        · rw [q]; exact Heap.lt_size hO
        · rw [q]; obtain ⟨_, e1, _⟩ := h1; exact Heap.lt_size e1
        · rw [q]; obtain ⟨_, e2, _⟩ := h2; exact Heap.lt_size e2
      exact Nat.ne_of_lt hlt
    show wpAny _ A.in1 (updateSeq S (·.push (.ref s.heap.objs.size)) >>= _) _ _ _
    have I2 := I1.lset (f := (·.push (.ref s.heap.objs.size))) (its' := vs ++ [.ref s.heap.objs.size]) (ys := zs ++ [.ref s.heap.objs.size]) (t' := s.toks) hS1 e (by simp) (rz.append (.cons (show L2.RelV (V.ref s.heap.objs.size) (Value.ref s.heap.objs.size) from rfl) .nil)) (Nat.le_of_lt (small1000 (by rw [List.length_append, List.length_singleton]; omega)))
    have kb : ∀ c o, c ≠ S → h'.get? c = some o → (h'.update S (Obj.mapSeq (·.push (.ref s.heap.objs.size)))).get? c = some o := fun c o hc q => (Heap.get?_update_other _ _ (Ne.symm hc)).trans q
    have Tlt : T < s.heap.objs.size := Heap.lt_size hT
    refine wpAny_bind (wpAny_updateSeq e rfl (wpAny_pure ⟨plainId_quiet F.plain_extend_loop _, ih (i + 1) _ _ _ T true oT oO (by omega) (by omega) I2 (fun c hc => ?_) (fun c o q => ?_) upd_same (by rw [List.length_append, hl]; rfl) (pairs_more hp hS hN hl hx hy)
      (kb _ _ Sz.symm z') (kb _ _ hTS (hk' _ _ Tz Ti1 Ti2 hT)) (kb _ _ STO.symm (hk' _ _ D.TOz D.TOi1 D.TOi2 hO)) hTc hTS (kb _ _ STI.symm (hk' _ _ D.TIz D.TIi1 D.TIi2 hTI)) (h1'.at fun o q => kb _ o Si1.symm q) (h2'.at fun o q => kb _ o Si2.symm q)⟩) ?_ ?_)
    · refine fpOk_change (hf c hc) ?_
      rw [upd_ne (show c ≠ S from fun q => hSc (by rw [← q]; exact hc)), upd_ne (old c hc)]
      exact (hf c hc).1
    · rw [upd_ne (ne_of_none q nS), upd_ne (ne_of_none (sm _ _ q) hN)]
      exact sm _ _ q
    · rw [List.size_toArray, ← lz]
      exact Nat.le_of_lt (small1000 (by omega))
    · rw [Array.size_push, List.size_toArray, ← lz]
      exact Nat.le_trans (Nat.le_of_lt (small1000 (by omega))) (Nat.le_succ _)
end
section
variable {X : Cx} {A : Around} {R : Result → Shared → Prop} {res : Value} {pins : List (Addr × Obj)} {σ : L2.St} {z TI TO i1 i2 a b S : Addr} {xs ys : List V} {H1 Hc : Hp} {s : Shared} {va vb : Value}
theorem zip_first (hA : A.in1.handled = none) (D : ZipApart z TI TO i1 i2 a b) (hlen : xs.length = ys.length) (h0 : 0 < xs.length) (hz : xs.length ≤ 1000) (hqx : SqL X.K H1 a xs) (hqy : SqL X.K H1 b ys) (nS : H1 S = none) (hSc : S ∉ [z, TI, TO, i1, i2])
    (fin : ∀ (s' : Shared) (H' : Hp) (zs : List V), Inv X pins σ H' s' → Same H1 H' → H' S = some (.lst zs) → zs.length = xs.length → PairsOf H' zs xs ys → R (.ok (.ret res)) s')
    (I : Inv X pins σ Hc s) (hf : ∀ c ∈ [z, TI, TO, i1, i2], FpOk X pins Hc c) (sm : Same H1 Hc) (hS : Hc S = some (.lst [])) (hzz : IsZip s.heap z TI TO .none) (hTI : IsPair s.heap TI (.ref i1) (.ref i2)) (hTO : IsPair s.heap TO va vb)
    (h1 : s.heap.IsListIter i1 a 0) (h2 : s.heap.IsListIter i2 b 0) : codeAny (model X.prog X.w) A (.builtin "list.extend.loop" ⟨[.ref S, .ref z, res], []⟩) R s := by
  have hS5 : S ≠ z ∧ S ≠ TI ∧ S ≠ TO ∧ S ≠ i1 ∧ S ≠ i2 := by simpa using hSc
  obtain ⟨Sz, STI, STO, Si1, Si2⟩ := hS5
  refine codeAny_builtin F.entry_extend_loop ?_
  rw [Around.under_plainId F.plain_extend_loop _]
  show wpAny _ A.in1 (pyNext (.ref z) >>= _) _ _ s
  obtain ⟨its, rv, p1, _⟩ := I.list (sm.seq hqx)
  obtain ⟨its2, rv2, p2, _⟩ := I.list (sm.seq hqy)
  have hx := List.getElem?_eq_getElem (l := xs) (i := 0) (by omega)
  have hy := List.getElem?_eq_getElem (l := ys) (i := 0) (by omega)
  obtain ⟨u, hu, ru⟩ := rv.get hx
  obtain ⟨u2, hu2, ru2⟩ := rv2.get hy
  refine wpAny_bind (wpAny_pyNext_zip_item D hzz hTI hTO h1 h2 p1.isList p2.isList (x := u) (y := u2) (by simpa using hu) (by simpa using hu2) fun h' z' TO' h1' h2' hP hsz hk' => ?_)
  have new : ObjOk X.prog X.w (upd Hc s.heap.objs.size (.tup [xs[0], ys[0]])) h' s.heap.objs.size (.tup [xs[0], ys[0]]) :=
    ⟨by show 2 ≤ sizeLine; decide, [u, u2], .cons ru (.cons ru2 .nil), ⟨_, hP, rfl, _, rfl⟩⟩
  have I1 : Inv X pins σ (upd Hc s.heap.objs.size (.tup [xs[0], ys[0]])) { s with heap := h' } :=
    I.turnedNew (t' := s.toks) (ch := [z, TI, TO, i1, i2]) (fun c o hb q => hk' c o (fun q' => hb (by simp [q'])) (fun q' => hb (by simp [q'])) (fun q' => hb (by simp [q'])) (fun q' => hb (by simp [q'])) q) hf (Nat.le_refl _) new
  have hN : Hc s.heap.objs.size = none := I.fresh
  have nSN : S ≠ s.heap.objs.size := ne_of_none hS hN
  have hS1 : (upd Hc s.heap.objs.size (.tup [xs[0], ys[0]])) S = some (.lst []) := by
    rw [upd_ne nSN]
    exact hS
  obtain ⟨_, vs, n, rz, lz, e⟩ := I1.lstM hS1
  have old : ∀ c, c ∈ [z, TI, TO, i1, i2] → c ≠ s.heap.objs.size := fun c hc => by
    have e' : c = z ∨ c = TI ∨ c = TO ∨ c = i1 ∨ c = i2 := by simpa using hc
    have hlt : c < s.heap.objs.size := by
      rcases e' with q | q | q | q | q
      · rw [q]; exact Heap.lt_size hzz
      · rw [q]; exact Heap.lt_size hTI
      · rw [q]; exact Heap.lt_size hTO
      · rw [q]; obtain ⟨_, e1, _⟩ := h1; exact Heap.lt_size e1
      · rw [q]; obtain ⟨_, e2, _⟩ := h2; exact Heap.lt_size e2
    exact Nat.ne_of_lt hlt
  show wpAny _ A.in1 (updateSeq S (·.push (.ref s.heap.objs.size)) >>= _) _ _ _
  have I2 := I1.lset (f := (·.push (.ref s.heap.objs.size))) (its' := vs ++ [.ref s.heap.objs.size]) (ys := [] ++ [.ref s.heap.objs.size]) (t' := s.toks) hS1 e (by simp) (rz.append (.cons (show L2.RelV (V.ref s.heap.objs.size) (Value.ref s.heap.objs.size) from rfl) .nil)) (by show 1 ≤ sizeLine; decide)
  have kb : ∀ c o, c ≠ S → h'.get? c = some o → (h'.update S (Obj.mapSeq (·.push (.ref s.heap.objs.size)))).get? c = some o := fun c o hc q => (Heap.get?_update_other _ _ (Ne.symm hc)).trans q
  refine wpAny_bind (wpAny_updateSeq e rfl (wpAny_pure ⟨plainId_quiet F.plain_extend_loop _, zip_loop hA D hlen hz hqx hqy nS hSc fin (xs.length - 1) 1 _ _ _ s.heap.objs.size false _ _ rfl h0 I2 (fun c hc => ?_) (fun c o q => ?_) upd_same rfl
    (pairs_more (i := 0) (fun i z h => by cases i <;> cases h) hS hN rfl hx hy)
    (kb _ _ Sz.symm z') (kb _ _ nSN.symm hP) (kb _ _ STO.symm TO') (fun hc => old _ hc rfl) nSN.symm (kb _ _ STI.symm (hk' _ _ D.TIz D.TITO D.TIi1 D.TIi2 hTI)) (h1'.at fun o q => kb _ o Si1.symm q) (h2'.at fun o q => kb _ o Si2.symm q)⟩) ?_ ?_)
  · refine fpOk_change (hf c hc) ?_
    rw [upd_ne (show c ≠ S from fun q => hSc (by rw [← q]; exact hc)), upd_ne (old c hc)]
    exact (hf c hc).1
  · rw [upd_ne (ne_of_none q nS), upd_ne (ne_of_none (sm _ _ q) hN)]
    exact sm _ _ q
  · rw [List.size_toArray, ← lz]
    exact Nat.zero_le _
  · rw [Array.size_push, List.size_toArray, ← lz]
    show 0 + 1 ≤ sizeLine + 1
    omega
theorem zip_extend (hA : A.in1.handled = none) (D : ZipApart z TI TO i1 i2 a b) (hlen : xs.length = ys.length) (h0 : 0 < xs.length) (hz : xs.length ≤ 1000) (hqx : SqL X.K H1 a xs) (hqy : SqL X.K H1 b ys) (nS : H1 S = none) (hSc : S ∉ [z, TI, TO, i1, i2])
    (fin : ∀ (s' : Shared) (H' : Hp) (zs : List V), Inv X pins σ H' s' → Same H1 H' → H' S = some (.lst zs) → zs.length = xs.length → PairsOf H' zs xs ys → R (.ok (.ret res)) s')
    (I : Inv X pins σ Hc s) (hf : ∀ c ∈ [z, TI, TO, i1, i2], FpOk X pins Hc c) (sm : Same H1 Hc) (hS : Hc S = some (.lst [])) (hzz : IsZip s.heap z TI TO .none) (hTI : IsPair s.heap TI (.ref i1) (.ref i2)) (hTO : IsPair s.heap TO va vb)
    (h1 : s.heap.IsListIter i1 a 0) (h2 : s.heap.IsListIter i2 b 0) :
    wpAny (model X.prog X.w) A.in1 (Builtin.List.listExtendWith (.ref S) (.ref z) res)
      (fun fin s' => match fin with | .done f => R (.ok f) s' | .again c' => c'.quiet = true ∧ codeAny (model X.prog X.w) A c' R s') (fun e s' => R (.error e) s') s := by
  have hS5 : S ≠ z ∧ S ≠ TI ∧ S ≠ TO ∧ S ≠ i1 ∧ S ≠ i2 := by simpa using hSc
  obtain ⟨Sz, STI, STO, Si1, Si2⟩ := hS5
  obtain ⟨_, its, n, r, l, hSS⟩ := I.lstM hS
  cases r
  unfold Builtin.List.listExtendWith
  refine wpAny_bind (wpAny_typeOf (T := "zip") ⟨_, hzz, rfl⟩ ?_)
  have e1 : Builtin.List.listSameRef (.ref S) (.ref z) = false := by simp [Builtin.List.listSameRef, Sz]
  have e2 : (Value.type "zip" == Value.type "list") = false := by decide
  have e3 : (Value.type "zip" == Value.type "tuple") = false := by decide
  simp only [e1, e2, e3, Bool.or_false, Bool.false_eq_true, if_false]
  refine wpAny_bind (wpAny_pyIter_zip hzz ?_)
  refine wpAny_bind (wpAny_holding ?_)
  unfold Builtin.List.listLengthHint
  refine wpAny_bind (wpAny_specialOf (T := "zip") ⟨_, hzz, rfl⟩ zip_no_len ?_)
  show wpAny _ A.in1 (specialOf (Value.ref z) (Str.ofString "__length_hint__") >>= _) _ _ _
  refine wpAny_bind (wpAny_specialOf (T := "zip") ⟨_, hzz, rfl⟩ zip_no_hint ?_)
  refine wpAny_pure ?_
  show wpAny _ A.in1 (rule "list.extend.makes-room" >>= fun _ => Builtin.List.listTouch (.ref S) >>= fun _ =>
    again (.builtin "list.extend.loop" ⟨[.ref S, .ref z, res], []⟩)) _ _ _
  refine wpAny_bind (wpAny_rule ?_)
  refine wpAny_bind ?_
  show wpAny _ A.in1 (updateSeq S (·.push .none) >>= fun _ => updateSeq S (·.pop)) _ _ _
  refine wpAny_bind (wpAny_updateSeq hSS rfl ?_)
  have I1 := I.lset (f := (·.push Value.none)) (its' := [.none]) (ys := [V.non]) (t' := s.toks) hS hSS rfl (.cons (show L2.RelV V.non Value.none from rfl) .nil) (by show 1 ≤ sizeLine; decide)
  have hS2 := Heap.get?_update_self (Obj.mapSeq (·.push Value.none)) hSS rfl
  refine wpAny_updateSeq (hz := by seq_fits) hS2 rfl ?_
  have I2 := I1.lset (f := (·.pop)) (its' := []) (ys := []) (t' := s.toks) upd_same (by exact hS2) rfl .nil (Nat.zero_le _)
  have oth : ∀ b o, b ≠ S → s.heap.get? b = some o → ((s.heap.update S (Obj.mapSeq (·.push Value.none))).update S (Obj.mapSeq (·.pop))).get? b = some o :=
    fun b o hb e => (Heap.get?_update_other _ _ (Ne.symm hb)).trans ((Heap.get?_update_other _ _ (Ne.symm hb)).trans e)
  refine wpAny_pure ⟨plainId_quiet F.plain_extend_loop _, zip_first hA D hlen h0 hz hqx hqy nS hSc fin I2 (fun c hc => ?_) (fun c o q => ?_) upd_same (oth _ _ Sz.symm hzz) (oth _ _ STI.symm hTI) (oth _ _ STO.symm hTO) (h1.at fun o q => oth _ o Si1.symm q) (h2.at fun o q => oth _ o Si2.symm q)⟩
  · refine fpOk_change (hf c hc) ?_
    rw [upd_ne (show c ≠ S from fun q => hSc (by rw [← q]; exact hc)), upd_ne (show c ≠ S from fun q => hSc (by rw [← q]; exact hc))]
    exact (hf c hc).1
  · rw [upd_ne (ne_of_none q nS), upd_ne (ne_of_none q nS)]
    exact sm _ _ q
end
section
variable {X : Cx} {e e2 : Expr} {ta : TA} {p q pos pos2 : Pos}
theorem pe_listZip (hc : X.calm = true) (hg : Gl X "zip") (hm : X.mg "zip" = none) (hgl : Gl X "list") (hml : X.mg "list" = none) (ha : PA X [e, e2] ta)
    (hs : starEach [e, e2] X.env = (false, eval e X.env) :: starEach [e2] X.env := by rfl) (hpl : (backTo pos2 (starEach [e2] X.env)).any (·.1) = false := by rfl) :
    PE X (.Call (.Name "list" p) [.Call (.Name "zip" q) [e, e2] [] pos2] [] pos) (tListZip X.K ta) := by
  refine ⟨fun pins s σ H Q I h => ?_⟩
  refine wpAny_Call_Name_kw (ld_blt I hgl hml PyProof.Rows.boot_list ?_)
  refine PyProof.Rows.callWith_type1 ?_ rfl rfl
  show wpAny _ _ (spliced ((false, eval (.Call (.Name "zip" q) [e, e2] [] pos2) X.env) :: backTo pos (starEach [] X.env))) _ _ s
  refine Calls.spliced_cons ?_
  refine wpAny_Call_Name_kw (ld_blt I hg hm PyProof.Rows.boot_zip ?_)
  refine PyProof.Rows.callWith_type1 (thn (ha.run pos2 pins s σ H _ I h) fun us s1 ⟨vs, H1, I1, r1, q1⟩ => ?_) hs hpl
  obtain ⟨a, b, xs, ys, ex, hqx, hqy, hlen, h0, hz1000, q1⟩ := q1
  subst ex
  cases r1 with
  | cons r rr =>
    cases rr with
    | cons r' rr =>
      cases rr
      cases r
      cases r'
      obtain ⟨its, rv, p1, _⟩ := I1.list hqx
      obtain ⟨its2, rv2, p2, _⟩ := I1.list hqy
      have la : a < s1.heap.objs.size := p1.lt
      have lb : b < s1.heap.objs.size := p2.lt
      have D := PySem.W.ktu_apart s1.heap.objs.size a b la lb
      refine call_zip_2 p1.isList p2.isList fun h' hz hTI hTO h1 h2 hsz hk => ?_
      have I2 : Inv X pins σ H1 { s1 with heap := h' } := I1.kept (t' := s1.toks) hk
      have hf : ∀ c ∈ [s1.heap.objs.size + 4, s1.heap.objs.size + 2, s1.heap.objs.size + 3, s1.heap.objs.size, s1.heap.objs.size + 1], FpOk X pins H1 c := fun c hcm => by
        have e' : c = s1.heap.objs.size + 4 ∨ c = s1.heap.objs.size + 2 ∨ c = s1.heap.objs.size + 3 ∨ c = s1.heap.objs.size ∨ c = s1.heap.objs.size + 1 := by simpa using hcm
        have hle : s1.heap.objs.size ≤ c := by
          rcases e' with z | z | z | z | z
          · rw [z]; exact Nat.le_add_right _ _
          · rw [z]; exact Nat.le_add_right _ _
          · rw [z]; exact Nat.le_add_right _ _
          · rw [z]; exact Nat.le_refl _
          · rw [z]; exact Nat.le_add_right _ _
        exact I1.fpOk hle (I1.hok.fresh hle)
      generalize hz4 : s1.heap.objs.size + 4 = z at *
      generalize s1.heap.objs.size + 2 = TI at *
      generalize s1.heap.objs.size + 3 = TO at *
      generalize s1.heap.objs.size + 1 = i2 at *
      generalize s1.heap.objs.size = i1 at *
      have nz : z < h'.objs.size := Heap.lt_size hz
      refine Calls.spliced_nil ?_
      have hS : (h'.push { cls := .type "list", data := .seq #[] }).get? h'.objs.size = some { cls := .type "list", data := .seq #[] } := Heap.get?_push_size _ rfl
      refine callType_codes (Q₁ := fun obj s₁ => obj = .ref h'.objs.size ∧ s₁ = { s1 with heap := h'.push { cls := .type "list", data := .seq #[] } }) F.called_list (F.typeCall_list_1 _) F.entry_list_init
        (code_list_new _ ⟨rfl, rfl⟩) fun obj s₁ h₁ => ?_
      obtain ⟨rfl, rfl⟩ := h₁
      refine ⟨⟨_, hS, rfl⟩, F.args_list_init_2 _ _, ?_⟩
      have I3 := I2.lnew (its := []) (ys := []) (t' := s1.toks) .nil (Nat.zero_le _)
      show wpAny _ X.A.in1.in1 (do let old ← Builtin.List.listItems (.ref h'.objs.size); Builtin.List.listUpdate (.ref h'.objs.size) (fun _ => #[]); letGo old.toList.reverse; Builtin.List.listExtendWith (.ref h'.objs.size) (.ref z) .none) _ _ _
      refine wpAny_bind ?_
      unfold Builtin.List.listItems
      refine wpAny_bind (wpAny_seqItems hS rfl (wpAny_pure ?_))
      show wpAny _ X.A.in1.in1 (updateSeq h'.objs.size (fun _ => #[]) >>= fun _ => letGo (#[] : Array Value).toList.reverse >>= fun _ => Builtin.List.listExtendWith (.ref h'.objs.size) (.ref z) .none) _ _ _
      refine wpAny_bind (wpAny_updateSeq hS rfl ?_)
      have I4 := I3.lset (f := fun _ => #[]) (its := []) (its' := []) (ys := []) (t' := s1.toks) upd_same hS rfl .nil (Nat.zero_le _)
      refine wpAny_bind (wpAny_letGo ?_)
      have kb : ∀ c o, h'.get? c = some o → ((h'.push { cls := .type "list", data := .seq #[] }).update h'.objs.size (Obj.mapSeq (fun _ => (#[] : Array Value)))).get? c = some o :=
        fun c o q => (Heap.get?_update_other _ _ (Nat.ne_of_gt (Heap.lt_size q))).trans (Heap.get?_push_of_some _ q)
      have nS : H1 h'.objs.size = none := I2.fresh
      have hSc : h'.objs.size ∉ [z, TI, TO, i1, i2] := fun hm => by
        have e' : h'.objs.size = z ∨ h'.objs.size = TI ∨ h'.objs.size = TO ∨ h'.objs.size = i1 ∨ h'.objs.size = i2 := by simpa using hm
        have k1 : TI < h'.objs.size := Heap.lt_size hTI
        have k2 : TO < h'.objs.size := Heap.lt_size hTO
        have k3 : i1 < h'.objs.size := by obtain ⟨_, e1, _⟩ := h1; exact Heap.lt_size e1
        have k4 : i2 < h'.objs.size := by obtain ⟨_, e1, _⟩ := h2; exact Heap.lt_size e1
        rcases e' with q | q | q | q | q
        · exact Nat.lt_irrefl _ (q ▸ nz)
        · exact Nat.lt_irrefl _ (q ▸ k1)
        · exact Nat.lt_irrefl _ (q ▸ k2)
        · exact Nat.lt_irrefl _ (q ▸ k3)
        · exact Nat.lt_irrefl _ (q ▸ k4)
      refine zip_extend (A := X.A.in1) (va := .none) (vb := .none) (I.ok.hd hc) D hlen h0 hz1000 hqx hqy nS hSc (fun s' H' zs I' sm' e' l' p' => ⟨rfl, .ref h'.objs.size, H', I', rfl, q1 H' _ zs sm' e' l' p'⟩) I4 (fun c hcm => ?_) (fun c o q => ?_) upd_same
        (kb _ _ hz) (kb _ _ hTI) (kb _ _ hTO) (h1.at fun o q => kb _ o q) (h2.at fun o q => kb _ o q)
      · refine fpOk_change (hf c hcm) ?_
        rw [upd_ne (show c ≠ h'.objs.size from fun q => hSc (by rw [← q]; exact hcm)), upd_ne (show c ≠ h'.objs.size from fun q => hSc (by rw [← q]; exact hcm))]
        exact (hf c hcm).1
      · rw [upd_ne (ne_of_none q nS), upd_ne (show c ≠ h'.objs.size from ne_of_none q nS)]
        exact q
end
end My
/-! ### two rooms of marks -/
namespace My
open PySem PySem.Spec PyProof.Rows L2
def ruM (u F : Nat) (bs : List Bool) : List Pr := (roomM bs 0).map (scl u F)
structure Fits64 (u F : Nat) : Prop where
  al : F % 2 ^ (u + 6) = 0
  in_ : F + 64 * 2 ^ u ≤ 2 ^ 48
theorem spans_ru {u F : Nat} (h : Fits64 u F) {bs : List Bool} (hl : bs.length = 64) : Canon (spansM (ruM u F bs)) ∧ (∀ x, memS (spansM (ruM u F bs)) x ↔ inMark u F bs x) := by
  obtain ⟨m1, m2, m3⟩ := marks_mem (u := u) (F := F) hl 64 0 rfl
  obtain ⟨c1, c2⟩ := spans_ok m3 fun b m => (m2 b m).1
  refine ⟨c1, fun x => (c2 x).trans ((m1 x).trans ⟨fun k => k.1, fun k => ⟨k, ?_⟩⟩)⟩
  rw [Nat.zero_mul]
  exact k.1
theorem ru_in {u F : Nat} (h : Fits64 u F) {bs : List Bool} (hl : bs.length = 64) : InSp (ruM u F bs) := fun b m => Nat.le_trans ((marks_mem (u := u) (F := F) hl 64 0 rfl).2.1 b m).2.2 h.in_
theorem ru_small {u F : Nat} (h : Fits64 u F) {bs : List Bool} (hl : bs.length = 64) : SmallP (ruM u F bs) := fun b m => by
  have := ru_in h hl b m
  omega
theorem ru_len (u F : Nat) {bs : List Bool} (hl : bs.length = 64) : (ruM u F bs).length ≤ 64 := by
  unfold ruM
  rw [List.length_map]
  exact roomM_len bs 64 0 (by omega)
theorem runs0 {u F : Nat} (h : Fits64 u F) {bs : List Bool} (hl : bs.length = 64) {S : List Pr} (hc : Canon S) (hS : ∀ x, memS S x ↔ inMark u F bs x) : roomP S = ruM u F bs := by
  refine room_runs hl h.al h.in_ 64 0 S rfl hc fun x => (hS x).trans ⟨fun k => ⟨k, ?_⟩, fun k => k.1⟩
  rw [Nat.zero_mul]
  exact k.1
theorem mark_zip {u F : Nat} (f : Bool → Bool → Bool) {xs ys : List Bool} {x : Nat} : inMark u F (List.zipWith f xs ys) x ↔ F ≤ x ∧ ∃ a b, xs[(x - F) / 2 ^ u]? = some a ∧ ys[(x - F) / 2 ^ u]? = some b ∧ f a b = true := by
  unfold inMark
  refine and_congr_right fun _ => ?_
  rw [List.getElem?_zipWith]
  constructor
  · intro h
    cases e1 : xs[(x - F) / 2 ^ u]? with
    | none =>
      rw [e1] at h
      cases h
    | some a =>
      cases e2 : ys[(x - F) / 2 ^ u]? with
      | none =>
        rw [e1, e2] at h
        cases h
      | some b =>
        rw [e1, e2] at h
        exact ⟨a, b, rfl, rfl, Option.some.inj h⟩
  · rintro ⟨a, b, e1, e2, e3⟩
    rw [e1, e2]
    exact congrArg some e3
theorem get64 {xs : List Bool} (hl : xs.length = 64) {i : Nat} (h : i < 64) : ∃ a, xs[i]? = some a := ⟨xs[i], List.getElem?_eq_getElem _⟩
theorem lt_of_some {xs : List Bool} {i : Nat} {a : Bool} (h : xs[i]? = some a) : i < xs.length := (List.getElem?_eq_some_iff.mp h).1
theorem union_eq {u F : Nat} (h : Fits64 u F) {xs ys : List Bool} (hx : xs.length = 64) (hy : ys.length = 64) {bs' : List Pr} (pm : bs'.Perm (ruM u F xs ++ ruM u F ys)) (asc : Asc bs') :
    roomP (spansM bs') = ruM u F (List.zipWith (fun x y => x || y) xs ys) := by
  obtain ⟨x1, x2, _⟩ := marks_mem (u := u) (F := F) hx 64 0 rfl
  obtain ⟨y1, y2, _⟩ := marks_mem (u := u) (F := F) hy 64 0 rfl
  obtain ⟨c1, c2⟩ := spans_ok asc fun b m => by
    rcases List.mem_append.mp (pm.mem_iff.mp m) with m | m
    · exact (x2 b m).1
    · exact (y2 b m).1
  refine runs0 h (by rw [List.length_zipWith]; omega) c1 fun x => ?_
  rw [c2, memB_perm pm, memB_append]
  have e1 := x1 x
  have e2 := y1 x
  rw [Nat.zero_mul] at e1 e2
  rw [show memB (ruM u F xs) x ↔ _ from e1, show memB (ruM u F ys) x ↔ _ from e2, mark_zip]
  constructor
  · rintro (⟨⟨k1, k2⟩, _⟩ | ⟨⟨k1, k2⟩, _⟩)
    · obtain ⟨b, hb⟩ := get64 hy (i := (x - F) / 2 ^ u) (by have := lt_of_some k2; omega)
      exact ⟨k1, true, b, k2, hb, rfl⟩
    · obtain ⟨a, ha⟩ := get64 hx (i := (x - F) / 2 ^ u) (by have := lt_of_some k2; omega)
      exact ⟨k1, a, true, ha, k2, Bool.or_true a⟩
  · rintro ⟨k1, a, b, k2, k3, k4⟩
    cases a with
    | true => exact .inl ⟨⟨k1, k2⟩, k1⟩
    | false =>
      have : b = true := k4
      subst this
      exact .inr ⟨⟨k1, k3⟩, k1⟩
theorem common_eq {u F : Nat} (h : Fits64 u F) {xs ys : List Bool} (hx : xs.length = 64) (hy : ys.length = 64) :
    roomP (sharedM (spansM (ruM u F xs)) (spansM (ruM u F ys))) = ruM u F (List.zipWith (fun x y => x && y) xs ys) := by
  obtain ⟨x1, x2⟩ := spans_ru h hx
  obtain ⟨y1, y2⟩ := spans_ru h hy
  refine runs0 h (by rw [List.length_zipWith]; omega) (shared_canon _ _ x1 y1) fun x => ?_
  rw [shared_iff x1 y1, x2, y2, mark_zip]
  constructor
  · rintro ⟨⟨k1, k2⟩, _, k3⟩
    exact ⟨k1, true, true, k2, k3, rfl⟩
  · rintro ⟨k1, a, b, k2, k3, k4⟩
    obtain ⟨rfl, rfl⟩ := (Bool.and_eq_true _ _).mp k4
    exact ⟨⟨k1, k2⟩, k1, k3⟩
theorem without_eq {u F : Nat} (h : Fits64 u F) {xs ys : List Bool} (hx : xs.length = 64) (hy : ys.length = 64) :
    roomP (sharedM (spansM (ruM u F xs)) (gapsM (spansM (ruM u F ys)))) = ruM u F (List.zipWith (fun x y => x && !y) xs ys) := by
  obtain ⟨x1, x2⟩ := spans_ru h hx
  obtain ⟨y1, y2⟩ := spans_ru h hy
  obtain ⟨g1, g2⟩ := gaps_ok y1 (spans_ends (ru_in h hy))
  refine runs0 h (by rw [List.length_zipWith]; omega) (shared_canon _ _ x1 g1) fun x => ?_
  rw [shared_iff x1 g1, x2, g2, y2, mark_zip]
  constructor
  · rintro ⟨⟨k1, k2⟩, k3, k4⟩
    obtain ⟨b, hb⟩ := get64 hy (i := (x - F) / 2 ^ u) (by have := lt_of_some k2; omega)
    refine ⟨k1, true, b, k2, hb, ?_⟩
    cases b with
    | false => rfl
    | true => exact absurd ⟨k1, hb⟩ k4
  · rintro ⟨k1, a, b, k2, k3, k4⟩
    have k5 := (Bool.and_eq_true _ _).mp k4
    obtain ⟨rfl, k6⟩ := k5
    cases b with
    | true => cases k6
    | false =>
      have hm : inMark u F xs x := ⟨k1, k2⟩
      have := mark_hi hm
      rw [hx] at this
      refine ⟨hm, by have := h.in_; omega, fun z => ?_⟩
      have := z.2
      rw [k3] at this
      cases this
theorem zip_or_comm (xs ys : List Bool) : List.zipWith (fun x y => x || y) ys xs = List.zipWith (fun x y => x || y) xs ys := by
  rw [List.zipWith_comm]
  congr 1
  funext x y
  exact Bool.or_comm _ _
theorem zip_and_comm (xs ys : List Bool) : List.zipWith (fun x y => x && y) ys xs = List.zipWith (fun x y => x && y) xs ys := by
  rw [List.zipWith_comm]
  congr 1
  funext x y
  exact Bool.and_comm _ _
theorem zip_not_comm (xs ys : List Bool) : List.zipWith (fun x y => x && !y) ys xs = List.zipWith (fun x y => y && !x) xs ys := List.zipWith_comm ..
/-- a list of marks out of the pairs of two: the turns of the walk -/
theorem zip_turns {K : PySem.W.Frag} {σ : L2.St} {vs : List Nat} {H1 : Hp} {p D : Addr} {zs : List V} {xs ys : List Bool} {te : TE} {Qd : Hp → Prop} (f : Bool → Bool → Bool) (nD : H1 D = none) (hp : H1 p = some (.lst zs))
    (hz : ∀ (i : Nat) (z : V), zs[i]? = some z → ∃ (t : Addr) (x y : Bool), z = .ref t ∧ H1 t = some (.tup [.bl x, .bl y]) ∧ xs[i]? = some x ∧ ys[i]? = some y) (lz : zs.length = 64) (lx : xs.length = 64) (ly : ys.length = 64)
    (hw : ∀ x y : V, wipe (((wipe σ vs).set 11 (some x)).set 12 (some y)) vs = wipe σ vs) (h1 : ∀ x y : V, (((wipe σ vs).set 11 (some x)).set 12 (some y))[11]? = some (some x)) (h2 : ∀ x y : V, (((wipe σ vs).set 11 (some x)).set 12 (some y))[12]? = some (some y))
    (ht : ∀ (σ2 : L2.St) (H : Hp) (x y : Bool) (Q : VK), σ2[11]? = some (some (.bl x)) → σ2[12]? = some (some (.bl y)) → Q (.bl (f x y)) H → te σ2 H Q)
    (q : ∀ H2 : Hp, Same H1 H2 → H2 D = some (.lst ((List.zipWith f xs ys).map V.bl)) → Qd H2) :
    ∃ W : Nat → Nat → Hp → Prop, (∃ m, W 0 m (upd H1 D (.lst []))) ∧ ∀ i m H, W i m H → ((Itl K p).stop i H ∧ Qd H) ∨
      ((Itl K p).go i H ∧ ∃ Nx : Hp → Prop, (∀ H', Nx H' → ∃ m', m' < m ∧ W (i + 1) m' H') ∧ ∀ x H', (Itl K p).yld i H x H' → gTup K 2 (gCons (gName 11) (gCons (gName 12) gNil)) x (wipe σ vs) H' fun σ2 H2 => wipe σ2 vs = wipe σ vs ∧ tYes σ2 H2 fun b H3 =>
        if b = true then te σ2 H3 fun y H4 => ∃ acc, H4 D = some (.lst acc) ∧ acc.length < sizeLine ∧ Nx (upd H4 D (.lst (acc ++ [y]))) else Nx H3) := by
  refine turns_list (K := K) (a := p) (xs := zs) (fun i H2 => Same H1 H2 ∧ H2 D = some (.lst (((List.zipWith f xs ys).take i).map V.bl)))
    ⟨same_new nD, upd_same⟩ (fun i H2 _ h => SqL.of (h.1 _ _ hp)) ?_ ?_
  · rintro i z H2 hi ⟨sm, eD⟩
    obtain ⟨t, x, y, rfl, et, ex, ey⟩ := hz i z hi
    refine ⟨t, _, rfl, SqT.of (sm _ _ et), rfl, _, _, rfl, _, _, rfl, rfl, ?_⟩
    refine ⟨hw _ _, yesT (ht _ _ x y _ (h1 _ _) (h2 _ _) ?_)⟩
    have ez : (List.zipWith f xs ys)[i]? = some (f x y) := by
      rw [List.getElem?_zipWith, ex, ey]
    refine ⟨_, eD, ?_, fun c o h => ?_, ?_⟩
    · rw [List.length_map, List.length_take, List.length_zipWith]
      exact small1000 (by omega)
    · rw [upd_ne (ne_of_none h nD)]
      exact sm _ _ h
    · rw [upd_same, List.take_add_one, ez, List.map_append]
      rfl
  · rintro H2 ⟨sm, eD⟩
    have e : zs.length = (List.zipWith f xs ys).length := by
      rw [List.length_zipWith]
      omega
    rw [e, List.take_length] at eD
    exact q H2 sm eD
theorem tup_rooms : ∀ rs : List (List Pr), tupOnlyAll (roomsD rs) = true
  | [] => by simp [roomsD, tupOnlyAll]
  | r :: rs => by
    have h1 := tup_rooms rs
    have h2 := tup_prs r
    show (tupOnly (.tuple (prsD r)) && tupOnlyAll (roomsD rs)) = true
    rw [h1, Bool.and_true]
    show tupOnlyAll (prsD r) = true
    exact h2
theorem tup2_of {H : Hp} {v : V} {r : List Pr} (h : Dd H v (.tuple (prsD r))) : ∃ a, v = .ref a ∧ Tup2 H a r := by
  cases h with
  | tup h1 h2 => exact ⟨_, rfl, _, h1, h2⟩
theorem Tup2.dd {H : Hp} {a : Addr} {r : List Pr} (h : Tup2 H a r) : Dd H (.ref a) (.tuple (prsD r)) := by
  obtain ⟨ys, h1, h2⟩ := h
  exact .tup h1 h2
theorem bools_get {bs : List Bool} {i : Nat} {x : V} (h : (bs.map V.bl)[i]? = some x) : ∃ b, x = .bl b ∧ bs[i]? = some b := by
  rw [List.getElem?_map] at h
  cases e : bs[i]? with
  | none =>
    rw [e] at h
    cases h
  | some b =>
    rw [e] at h
    cases h
    exact ⟨b, rfl, rfl⟩
theorem add_room {H7 HC H9 : Hp} {dL : Addr} {vs : List V} {rs : List (List Pr)} {v : V} {r : List Pr} (sC : Same H7 HC) (nL : H7 dL = none) (e : Same HC H9) (dC : DdAll HC vs (roomsD rs)) (eC : HC dL = some (.lst vs)) (hv : Dd H9 v (.tuple (prsD r))) :
    vs.length = rs.length ∧ H9 dL = some (.lst vs) ∧ Same H7 (upd H9 dL (.lst (vs ++ [v]))) ∧ (upd H9 dL (.lst (vs ++ [v]))) dL = some (.lst (vs ++ [v])) ∧ DdAll (upd H9 dL (.lst (vs ++ [v]))) (vs ++ [v]) (roomsD (rs ++ [r])) := by
  have eC9 := e _ _ eC
  refine ⟨?_, eC9, fun c o h => ?_, upd_same, ?_⟩
  · have := dC.length
    rw [this]
    exact List.length_map _
  · rw [upd_ne (ne_of_none h nL)]
    exact e _ _ (sC _ _ h)
  · refine DdAll.tups (tups_upd eC9) (tup_rooms _) ?_
    have e9 : roomsD (rs ++ [r]) = roomsD rs ++ [.tuple (prsD r)] := List.map_append
    rw [e9]
    exact (dC.mono e).append (.cons hv .nil)
end My
namespace My
open PySem PySem.Spec PyProof.Rows L2
def topS (i : Nat) : Stmt := PySem.Challenge.pw_buswindows_k03_two_rooms.main.body.getD i (.Pass ⟨0, 0, 0, 0⟩)
abbrev s_q_room_of : Stmt := topS 2
abbrev n_q_room_of : List Str := ["blocks"]
theorem sc_q_room_of : FnScope n_q_room_of ["blocks"] (defScope s_q_room_of) := ⟨rfl, rfl, rfl, by decide +kernel, rfl, by decide +kernel, by decide +kernel⟩
abbrev s_q_union : Stmt := topS 3
abbrev n_q_union : List Str := ["one", "other"]
theorem sc_q_union : FnScope n_q_union ["one", "other"] (defScope s_q_union) := ⟨rfl, rfl, rfl, by decide +kernel, rfl, by decide +kernel, by decide +kernel⟩
abbrev s_q_common : Stmt := topS 4
abbrev n_q_common : List Str := ["one", "other"]
theorem sc_q_common : FnScope n_q_common ["one", "other"] (defScope s_q_common) := ⟨rfl, rfl, rfl, by decide +kernel, rfl, by decide +kernel, by decide +kernel⟩
abbrev s_q_without : Stmt := topS 5
abbrev n_q_without : List Str := ["one", "other"]
theorem sc_q_without : FnScope n_q_without ["one", "other"] (defScope s_q_without) := ⟨rfl, rfl, rfl, by decide +kernel, rfl, by decide +kernel, by decide +kernel⟩
abbrev s_p_spans : Stmt := topS 6
abbrev n_p_spans : List Str := ["blocks", "spans", "start", "size", "end", "low", "high"]
theorem sc_p_spans : FnScope n_p_spans ["blocks"] (defScope s_p_spans) := ⟨rfl, rfl, rfl, by decide +kernel, rfl, by decide +kernel, by decide +kernel⟩
abbrev s_p_shared : Stmt := topS 7
abbrev n_p_shared : List Str := ["ones", "others", "shared", "place", "turn", "low", "high"]
theorem sc_p_shared : FnScope n_p_shared ["ones", "others"] (defScope s_p_shared) := ⟨rfl, rfl, rfl, by decide +kernel, rfl, by decide +kernel, by decide +kernel⟩
abbrev s_p_gaps : Stmt := topS 8
abbrev n_p_gaps : List Str := ["spans", "lows", "low", "high", "highs"]
theorem sc_p_gaps : FnScope n_p_gaps ["spans"] (defScope s_p_gaps) := ⟨rfl, rfl, rfl, by decide +kernel, rfl, by decide +kernel, by decide +kernel⟩
abbrev s_p_room : Stmt := topS 9
abbrev n_p_room : List Str := ["spans", "low", "high", "block"]
theorem sc_p_room : FnScope n_p_room ["spans"] (defScope s_p_room) := ⟨rfl, rfl, rfl, by decide +kernel, rfl, by decide +kernel, by decide +kernel⟩
abbrev s_p_greatest : Stmt := topS 10
abbrev n_p_greatest : List Str := ["low", "high", "blocks", "start", "aligned", "fitting", "size"]
theorem sc_p_greatest : FnScope n_p_greatest ["low", "high"] (defScope s_p_greatest) := ⟨rfl, rfl, rfl, by decide +kernel, rfl, by decide +kernel, by decide +kernel⟩
abbrev s_l_source : Stmt := topS 12
abbrev n_l_source : List Str := ["_law_script", "_law_cells", "_law_cell"]
theorem sc_l_source : FnScope n_l_source ["_law_script"] (defScope s_l_source) := ⟨rfl, rfl, rfl, by decide +kernel, rfl, by decide +kernel, by decide +kernel⟩
abbrev s_l_below : Stmt := topS 13
abbrev n_l_below : List Str := ["_law_source_here", "_law_many", "_law_large", "_law_found", "_law_turn", "_law_cell", "_law_mixed"]
theorem sc_l_below : FnScope n_l_below ["_law_source_here", "_law_many"] (defScope s_l_below) := ⟨rfl, rfl, rfl, by decide +kernel, rfl, by decide +kernel, by decide +kernel⟩
abbrev s_l_pick : Stmt := topS 14
abbrev n_l_pick : List Str := ["_law_source_here", "_law_items"]
theorem sc_l_pick : FnScope n_l_pick ["_law_source_here", "_law_items"] (defScope s_l_pick) := ⟨rfl, rfl, rfl, by decide +kernel, rfl, by decide +kernel, by decide +kernel⟩
abbrev s_l_world : Stmt := topS 15
abbrev n_l_world : List Str := ["_law_source_here", "_law_unit", "_law_most", "_law_spot"]
theorem sc_l_world : FnScope n_l_world ["_law_source_here"] (defScope s_l_world) := ⟨rfl, rfl, rfl, by decide +kernel, rfl, by decide +kernel, by decide +kernel⟩
abbrev s_l_marks : Stmt := topS 16
abbrev n_l_marks : List Str := ["_law_source_here", "_law_many", "_law_way", "_law_k", "_law_found", "_law_turn", "_law_spot", "_law_length"]
theorem sc_l_marks : FnScope n_l_marks ["_law_source_here", "_law_many"] (defScope s_l_marks) := ⟨rfl, rfl, rfl, by decide +kernel, rfl, by decide +kernel, by decide +kernel⟩
abbrev s_l_room : Stmt := topS 17
abbrev n_l_room : List Str := ["_law_marks_here", "_law_unit", "_law_first", "_law_found", "_law_spot", "_law_width"]
theorem sc_l_room : FnScope n_l_room ["_law_marks_here", "_law_unit", "_law_first"] (defScope s_l_room) := ⟨rfl, rfl, rfl, by decide +kernel, rfl, by decide +kernel, by decide +kernel⟩
abbrev s_l_second : Stmt := topS 18
abbrev n_l_second : List Str := ["_law_source_here", "_law_marks_here", "_law_way", "_law_mark"]
theorem sc_l_second : FnScope n_l_second ["_law_source_here", "_law_marks_here"] (defScope s_l_second) := ⟨rfl, rfl, rfl, by decide +kernel, rfl, by decide +kernel, by decide +kernel⟩
abbrev s_law : Stmt := topS 19
abbrev n_law : List Str := ["_law_script", "_law_source_here", "_law_turn", "_law_unit", "_law_first", "_law_ones", "_law_others", "_law_one", "_law_other", "_law_pairs", "_law_due", "_law_here", "_law_there", "_law_again", "_law_found"]
theorem sc_law : FnScope n_law ["_law_script"] (defScope s_law) := ⟨rfl, rfl, rfl, by decide +kernel, rfl, by decide +kernel, by decide +kernel⟩
/-- what the top has left -/
structure Txt (K : PySem.W.Frag) (mg : Str → Option Value) where
  f_q_room_of : Addr
  d_q_room_of : FuncData
  F_q_room_of : Fun K "room_of" "room_of" s_q_room_of f_q_room_of d_q_room_of
  g_q_room_of : mg "room_of" = some (.ref f_q_room_of)
  bd_q_room_of : Binds K d_q_room_of ["blocks"] []
  f_q_union : Addr
  d_q_union : FuncData
  F_q_union : Fun K "union" "union" s_q_union f_q_union d_q_union
  g_q_union : mg "union" = some (.ref f_q_union)
  bd_q_union : Binds K d_q_union ["one", "other"] []
  f_q_common : Addr
  d_q_common : FuncData
  F_q_common : Fun K "common" "common" s_q_common f_q_common d_q_common
  g_q_common : mg "common" = some (.ref f_q_common)
  bd_q_common : Binds K d_q_common ["one", "other"] []
  f_q_without : Addr
  d_q_without : FuncData
  F_q_without : Fun K "without" "without" s_q_without f_q_without d_q_without
  g_q_without : mg "without" = some (.ref f_q_without)
  bd_q_without : Binds K d_q_without ["one", "other"] []
  f_p_spans : Addr
  d_p_spans : FuncData
  F_p_spans : Fun K "_spans" "_spans" s_p_spans f_p_spans d_p_spans
  g_p_spans : mg "_spans" = some (.ref f_p_spans)
  bd_p_spans : Binds K d_p_spans ["blocks"] []
  f_p_shared : Addr
  d_p_shared : FuncData
  F_p_shared : Fun K "_shared" "_shared" s_p_shared f_p_shared d_p_shared
  g_p_shared : mg "_shared" = some (.ref f_p_shared)
  bd_p_shared : Binds K d_p_shared ["ones", "others"] []
  f_p_gaps : Addr
  d_p_gaps : FuncData
  F_p_gaps : Fun K "_gaps" "_gaps" s_p_gaps f_p_gaps d_p_gaps
  g_p_gaps : mg "_gaps" = some (.ref f_p_gaps)
  bd_p_gaps : Binds K d_p_gaps ["spans"] []
  f_p_room : Addr
  d_p_room : FuncData
  F_p_room : Fun K "_room" "_room" s_p_room f_p_room d_p_room
  g_p_room : mg "_room" = some (.ref f_p_room)
  bd_p_room : Binds K d_p_room ["spans"] []
  f_p_greatest : Addr
  d_p_greatest : FuncData
  F_p_greatest : Fun K "_greatest" "_greatest" s_p_greatest f_p_greatest d_p_greatest
  g_p_greatest : mg "_greatest" = some (.ref f_p_greatest)
  bd_p_greatest : Binds K d_p_greatest ["low", "high"] []
  f_l_source : Addr
  d_l_source : FuncData
  F_l_source : Fun K "_law_source" "_law_source" s_l_source f_l_source d_l_source
  g_l_source : mg "_law_source" = some (.ref f_l_source)
  bd_l_source : Binds K d_l_source ["_law_script"] []
  f_l_below : Addr
  d_l_below : FuncData
  F_l_below : Fun K "_law_below" "_law_below" s_l_below f_l_below d_l_below
  g_l_below : mg "_law_below" = some (.ref f_l_below)
  bd_l_below : Binds K d_l_below ["_law_source_here", "_law_many"] []
  f_l_pick : Addr
  d_l_pick : FuncData
  F_l_pick : Fun K "_law_pick" "_law_pick" s_l_pick f_l_pick d_l_pick
  g_l_pick : mg "_law_pick" = some (.ref f_l_pick)
  bd_l_pick : Binds K d_l_pick ["_law_source_here", "_law_items"] []
  f_l_world : Addr
  d_l_world : FuncData
  F_l_world : Fun K "_law_world" "_law_world" s_l_world f_l_world d_l_world
  g_l_world : mg "_law_world" = some (.ref f_l_world)
  bd_l_world : Binds K d_l_world ["_law_source_here"] []
  f_l_marks : Addr
  d_l_marks : FuncData
  F_l_marks : Fun K "_law_marks" "_law_marks" s_l_marks f_l_marks d_l_marks
  g_l_marks : mg "_law_marks" = some (.ref f_l_marks)
  bd_l_marks : Binds K d_l_marks ["_law_source_here", "_law_many"] []
  f_l_room : Addr
  d_l_room : FuncData
  F_l_room : Fun K "_law_room" "_law_room" s_l_room f_l_room d_l_room
  g_l_room : mg "_law_room" = some (.ref f_l_room)
  bd_l_room : Binds K d_l_room ["_law_marks_here", "_law_unit", "_law_first"] []
  f_l_second : Addr
  d_l_second : FuncData
  F_l_second : Fun K "_law_second" "_law_second" s_l_second f_l_second d_l_second
  g_l_second : mg "_law_second" = some (.ref f_l_second)
  bd_l_second : Binds K d_l_second ["_law_source_here", "_law_marks_here"] []
  f_law : Addr
  d_law : FuncData
  F_law : Fun K "law" "law" s_law f_law d_law
  g_law : mg "law" = some (.ref f_law)
  bd_law : Binds K d_law ["_law_script"] []
  t_SPACE : Tok
  g_SPACE : mg "SPACE" = some (.int 281474976710656 t_SPACE)
  b_abs : mg "abs" = none
  b_len : mg "len" = none
  b_list : mg "list" = none
  b_max : mg "max" = none
  b_min : mg "min" = none
  b_range : mg "range" = none
  b_repr : mg "repr" = none
  b_sorted : mg "sorted" = none
  b_tuple : mg "tuple" = none
  b_zip : mg "zip" = none
section
variable {P : Program} {w : World} {K : PySem.W.Frag} {mg : Str → Option Value} {base : Heap}
set_option maxHeartbeats 4000000
theorem ok_l_source (T : Txt K mg) : FnOk P w K mg base CX0 1 T.f_l_source T.d_l_source ["_law_script"]  (sp_l_source K) := by
  refine T.F_l_source.ok sc_l_source (fun vs H Q E h => ?_) (fun cdv A outer s H vs Q E hr h => ?_)
  · obtain ⟨a, ns, rfl, _⟩ := h
    rfl
  · obtain ⟨a, ns, rfl, hS, hlen, q⟩ := h
    refine ⟨_, (pss_cons (ps_setLc (i := 1) (own := [("_law_cell", 2)]) (g := gName 2) (by rfl) sc_l_source.nd rfl rfl (sw_true rfl rfl rfl (by decide +kernel)) (pi_list (pv 0)) (blkOk_by (own := [("_law_cell", 2)]) (N := n_l_source) (sc := defScope s_l_source) (by decide +kernel)) (fun _ _ _ _ _ => (pg_name (i := 2) sc_l_source.nd rfl (Or.inl rfl))) (fun _ _ _ _ _ => pts_nil) (fun _ _ _ _ _ => (pe_callB call_abs (by rfl) T.b_abs (by decide +kernel) (pa_cons (pv 2) pa_nil))))
      (pss_one (ps_ret (pe_disp (pps_cons pe_str (pe_lc (own := [("_law_cell", 2)]) (g := gName 2) (by rfl) sc_l_source.nd (pi_list (pv 1)) (blkOk_by (own := [("_law_cell", 2)]) (N := n_l_source) (sc := defScope s_l_source) (by decide +kernel)) (fun _ _ _ _ _ => (pg_name (i := 2) sc_l_source.nd rfl (Or.inl rfl))) (fun _ _ _ _ _ => (pts_one (pt_cmpR op_gt (pv 2) (pe_op op_pow pe_int pe_int) (nomark _)))) (fun _ _ _ _ _ => (pv 2))) (pps_cons pe_str (pe_op op_cat (pv 1) (pe_lst (pa_cons (pe_op op_add (pe_callB call_len_seq (by rfl) T.b_len (by decide +kernel) (pa_cons (pv 1) pa_nil)) pe_int) pa_nil))) (pps_cons pe_str pe_int pps_nil))) (by rfl) (by rfl) (fun z => by cases z) (by decide))))), ?_⟩
    -- the cells: abs of each number
    refine ⟨.ref a, rfl, a, rfl, ⟨_, hS⟩, fun C hC => lc_list (K := K) (a := a) (xs := ns.map V.int) (fun i H1 => Same H H1 ∧ H C = none ∧ ∃ ys : List Int, H1 C = some (.lst (ys.map V.int)) ∧ ys.length = i) ⟨same_new hC, hC, [], upd_same, rfl⟩
      (fun i H1 _ p => p.1.seq hS) ?_ ?_⟩
    · rintro i x H1 hi ⟨sm, nC, ys, e, el⟩
      obtain ⟨z, hz, rfl⟩ := get_ints hi
      have hil : i < ns.length := (List.getElem?_eq_some_iff.mp hz).1
      refine ⟨rfl, ?_⟩
      refine iteT (B := Same H H1 ∧ H C = none ∧ ∃ ys : List Int, H1 C = some (.lst (ys.map V.int)) ∧ ys.length = i + 1) ?_
      refine ⟨_, rfl, z, rfl, _, e, ?_, fun b o h => ?_, nC, ys ++ [if z < 0 then -z else z], ?_, ?_⟩
      · rw [List.length_map]
        exact small1000 (by omega)
      · rw [upd_ne (ne_of_none h nC)]
        exact sm b o h
      · rw [upd_same, List.map_append]
        rfl
      · rw [List.length_append, el]
        rfl
    · rintro H1 ⟨sm, nC, ys, e, el⟩
      rw [List.length_map] at el
      -- the dict
      intro s ns0
      -- the large ones
      refine ⟨.ref C, rfl, C, rfl, ⟨_, SqL.of (by rw [upd_ne (ne_of_none e ns0)]; exact e)⟩, fun l hl => ?_⟩
      have nls : l ≠ s := fun z => by
        subst z
        rw [upd_same] at hl
        cases hl
      have nlC : C ≠ l := ne_of_none (by rw [upd_ne (ne_of_none e ns0)]; exact e) hl
      have hl1 : H1 l = none := by
        rw [upd_ne nls] at hl
        exact hl
      refine lc_list (K := K) (a := C) (xs := ys.map V.int) (fun i H2 => Same H H2 ∧ H2 C = some (.lst (ys.map V.int)) ∧ H2 s = some (.dK []) ∧ ∃ zs : List Int, H2 l = some (.lst (zs.map V.int)) ∧ zs.length ≤ i)
        ⟨fun b o h => ?_, by rw [upd_ne nlC, upd_ne (ne_of_none e ns0)]; exact e, by rw [upd_ne nls.symm, upd_same], [], upd_same, Nat.le_refl _⟩ (fun i H2 _ p => SqL.of p.2.1) ?_ ?_
      · have h1 := sm b o h
        rw [upd_ne (ne_of_none h1 hl1), upd_ne (ne_of_none h1 ns0)]
        exact h1
      · rintro i x H2 hi ⟨sm2, eC, es, zs, ez, lz⟩
        obtain ⟨z, hz, rfl⟩ := get_ints hi
        have hil : i < ys.length := (List.getElem?_eq_some_iff.mp hz).1
        refine ⟨rfl, ?_⟩
        refine ⟨_, rfl, _, _, rfl, rfl, (by unfold CPow; decide), z, _, rfl, rfl, _, rfl, ?_⟩
        refine ite2 (fun _ => ?_) (fun _ => ?_)
        · refine ⟨_, rfl, _, ez, ?_, fun b o h => ?_, by rw [upd_ne nlC]; exact eC, by rw [upd_ne nls.symm]; exact es, zs ++ [z], ?_, ?_⟩
          · rw [List.length_map]
            exact small1000 (by omega)
          · rw [upd_ne (ne_of_none (sm b o h) hl1)]
            exact sm2 b o h
          · rw [upd_same, List.map_append]
            rfl
          · rw [List.length_append]
            show zs.length + 1 ≤ i + 1
            omega
        · exact ⟨sm2, eC, es, zs, ez, by omega⟩
      · rintro H2 ⟨sm2, eC, es, zs, ez, lz⟩
        rw [List.length_map] at lz
        -- the cells and one more
        refine ⟨_, rfl, _, rfl, C, _, rfl, .inl (SqL.of eC), _, _, rfl, rfl, (by show 1 ≤ sizeLine; decide), fun p np => ?_⟩
        refine ⟨C, p, _, _, rfl, rfl, by rw [upd_ne (ne_of_none eC np)]; exact eC, upd_same, ?_, fun c hc => ?_⟩
        · rw [List.length_map]
          exact Nat.le_of_lt (small1000 (by show ys.length + 1 ≤ 1000; omega))
        have nsp : s ≠ p := ne_of_none es np
        have nlp : l ≠ p := ne_of_none ez np
        have ncp : c ≠ p := fun z => by
          subst z
          rw [upd_same] at hc
          cases hc
        have hc2 : H2 c = none := by
          rw [upd_ne ncp] at hc
          exact hc
        have nsc : s ≠ c := ne_of_none es hc2
        have nlc : l ≠ c := ne_of_none ez hc2
        refine ⟨by rw [upd_ne nsc, upd_ne nsp]; exact es, [(.inr ("large" : Str), .ref l), (.inr ("cells" : Str), .ref c), (.inr ("turn" : Str), .int 0)], rfl, (by show 3 ≤ 15; decide), ?_⟩
        have em : mergeK [] ([(.inr ("large" : Str), .ref l), (.inr ("cells" : Str), .ref c), (.inr ("turn" : Str), .int 0)] : List (Key × V)) = srcD l c 0 := src_merge
        rw [em]
        refine q _ s l c ⟨upd_same, ⟨zs, by rw [upd_ne nls, upd_ne nlc, upd_ne nlp]; exact ez, by omega⟩, ⟨ys ++ [_], by rw [upd_ne nsc.symm, upd_same, List.map_append]; rfl, by simp, by rw [List.length_append]; show ys.length + 1 ≤ 64; omega⟩, nlc.symm, Int.le_refl _⟩ fun b o h => ?_
        have h1 := sm b o h
        have h2 := sm2 b o h
        refine hid_of (ne_of_none h1 ns0) (ne_of_none h1 hl1) ?_
        rw [upd_ne (ne_of_none h1 ns0), upd_ne (ne_of_none h2 hc2), upd_ne (ne_of_none h2 np)]
        exact h2
theorem ok_l_below (T : Txt K mg) : FnOk P w K mg base CX0 1 T.f_l_below T.d_l_below ["_law_source_here", "_law_many"] sp_l_below := by
  refine T.F_l_below.ok sc_l_below (fun vs H Q E h => ?_) (fun cdv A outer s H vs Q E hr h => ?_)
  · obtain ⟨s, l, c, t, many, rfl, _⟩ := h
    rfl
  · obtain ⟨s, l, c, t, many, rfl, S, ht, m0, m1, q⟩ := h
    have hu := hu_of hr
    have S0 := S
    obtain ⟨xs, el, hx⟩ := S.lg
    refine ⟨_, (pss_cons (ps_set (i := 2) sc_l_below.nd rfl (by first | exact Or.inl rfl | exact Or.inr rfl) (pe_dget hu (pv 0) pe_str (fun _ _ => rfl)))
      (pss_cons (ps_if (pt_cmpR (op_neD hr.units) (pv 2) (pe_lst pa_nil) (nomark _))
      (pss_cons (ps_set (i := 3) sc_l_below.nd rfl (by first | exact Or.inl rfl | exact Or.inr rfl) (pe_op op_mod (pe_ix ix_list (pv 2) pe_int (fun _ _ => rfl)) (pv 1)))
      (pss_cons (ps_asg (pe_op op_fdivW (pe_ix ix_list (pv 2) pe_int (fun _ _ => rfl)) (pv 1)) (pg_sub (pv 2) pe_int set_list))
      (pss_cons (ps_if (pt_cmpR op_eq (pe_ix ix_list (pv 2) pe_int (fun _ _ => rfl)) pe_int (nomark _))
      (pss_one (ps_expr (pe_bm PySem.F.plainAttrs_list PySem.F.slot_list_pop PySem.F.type_list_pop mt_popAt (pv 2) (pa_cons pe_int pa_nil))))
      pss_nil)
      (pss_one (ps_ret (pv 3))))))
      pss_nil)
      (pss_cons (ps_set (i := 4) sc_l_below.nd rfl (by first | exact Or.inl rfl | exact Or.inr rfl) (pe_op op_add (pe_dget hu (pv 0) pe_str (fun _ _ => rfl)) pe_int))
      (pss_cons (ps_dput hu (pv 0) pe_str (pv 4) rfl)
      (pss_cons (ps_set (i := 5) sc_l_below.nd rfl (by first | exact Or.inl rfl | exact Or.inr rfl) (pe_op op_mod (pe_ix ix_list (pe_dget hu (pv 0) pe_str (fun _ _ => rfl)) (pe_op op_mod (pv 4) (pe_callB call_len_seq (by rfl) T.b_len (by decide +kernel) (pa_cons (pe_dget hu (pv 0) pe_str (fun _ _ => rfl)) pa_nil))) (fun _ _ => rfl)) pe_int))
      (pss_cons (ps_set (i := 6) sc_l_below.nd rfl (by first | exact Or.inl rfl | exact Or.inr rfl) (pe_op op_mod (pe_op op_add (pe_op op_add (pe_op op_mul (pv 5) (pe_op op_add pe_int (pe_op op_mul pe_int (pv 4)))) (pe_op op_mul (pe_op op_mul pe_int (pv 4)) (pv 4))) pe_int) pe_int))
      (pss_one (ps_ret (pe_op op_mod (pe_op op_mod (pe_op op_fdivW (pe_op op_mul (pv 6) (pv 6)) pe_int) pe_int) (pv 1)))))))))), ?_⟩
    refine ⟨_, rfl, s, _, rfl, S.getL, ?_⟩
    refine ⟨_, rfl, Nat.zero_le _, fun p np => ne_nil (xs := xs) (by rw [upd_ne (ne_of_none el np)]; exact el) upd_same ⟨_, rfl, ?_⟩⟩
    have g1 : Goes s l c 0 H (upd H p (.lst [])) t t := S.goesNew np
    have el1 : (upd H p (.lst [])) l = some (.lst (xs.map V.int)) := by
      rw [upd_ne (ne_of_none el np)]
      exact el
    generalize upd H p (.lst []) = H1 at g1 el1 ⊢
    cases xs with
    | cons x r =>
      refine iteT ?_
      -- found = large[0] % many
      refine ⟨_, rfl, l, _, _, .int x, rfl, rfl, SqL.of el1, atI_nat (j := 0) rfl, _, rfl, x, many, rfl, rfl, m0, ?_⟩
      -- large[0] = large[0] // many
      refine ⟨_, rfl, l, _, _, .int x, rfl, rfl, SqL.of el1, atI_nat (j := 0) rfl, _, rfl, x, many, rfl, rfl, log_of m0 m1 (by decide) (by decide) x, ?_⟩
      refine ⟨_, rfl, l, _, 0, 0, rfl, rfl, el1, ixN_zero (by rw [List.length_map]; exact Nat.succ_pos _), ?_⟩
      have g2 := g1.src.stored ((x / many) :: r) (by simpa using hx)
      have e2 : (upd H1 l (.lst (((x :: r).map V.int).set 0 (.int (x / many))))) = upd H1 l (.lst (((x / many) :: r).map V.int)) := rfl
      rw [e2]
      -- if large[0] == 0: large.pop(0)
      refine ⟨_, rfl, l, _, _, .int (x / many), rfl, rfl, SqL.of upd_same, atI_nat (j := 0) rfl, rfl, _, rfl, ?_⟩
      have rl := Int.emod_nonneg x (show many ≠ 0 by omega)
      have rh := Int.emod_lt_of_pos x m0
      refine ite2 (fun _ => ?_) (fun _ => ?_)
      · refine ⟨_, rfl, .inl ⟨rfl, _, SqL.of upd_same⟩, l, _, 0, 0, .int (x / many), rfl, rfl, upd_same, by decide, by decide, ?_, rfl, ?_⟩
        · exact seq_zero (by rw [List.length_map]; exact Nat.succ_pos _)
        refine ⟨_, rfl, ?_⟩
        have g3 := g2.src.stored r (by simp at hx; omega)
        exact q _ _ _ (((g1.trans g2).trans g3).wide (by decide)) rl rh
      · refine ⟨_, rfl, ?_⟩
        exact q _ _ _ ((g1.trans g2).wide (by decide)) rl rh
    | nil =>
      refine iteF ?_
      -- turn = source['turn'] + 1; stored
      refine ⟨_, rfl, s, _, rfl, g1.src.getT, _, _, rfl, rfl, ?_⟩
      refine ⟨_, rfl, _, rfl, s, _, rfl, g1.src.put, ?_⟩
      have g2 := g1.trans g1.src.turned
      generalize (upd H1 s (.dK (srcD l c (t + 1)))) = H2 at g2 ⊢
      obtain ⟨ys, ec, ny, hy⟩ := g2.src.ce
      have t0 := S0.t0
      have yl : 0 < ys.length := List.length_pos_iff.mpr ny
      -- the cell
      have b0 := Int.emod_nonneg (t + 1) (show (ys.length : Int) ≠ 0 by omega)
      have b1 := Int.emod_lt_of_pos (t + 1) (show (0 : Int) < ys.length by omega)
      have bk : ((t + 1) % (ys.length : Int)).toNat < ys.length := by omega
      refine ⟨_, rfl, s, .ref c, rfl, g2.src.getC, _, rfl, _, rfl, s, .ref c, rfl, g2.src.getC, c, _, rfl, .inl (SqL.of ec), t + 1, (ys.length : Int), rfl, (by rw [List.length_map]), by omega, ?_⟩
      refine ⟨c, _, _, .int ys[((t + 1) % (ys.length : Int)).toNat], rfl, rfl, SqL.of ec, at_of (j := ((t + 1) % (ys.length : Int)).toNat) (by omega) (by rw [List.getElem?_map, List.getElem?_eq_getElem bk]; rfl), ?_⟩
      generalize ys[((t + 1) % (ys.length : Int)).toNat] = y
      refine ⟨y, 2147483629, rfl, rfl, (by show (0 : Int) < 2147483629; decide), ?_⟩
      dsimp only
      have c0 := Int.emod_nonneg y (show (2147483629 : Int) ≠ 0 by decide)
      have c1 := Int.emod_lt_of_pos y (show (0 : Int) < 2147483629 by decide)
      generalize y % 2147483629 = z at c0 c1 ⊢
      -- mixed
      refine ⟨_, rfl, _, rfl, 69621, t + 1, rfl, rfl, .inl ⟨by decide, by decide⟩, 40014, _, rfl, rfl, z, _, rfl, rfl, .inl ⟨by omega, by omega⟩, ?_⟩
      refine ⟨_, rfl, 48271, t + 1, rfl, rfl, .inl ⟨by decide, by decide⟩, _, rfl, _, t + 1, rfl, rfl, .inr ⟨by omega, by omega⟩, _, _, rfl, rfl, _, 7, rfl, rfl, _, 2147483647, rfl, rfl, (by show (0 : Int) < 2147483647; decide), ?_⟩
      dsimp only
      generalize (z * (40014 + 69621 * (t + 1)) + 48271 * (t + 1) * (t + 1) + 7) = m
      have d0 := Int.emod_nonneg m (show (2147483647 : Int) ≠ 0 by decide)
      have d1 := Int.emod_lt_of_pos m (show (0 : Int) < 2147483647 by decide)
      generalize m % 2147483647 = x at d0 d1 ⊢
      refine ⟨_, rfl, _, rfl, x, x, rfl, rfl, .inl ⟨by omega, by omega⟩, _, 32, rfl, rfl, log_of (k := 6) (by decide) (by decide) (by decide) (by decide) _, _, 2147483587, rfl, rfl, (by show (0 : Int) < 2147483587; decide), _, rfl, _, many, rfl, rfl, m0, ?_⟩
      exact q _ _ _ (g2.wide (by decide)) (Int.emod_nonneg _ (show many ≠ 0 by omega)) (Int.emod_lt_of_pos _ m0)
theorem ok_l_pick (T : Txt K mg) : FnOk P w K mg base CX0 2 T.f_l_pick T.d_l_pick ["_law_source_here", "_law_items"] sp_l_pick := by
  refine T.F_l_pick.ok sc_l_pick (fun vs H Q E h => ?_) (fun cdv A outer s H vs Q E hr h => ?_)
  · obtain ⟨s, l, c, p, t, xs, rfl, _⟩ := h
    rfl
  · obtain ⟨s, l, c, p, t, xs, rfl, S, ht, hp, x0, x1, q⟩ := h
    refine ⟨_, (pss_one (ps_ret (pe_ix ix_list (pv 1) (pe_call (ok_l_below T) (hr.mono (by decide)) (by rfl) T.g_l_below T.F_l_below.kp T.bd_l_below .nil pass0 (pa_cons (pv 0) (pa_cons (pe_callB call_len_seq (by rfl) T.b_len (by decide +kernel) (pa_cons (pv 1) pa_nil)) pa_nil))) (fun _ _ => rfl)))), ?_⟩
    refine ⟨_, rfl, _, rfl, _, rfl, p, xs, rfl, .inl (SqL.of (hid_some hp).2.2), ?_⟩
    refine ⟨s, l, c, t, xs.length, rfl, S, ht, by omega, by omega, fun H' r t' g r0 r1 => ?_⟩
    have hk : r.toNat < xs.length := by omega
    exact ⟨p, xs, r, xs[r.toNat], rfl, rfl, SqL.of (hid_some (g.keep _ _ hp)).2.2, at_of (j := r.toNat) (by omega) (List.getElem?_eq_getElem hk), q H' r.toNat _ t' g (List.getElem?_eq_getElem hk)⟩
theorem ok_l_world (T : Txt K mg) : FnOk P w K mg base CX0 3 T.f_l_world T.d_l_world ["_law_source_here"] sp_l_world := by
  refine T.F_l_world.ok sc_l_world (fun vs H Q E h => ?_) (fun cdv A outer s H vs Q E hr h => ?_)
  · obtain ⟨s, l, c, t, rfl, _⟩ := h
    rfl
  · obtain ⟨s, l, c, t, rfl, S, ht, q⟩ := h
    refine ⟨_, (pss_cons (ps_set (i := 1) sc_l_world.nd rfl (by first | exact Or.inl rfl | exact Or.inr rfl) (pe_op op_shl pe_int (pe_call (ok_l_pick T) (hr.mono (by decide)) (by rfl) T.g_l_pick T.F_l_pick.kp T.bd_l_pick .nil pass0 (pa_cons (pv 0) (pa_cons (pe_lst (pa_cons pe_int (pa_cons pe_int (pa_cons pe_int (pa_cons pe_int (pa_cons pe_int pa_nil)))))) pa_nil)))))
      (pss_cons (ps_set (i := 2) sc_l_world.nd rfl (by first | exact Or.inl rfl | exact Or.inr rfl) (pe_op op_sub (pe_op op_fdivW (pe_op op_pow pe_int pe_int) (pe_op op_mul pe_int (pv 1))) pe_int))
      (pss_cons (ps_set (i := 3) sc_l_world.nd rfl (by first | exact Or.inl rfl | exact Or.inr rfl) (pe_call (ok_l_pick T) (hr.mono (by decide)) (by rfl) T.g_l_pick T.F_l_pick.kp T.bd_l_pick .nil pass0 (pa_cons (pv 0) (pa_cons (pe_lst (pa_cons pe_int (pa_cons (pv 2) (pa_cons (pe_op op_fdivW (pe_op op_pow pe_int pe_int) (pe_op op_mul pe_int (pv 1))) (pa_cons (pe_call (ok_l_below T) (hr.mono (by decide)) (by rfl) T.g_l_below T.F_l_below.kp T.bd_l_below .nil pass0 (pa_cons (pv 0) (pa_cons (pe_op op_add (pv 2) pe_int) pa_nil))) pa_nil))))) pa_nil))))
      (pss_one (ps_ret (pe_tup (pa_cons (pv 1) (pa_cons (pe_op op_mul (pe_op op_mul (pe_callB (call_min2 rfl) (by rfl) T.b_min (by decide +kernel) (pa_cons (pv 3) (pa_cons (pv 2) pa_nil))) pe_int) (pv 1)) pa_nil)))))))), ?_⟩
    -- the unit
    refine ⟨_, rfl, (by show 5 ≤ sizeLine; decide), fun p np => ?_⟩
    have gp := S.goesNew (o := .lst [.int 0, .int 3, .int 17, .int 28, .int 38]) np
    have hp := S.hidNew (o := .lst [.int 0, .int 3, .int 17, .int 28, .int 38]) np
    refine ⟨s, l, c, p, t, _, rfl, gp.src, by omega, hp, by show 0 < 5; decide, by show 5 ≤ 1000; decide, fun H1 i v t1 g1 e1 => ?_⟩
    obtain ⟨k, hk, rfl⟩ : ∃ k : Nat, k ≤ 38 ∧ v = .int (k : Int) := by
      have h := List.mem_of_getElem? e1
      simp only [List.mem_cons, List.not_mem_nil, or_false] at h
      rcases h with rfl | rfl | rfl | rfl | rfl
      · exact ⟨0, by decide, rfl⟩
      · exact ⟨3, by decide, rfl⟩
      · exact ⟨17, by decide, rfl⟩
      · exact ⟨28, by decide, rfl⟩
      · exact ⟨38, by decide, rfl⟩
    replace g1 := gp.trans g1
    clear gp hp np e1
    refine ⟨16, (k : Int), rfl, rfl, ⟨by omega, by omega, by decide⟩, ?_⟩
    have ek : ((k : Int)).toNat = k := by omega
    dsimp only
    rw [ek]
    have hz : 16 ≤ (16 : Int) * 2 ^ k ∧ (16 : Int) * 2 ^ k ≤ 281474976710656 := by
      have h := pow_bounds (r := (k : Int)) (by omega) (by omega)
      rw [ek] at h
      exact h
    have zk : (64 * ((16 : Int) * 2 ^ k)) * 2 ^ (38 - k) = 281474976710656 := by
      rw [← Int.mul_assoc, Int.mul_assoc, ← Int.pow_add, show k + (38 - k) = 38 by omega]
      decide
    have zp : 0 < (2 : Int) ^ (38 - k) := Int.pow_pos (by decide)
    have zq : (281474976710656 : Int) / (64 * (16 * 2 ^ k)) = 2 ^ (38 - k) := by
      rw [← zk]
      exact Int.mul_ediv_cancel_left _ (by omega)
    have zr : (2 : Int) ^ (38 - k) ≤ 2 ^ 38 := by
      have h : 2 ^ (38 - k) ≤ 2 ^ 38 := Nat.pow_le_pow_right (by decide) (by omega)
      have e : ((2 ^ (38 - k) : Nat) : Int) = (2 : Int) ^ (38 - k) := by simp
      omega
    generalize hu : (16 : Int) * 2 ^ k = z at hz zk zq ⊢
    generalize hw : (2 : Int) ^ (38 - k) = w at zk zp zq zr
    obtain ⟨z0, z1⟩ := hz
    have zd : ∀ m, CDivW m (64 * z) := fun m => log_of (k := 56) (by omega) (by omega) (by decide) (by decide) m
    -- the most
    refine ⟨2, 48, rfl, rfl, (by unfold CPow; decide), _, rfl, 64, z, rfl, rfl, .inl ⟨by decide, by decide⟩, _, _, rfl, rfl, zd _, _, 1, rfl, rfl, ?_⟩
    have e48 : ((2 : Int) ^ (48 : Int).toNat / (64 * z)) = w := zq
    dsimp only
    rw [e48]
    -- the spot
    refine ⟨_, rfl, _, rfl, 2, 32, rfl, rfl, (by unfold CPow; decide), _, rfl, 64, z, rfl, rfl, .inl ⟨by decide, by decide⟩, _, _, rfl, rfl, zd _, ?_⟩
    refine ⟨_, rfl, _, rfl, w - 1, 1, rfl, rfl, s, l, c, t1, w - 1 + 1, rfl, g1.src, by have := g1.up; omega, by omega, by omega, fun H2 r t2 g2 r0 r1 => ?_⟩
    have d0 : 0 ≤ (2 : Int) ^ (32 : Int).toNat / (64 * z) := Int.ediv_nonneg (by decide) (by omega)
    dsimp only
    generalize (2 : Int) ^ (32 : Int).toNat / (64 * z) = y at d0 ⊢
    refine ⟨(by show 4 ≤ sizeLine; decide), fun p np => ?_⟩
    have gp := (g1.trans g2).new (o := .lst [.int 0, .int (w - 1), .int y, .int r]) np
    have hp := g2.src.hidNew (o := .lst [.int 0, .int (w - 1), .int y, .int r]) np
    refine ⟨s, l, c, p, t2, _, rfl, gp.src, by have := gp.up; omega, hp, by show 0 < 4; decide, by show 4 ≤ 1000; decide, fun H3 i v t3 g3 e3 => ?_⟩
    obtain ⟨x, hx, rfl⟩ : ∃ x : Int, 0 ≤ x ∧ v = .int x := by
      have h := List.mem_of_getElem? e3
      simp only [List.mem_cons, List.not_mem_nil, or_false] at h
      rcases h with rfl | rfl | rfl | rfl
      · exact ⟨0, by decide, rfl⟩
      · exact ⟨w - 1, by omega, rfl⟩
      · exact ⟨y, d0, rfl⟩
      · exact ⟨r, r0, rfl⟩
    replace g3 := gp.trans g3
    clear gp hp np e3
    -- the pair
    refine ⟨_, rfl, _, rfl, _, rfl, x, w - 1, rfl, _, 64, rfl, rfl, .inr ⟨by decide, by decide⟩, _, rfl, _, z, rfl, rfl, .inr ⟨by omega, by omega⟩, (by show 2 ≤ sizeLine; decide), fun p np => ?_⟩
    have m0 := (More.start g3.src).tup np (.cons (.int z) (.cons (.int ((if w - 1 < x then w - 1 else x) * 64 * z)) .nil))
    have gg := (g3.trans m0.goes).wide (n := 3) (by decide)
    refine q _ _ t3 k (if w - 1 < x then w - 1 else x) gg hk ?_ ?_ ?_
    · split <;> omega
    · rw [hw]
      split <;> omega
    · rw [hu]
      exact m0.hd
theorem ok_l_marks (T : Txt K mg) : FnOk P w K mg base CX0 3 T.f_l_marks T.d_l_marks ["_law_source_here", "_law_many"] sp_l_marks := by
  refine T.F_l_marks.ok sc_l_marks (fun vs H Q E h => ?_) (fun cdv A outer s H vs Q E hr h => ?_)
  · obtain ⟨s, l, c, t, n, rfl, _⟩ := h
    rfl
  · obtain ⟨s, l, c, t, n, rfl, S, ht, n0, n1, q⟩ := h
    refine ⟨_, (pss_cons (ps_set (i := 2) sc_l_marks.nd rfl (by first | exact Or.inl rfl | exact Or.inr rfl) (pe_call (ok_l_below T) (hr.mono (by decide)) (by rfl) T.g_l_below T.F_l_below.kp T.bd_l_below .nil pass0 (pa_cons (pv 0) (pa_cons pe_int pa_nil))))
      (pss_cons (ps_if (pt_cmpR op_eq (pv 2) pe_int (nomark _))
      (pss_one (ps_ret (pe_lc (own := [("_law_k", 3)]) (g := gName 3) (by rfl) sc_l_marks.nd (pi_range1 (by rfl) T.b_range (pa_cons (pv 1) pa_nil)) (blkOk_by (own := [("_law_k", 3)]) (N := n_l_marks) (sc := defScope s_l_marks) (by decide +kernel)) (fun _ _ _ _ _ => (pg_name (i := 3) sc_l_marks.nd rfl (Or.inl rfl))) (fun _ _ _ _ _ => pts_nil) (fun _ _ _ _ _ => (pe_cmpR op_eq (pe_call (ok_l_below T) (hr.mono (by decide)) (by rfl) T.g_l_below T.F_l_below.kp T.bd_l_below .nil pass0 (pa_cons (pv 0) (pa_cons pe_int pa_nil))) pe_int (nomark _))))))
      pss_nil)
      (pss_cons (ps_set (i := 4) sc_l_marks.nd rfl (by first | exact Or.inl rfl | exact Or.inr rfl) (pe_op op_rep (pe_lst (pa_cons (pe_cmpR op_eq (pv 2) pe_int (nomark _)) pa_nil)) (pv 1)))
      (pss_cons (ps_for PassesOwn.never rfl (pi_range1 (by rfl) T.b_range (pa_cons (pe_call (ok_l_below T) (hr.mono (by decide)) (by rfl) T.g_l_below T.F_l_below.kp T.bd_l_below .nil pass0 (pa_cons (pv 0) (pa_cons pe_int pa_nil))) pa_nil)) (pg_name (i := 5) sc_l_marks.nd rfl (Or.inl rfl))
      (pss_cons (ps_par (i := 6) (j := 7) (by rfl) sc_l_marks.nd rfl rfl (by decide) rfl rfl (pa_cons (pe_call (ok_l_below T) (hr.mono (by decide)) (by rfl) T.g_l_below T.F_l_below.kp T.bd_l_below .nil pass0 (pa_cons (pv 0) (pa_cons (pv 1) pa_nil))) (pa_cons (pe_call (ok_l_pick T) (hr.mono (by decide)) (by rfl) T.g_l_pick T.F_l_pick.kp T.bd_l_pick .nil pass0 (pa_cons (pv 0) (pa_cons (pe_lst (pa_cons pe_int (pa_cons pe_int (pa_cons pe_int (pa_cons pe_int (pa_cons pe_int (pa_cons pe_int (pa_cons (pe_op op_add pe_int (pe_call (ok_l_below T) (hr.mono (by decide)) (by rfl) T.g_l_below T.F_l_below.kp T.bd_l_below .nil pass0 (pa_cons (pv 0) (pa_cons (pv 1) pa_nil)))) pa_nil)))))))) pa_nil))) pa_nil)) (by rfl))
      (pss_one (ps_for PassesOwn.never rfl (pi_range2 (by rfl) T.b_range (pa_cons (pv 6) (pa_cons (pe_callB (call_min2 rfl) (by rfl) T.b_min (by decide +kernel) (pa_cons (pv 1) (pa_cons (pe_op op_add (pv 6) (pv 7)) pa_nil))) pa_nil))) (pg_name (i := 3) sc_l_marks.nd rfl (Or.inl rfl))
      (pss_one (ps_asg (pe_cmpR op_ne (pv 2) pe_int (nomark _)) (pg_sub (pv 4) (pv 3) set_list)))))))
      (pss_one (ps_ret (pv 4))))))), ?_⟩
    -- the way
    refine ⟨_, rfl, s, l, c, t, 4, rfl, S, by omega, by decide, by decide, fun H1 way t1 g1 w0 w1 => ?_⟩
    refine ⟨_, rfl, rfl, _, rfl, ite2 (fun _ => ?_) (fun _ => ?_)⟩
    · -- each mark drawn
      refine ⟨_, rfl, (n : Int), rfl, by omega, by omega, fun D hD => ?_⟩
      have hD0 : H D = none := by
        cases e : H D with
        | none => rfl
        | some o =>
          by_cases z : D = s ∨ D = l
          · rcases z with rfl | rfl
            · rw [g1.src.d] at hD
              cases hD
            · obtain ⟨_, z, _⟩ := g1.src.lg
              rw [z] at hD
              cases hD
          · have := (hid_some (g1.keep D o (hid_of (fun y => z (.inl y)) (fun y => z (.inr y)) e))).2.2
            rw [this] at hD
            cases hD
      refine lc_range (lo := 0) (n := n) (fun i H' => ∃ (t' : Int) (bs : List Bool), Goes s l c (1 + i) H H' t t' ∧ hid s l H' D = some (.lst (bs.map V.bl)) ∧ bs.length = i)
        ⟨t1, [], (g1.new hD).wide (by omega), g1.src.hidNew hD, rfl⟩ ?_ ?_
      · rintro i H' hi ⟨t', bs, g, eD, lb⟩
        refine ⟨rfl, ?_⟩
        refine iteT (B := ∃ (t' : Int) (bs : List Bool), Goes s l c (1 + (i + 1 : Nat)) H H' t t' ∧ hid s l H' D = some (.lst (bs.map V.bl)) ∧ bs.length = i + 1) ?_
        refine ⟨_, rfl, s, l, c, t', 2, rfl, g.src, by have := g.up; omega, by decide, by decide, fun H2 r t2 g2 _ _ => ⟨rfl, ?_⟩⟩
        have e2 := g2.keep _ _ eD
        refine ⟨_, (hid_some e2).2.2, ?_, t2, bs ++ [decide (V.int r = V.int 0)], ?_, ?_, ?_⟩
        · rw [List.length_map]
          exact small1000 (by omega)
        · exact Goes.mut S ((g.trans g2).wide (by omega)) hD0
        · rw [S.hidUpd hD0, List.map_append]
          rfl
        · rw [List.length_append, lb]
          rfl
      · rintro H' ⟨t', bs, g, eD, lb⟩
        exact q H' D t' bs (g.wide (by omega)) hD0 eD lb
    · -- stretches of marks
      refine ⟨_, rfl, rfl, (by show 1 ≤ sizeLine; decide), fun p0 np0 => ?_⟩
      refine ⟨_, rfl, p0, (n : Int), _, rfl, rfl, upd_same, by omega, by omega, (by show 1 * ((n : Int)).toNat ≤ sizeLine; have : n ≤ 1000 := n1; exact Nat.le_of_lt (small1000 (by omega))), fun f nf => ?_⟩
      have gf := (g1.new (o := .lst [.bl (decide (V.int way = V.int 3))]) np0).new (o := .lst (List.replicate ((n : Int)).toNat [.bl (decide (V.int way = V.int 3))]).flatten) nf
      have hf := (g1.src.new (o := .lst [.bl (decide (V.int way = V.int 3))]) np0).hidNew (o := .lst (List.replicate ((n : Int)).toNat [.bl (decide (V.int way = V.int 3))]).flatten) nf
      have ef : (List.replicate ((n : Int)).toNat [V.bl (decide (V.int way = V.int 3))]).flatten = (List.replicate n (decide (V.int way = V.int 3))).map V.bl := by
        rw [show ((n : Int)).toNat = n by omega]
        simp
      rw [ef] at gf hf ⊢
      have nf0 : H f = none := by
        cases e : H f with
        | none => rfl
        | some o =>
          have nf1 : H1 f = none := by
            by_cases z : f = p0
            · subst z
              rw [upd_same] at nf
              cases nf
            · rw [upd_ne z] at nf
              exact nf
          by_cases z : f = s ∨ f = l
          · rcases z with rfl | rfl
            · rw [g1.src.d] at nf1
              cases nf1
            · obtain ⟨_, z, _⟩ := g1.src.lg
              rw [z] at nf1
              cases nf1
          · have := (hid_some (g1.keep f o (hid_of (fun y => z (.inl y)) (fun y => z (.inr y)) e))).2.2
            rw [this] at nf1
            cases nf1
      generalize upd (upd H1 p0 _) f _ = H2 at gf hf ⊢
      refine ⟨_, rfl, s, l, c, t1, 7, rfl, gf.src, by have := gf.up; omega, by decide, by decide, fun H3 r t3 g3 r0 r1 => ?_⟩
      refine ⟨r, rfl, by omega, by omega, for_range (lo := 0) (n := r.toNat) (fun i σ H' => ∃ (t' : Int) (bs : List Bool) (y3 y5 y6 y7 : Option V), σ = [some (.ref s), some (.int n), some (.int way), y3, some (.ref f), y5, y6, y7] ∧
          Goes s l c (2 + 3 * i) H H' t t' ∧ hid s l H' f = some (.lst (bs.map V.bl)) ∧ bs.length = n)
        ⟨t3, List.replicate n (decide (V.int way = V.int 3)), none, none, none, none, rfl, (gf.trans g3).wide (by omega), g3.keep _ _ hf, List.length_replicate⟩ ?_ ?_⟩
      · rintro i σ H' hi ⟨t', bs, y3, y5, y6, y7, rfl, g, eF, lb⟩
        refine ⟨_, rfl, _, rfl, s, l, c, t', n, rfl, g.src, by have := g.up; omega, by omega, by omega, fun H4 spot t4 g4 s0 s1 => ?_⟩
        refine ⟨_, rfl, _, rfl, _, rfl, s, l, c, t4, n, rfl, g4.src, by have := g.up; have := g4.up; omega, by omega, by omega, fun H5 u t5 g5 u0 u1 => ?_⟩
        refine ⟨1, u, rfl, rfl, (by show 7 ≤ sizeLine; decide), fun p np => ?_⟩
        dsimp only
        have gp := ((g.trans g4).trans g5).new (o := .lst [.int 1, .int 1, .int 2, .int 4, .int 8, .int 16, .int (1 + u)]) np
        have hp := g5.src.hidNew (o := .lst [.int 1, .int 1, .int 2, .int 4, .int 8, .int 16, .int (1 + u)]) np
        refine ⟨s, l, c, p, t5, _, rfl, gp.src, by have := gp.up; omega, hp, by show 0 < 7; decide, by show 7 ≤ 1000; decide, fun H6 j v t6 g6 e6 => ?_⟩
        obtain ⟨len, hlen, hlen2, rfl⟩ : ∃ x : Int, 0 ≤ x ∧ x ≤ 1001 ∧ v = .int x := by
          have h := List.mem_of_getElem? e6
          simp only [List.mem_cons, List.not_mem_nil, or_false] at h
          rcases h with rfl | rfl | rfl | rfl | rfl | rfl | rfl
          · exact ⟨1, by decide, by decide, rfl⟩
          · exact ⟨1, by decide, by decide, rfl⟩
          · exact ⟨2, by decide, by decide, rfl⟩
          · exact ⟨4, by decide, by decide, rfl⟩
          · exact ⟨8, by decide, by decide, rfl⟩
          · exact ⟨16, by decide, by decide, rfl⟩
          · exact ⟨1 + u, by omega, by omega, rfl⟩
        have eF6 : hid s l H6 f = some (.lst (bs.map V.bl)) :=
          g6.keep _ _ (hid_mono (same_new np) _ _ (g5.keep _ _ (g4.keep _ _ eF)))
        have gg := (gp.trans g6).wide (n := 2 + 3 * (i + 1 : Nat)) (by omega)
        clear gp hp np e6 g4 g5 g6 g eF
        refine ⟨_, _, rfl, ?_⟩
        -- the inner loop
        refine ⟨_, rfl, _, rfl, _, rfl, _, rfl, spot, len, rfl, rfl, n, spot + len, rfl, spot, (if spot + len < (n : Int) then spot + len else (n : Int)), rfl, ⟨by omega, by omega, by split <;> omega, by split <;> omega⟩, ?_⟩
        generalize hb : (if spot + len < (n : Int) then spot + len else (n : Int)) = hi2
        have hb1 : hi2 ≤ n := by
          rw [← hb]
          split <;> omega
        refine for_range (lo := spot) (n := (hi2 - spot).toNat) (fun k σ H' => ∃ (bs : List Bool) (y3 : Option V), σ = [some (.ref s), some (.int n), some (.int way), y3, some (.ref f), some (.int (0 + (i : Int))), some (.int spot), some (.int len)] ∧
            Goes s l c (2 + 3 * (i + 1 : Nat)) H H' t t6 ∧ hid s l H' f = some (.lst (bs.map V.bl)) ∧ bs.length = n)
          ⟨bs, y3, rfl, gg, eF6, lb⟩ ?_ ?_
        · rintro k σ H' hk ⟨bs, y3, rfl, g, eF, lb⟩
          refine ⟨_, rfl, rfl, _, rfl, _, rfl, f, _, spot + k, (spot + k).toNat, rfl, rfl, (hid_some eF).2.2, ?_, ?_⟩
          · rw [List.length_map, show spot + (k : Int) = (((spot + k).toNat : Nat) : Int) by omega]
            exact ixN_nat (by omega)
          · refine ⟨bs.set (spot + k).toNat (!decide (V.int way = V.int 3)), _, rfl, Goes.mut S g nf0, ?_, ?_⟩
            · rw [S.hidUpd nf0, List.map_set]
            · rw [List.length_set, lb]
        · rintro σ H' ⟨bs, y3, rfl, g, eF, lb⟩
          exact ⟨t6, bs, _, _, _, _, rfl, g, eF, lb⟩
      · rintro σ H' ⟨t', bs, y3, y5, y6, y7, rfl, g, eF, lb⟩
        exact ⟨_, rfl, q H' f t' bs (g.wide (by omega)) nf0 eF lb⟩
theorem ok_l_room (T : Txt K mg) : FnOk P w K mg base CX0 1 T.f_l_room T.d_l_room ["_law_marks_here", "_law_unit", "_law_first"]  (sp_l_room K) := by
  refine T.F_l_room.ok sc_l_room (fun vs H Q E h => ?_) (fun cdv A outer s H vs Q E hr h => ?_)
  · obtain ⟨p, bs, unit, first, rfl, _⟩ := h
    rfl
  · obtain ⟨p, bs, unit, first, rfl, hp, b0, b1, q⟩ := h
    refine ⟨_, (pss_cons (ps_par (i := 3) (j := 4) (by rfl) sc_l_room.nd rfl rfl (by decide) rfl rfl (pa_cons (pe_lst pa_nil) (pa_cons pe_int pa_nil)) (by rfl))
      (pss_cons (ps_while PassesOwn.never (pt_cmpR op_lt (pv 4) (pe_callB call_len_seq (by rfl) T.b_len (by decide +kernel) (pa_cons (pv 0) pa_nil)) (nomark _))
      (pss_cons (ps_set (i := 5) sc_l_room.nd rfl (by first | exact Or.inl rfl | exact Or.inr rfl) (pe_callB call_len_seq (by rfl) T.b_len (by decide +kernel) (pa_cons (pv 0) pa_nil)))
      (pss_cons (ps_while PassesOwn.never (PW.pt (pw_and (pt_cmpR op_gt (pv 5) pe_int (nomark _)) (pw_and1 (PW.pt (pw_or (pt_cmpR op_gt (pe_op op_mod (pv 4) (pv 5)) pe_int (nomark _)) (pw_or1 (pt_cmpR op_in_seq pe_bl (pe_slice sl_list (pv 0) (po_some (pv 4)) (po_some (pe_op op_add (pv 4) (pv 5)))) (by rfl))))))))
      (pss_one (ps_set (i := 5) sc_l_room.nd rfl (by first | exact Or.inl rfl | exact Or.inr rfl) (pe_op op_fdivW (pv 5) pe_int))))
      (pss_cons (ps_if (pt_val (pe_ix ix_list (pv 0) (pv 4) (fun _ _ => rfl)))
      (pss_one (ps_expr (pe_bm PySem.F.plainAttrs_list PySem.F.slot_list_append PySem.F.type_list_append mt_append (pv 3) (pa_cons (pe_tup (pa_cons (pe_op op_add (pv 2) (pe_op op_mul (pv 4) (pv 1))) (pa_cons (pe_op op_mul (pv 5) (pv 1)) pa_nil))) pa_nil))))
      pss_nil)
      (pss_one (ps_set (i := 4) sc_l_room.nd rfl (by first | exact Or.inl rfl | exact Or.inr rfl) (pe_op op_add (pv 4) (pv 5))))))))
      (pss_one (ps_ret (pe_callTy call_tuple_of (by rfl) T.b_tuple (by decide +kernel) (pa_cons (pv 3) pa_nil)))))), ?_⟩
    refine ⟨Nat.zero_le _, fun f nf => ⟨_, _, rfl, ?_⟩⟩
    refine ⟨fun m σ H' => ∃ (spot : Nat) (vs : List V) (done : List (Nat × Nat)) (y5 : Option V), m = bs.length - spot ∧ σ = [some (.ref p), some (.int unit), some (.int first), some (.ref f), some (.int (spot : Int)), y5] ∧
        Same H H' ∧ H' f = some (.lst vs) ∧ DdAll H' vs (blksD unit first done) ∧ done ++ roomM bs spot = roomM bs 0,
      ⟨bs.length, 0, [], [], none, rfl, rfl, same_new nf, upd_same, .nil, rfl⟩, ?_⟩
    rintro m σ H1 ⟨spot, vs, done, y5, rfl, rfl, sm, ef, da, ed⟩
    have hp1 := sm _ _ hp
    refine ⟨_, rfl, _, rfl, p, _, rfl, .inl (SqL.of hp1), _, _, rfl, rfl, _, rfl, ite2 (fun hlt => ?_) (fun hge => ?_)⟩
    · have hlt : spot < bs.length := by
        have h := of_decide_eq_true hlt
        rw [List.length_map] at h
        omega
      obtain ⟨N0, hN0⟩ : ∃ N0 : L2.St → Hp → Prop, N0 = fun σ H' => ∃ (w : Nat) (vs : List V) (done' : List (Nat × Nat)) (y5 : Option V), 0 < w ∧ σ = [some (.ref p), some (.int unit), some (.int first), some (.ref f), some (.int ((spot : Int) + (w : Int))), y5] ∧
          Same H H' ∧ H' f = some (.lst vs) ∧ DdAll H' vs (blksD unit first done') ∧ done' ++ roomM bs (spot + w) = roomM bs 0 := ⟨_, rfl⟩
      refine ⟨N0, ?_, ?_⟩
      · intro σ' H' h
        rw [hN0] at h
        obtain ⟨w, vs, done', y5, hw, rfl, a1, a2, a3, a4⟩ := h
        exact ⟨bs.length - (spot + w), by omega, spot + w, vs, done', y5, rfl, by rw [show ((spot + w : Nat) : Int) = (spot : Int) + (w : Int) by omega], a1, a2, a3, a4⟩
      -- the width
      refine ⟨_, rfl, p, _, rfl, .inl (SqL.of hp1), ?_⟩
      rw [List.length_map]
      refine ⟨fun m σ H' => ∃ (w : Nat), m = w ∧ 0 < w ∧ w ≤ bs.length ∧ widthM bs spot w = widthM bs spot bs.length ∧ σ = [some (.ref p), some (.int unit), some (.int first), some (.ref f), some (.int (spot : Int)), some (.int (w : Int))] ∧
          Same H H' ∧ H' f = some (.lst vs) ∧ DdAll H' vs (blksD unit first done),
        ⟨bs.length, bs.length, rfl, by omega, Nat.le_refl _, rfl, rfl, sm, ef, da⟩, ?_⟩
      rintro wd σ H2 ⟨_, rfl, w0, w1, ew, rfl, sm2, ef2, da2⟩
      have hp2 := sm2 _ _ hp
      have kk : ∀ (H4 : Hp) (vs' : List V) (done' : List (Nat × Nat)), Same H H4 → H4 f = some (.lst vs') → DdAll H4 vs' (blksD unit first done') → done' ++ roomM bs (spot + wd) = roomM bs 0 →
          N0 [some (.ref p), some (.int unit), some (.int first), some (.ref f), some (.int ((spot : Int) + (wd : Int))), some (.int (wd : Int))] H4 := by
        intro H4 vs' done' h1 h2 h3 h4
        rw [hN0]
        exact ⟨wd, vs', done', _, w0, rfl, h1, h2, h3, h4⟩
      have fin : ∀ (H3 : Hp), widthM bs spot wd = wd → Same H H3 → H3 f = some (.lst vs) → DdAll H3 vs (blksD unit first done) →
          ∃ k : Bool, V.bl bs[spot] = V.bl k ∧ if k = true then
            (∀ T, H3 T = none → ∃ (l : Addr) (ys : List V) (y : V), V.ref f = .ref l ∧ [V.ref T] = [y] ∧ upd H3 T (.tup [.int (first + (spot : Int) * unit), .int ((wd : Int) * unit)]) l = some (.lst ys) ∧ ys.length < sizeLine ∧
              N0 [some (.ref p), some (.int unit), some (.int first), some (.ref f), some (.int ((spot : Int) + (wd : Int))), some (.int (wd : Int))] (upd (upd H3 T (.tup [.int (first + (spot : Int) * unit), .int ((wd : Int) * unit)])) l (.lst (ys ++ [y]))))
            else N0 [some (.ref p), some (.int unit), some (.int first), some (.ref f), some (.int ((spot : Int) + (wd : Int))), some (.int (wd : Int))] H3 := by
        intro H3 e1 s3 f3 d3
        have ed := ed
        rw [roomM_lt hlt, ← ew, e1] at ed
        refine ⟨bs[spot], rfl, ite2 (fun h => fun T nT => ?_) (fun h => ?_)⟩
        · rw [if_pos h] at ed
          have nTf : f ≠ T := ne_of_none f3 nT
          refine ⟨f, vs, _, rfl, rfl, by rw [upd_ne nTf]; exact f3, ?_, ?_⟩
          · rw [d3.length]
            unfold blksD
            rw [List.length_map]
            have := congrArg List.length ed
            have := roomM_len bs bs.length 0 (by omega)
            simp only [List.length_append, List.length_cons, List.length_nil] at *
            exact small1000 (by omega)
          · have sT : Same H3 (upd H3 T (.tup [.int (first + (spot : Int) * unit), .int ((wd : Int) * unit)])) := same_new nT
            refine kk _ _ (done ++ [(spot, wd)]) (fun b o hb => ?_) upd_same ?_ (by rw [List.append_assoc]; exact ed)
            · rw [upd_ne (ne_of_none hb nf)]
              exact sT _ _ (s3 _ _ hb)
            · have base : DdAll (upd H3 T (.tup [.int (first + (spot : Int) * unit), .int ((wd : Int) * unit)])) (vs ++ [.ref T]) (blksD unit first (done ++ [(spot, wd)])) := by
                unfold blksD
                rw [List.map_append]
                exact (d3.mono sT).append (.cons (.tup upd_same (.cons (.int _) (.cons (.int _) .nil))) .nil)
              exact base.tups (tups_upd (p := f) (by rw [upd_ne nTf]; exact f3)) (tup_blks _ _ _)
        · rw [if_neg h] at ed
          exact kk H3 vs done s3 f3 d3 ed
      refine ⟨_, rfl, (wd : Int), 1, rfl, rfl, _, rfl, ite2 (fun hw => ?_) (fun hw => ?_)⟩
      · have hw : 1 < wd := by
          have h := of_decide_eq_true hw
          omega
        refine ⟨_, rfl, _, rfl, (spot : Int), (wd : Int), rfl, rfl, by omega, _, _, rfl, rfl, _, rfl, ite2 (fun hm => ?_) (fun hm => ?_)⟩
        · -- the spot is no place of this width
          have hm : 0 < spot % wd := by
            have h := of_decide_eq_true hm
            have e : ((spot : Int) % (wd : Int)) = ((spot % wd : Nat) : Int) := by simp
            rw [e] at h
            omega
          have hf : fits bs spot wd = false := by
            unfold fits
            rw [decide_eq_false (by omega), Bool.false_and]
          have s3 := sm2
          have f3 := ef2
          have d3 := da2
          refine iteT ?_
          refine ⟨fun σ' H' => σ' = [some (.ref p), some (.int unit), some (.int first), some (.ref f), some (.int (spot : Int)), some (.int ((wd / 2 : Nat) : Int))] ∧ Same H H' ∧ H' f = some (.lst vs) ∧ DdAll H' vs (blksD unit first done), ?_, ?_⟩
          · rintro σ' H' ⟨rfl, h1, h2, h3⟩
            refine ⟨wd / 2, by omega, wd / 2, rfl, by omega, by omega, ?_, rfl, h1, h2, h3⟩
            rw [← ew]
            have e := widthM_eq bs spot wd
            rw [if_neg (by omega), if_neg (by rw [hf]; exact Bool.false_ne_true)] at e
            exact e.symm
          · exact ⟨_, rfl, (wd : Int), 2, rfl, rfl, log_of (k := 2) (by decide) (by decide) (by decide) (by decide) _, rfl, s3, f3, d3⟩
        · have hm : spot % wd = 0 := by
            have h : ¬ (0 : Int) < (spot : Int) % (wd : Int) := fun z => hm (decide_eq_true z)
            have e : ((spot : Int) % (wd : Int)) = ((spot % wd : Nat) : Int) := by simp
            rw [e] at h
            omega
          refine ⟨_, rfl, _, rfl, (spot : Int), rfl, _, rfl, _, rfl, (spot : Int), (wd : Int), rfl, rfl, (spot : Int) + (wd : Int), rfl, p, _, rfl, SqL.of hp2, fun r nr => ?_⟩
          rw [cut_bools]
          have s3 : Same H (upd H2 r (.lst (((bs.drop spot).take wd).map V.bl))) := sm2.trans (same_new nr)
          have f3 : (upd H2 r (.lst (((bs.drop spot).take wd).map V.bl))) f = some (.lst vs) := by
            rw [upd_ne (ne_of_none ef2 nr)]
            exact ef2
          have d3 := da2.mono (same_new (o := .lst (((bs.drop spot).take wd).map V.bl)) nr)
          have er : (upd H2 r (.lst (((bs.drop spot).take wd).map V.bl))) r = some (.lst (((bs.drop spot).take wd).map V.bl)) := upd_same
          generalize upd H2 r (.lst (((bs.drop spot).take wd).map V.bl)) = H3 at s3 f3 d3 er ⊢
          refine ⟨r, _, rfl, .inl (SqL.of er), rfl, flat_bools _, _, rfl, ite2 (fun hc => ?_) (fun hc => ?_)⟩
          · have hc : ((bs.drop spot).take wd).contains false = true := (in_bools _).symm.trans hc
            have hf : fits bs spot wd = false := by
              unfold fits
              rw [hc]
              simp
            first | refine iteT ?_ | dsimp only
            refine ⟨fun σ' H' => σ' = [some (.ref p), some (.int unit), some (.int first), some (.ref f), some (.int (spot : Int)), some (.int ((wd / 2 : Nat) : Int))] ∧ Same H H' ∧ H' f = some (.lst vs) ∧ DdAll H' vs (blksD unit first done), ?_, ?_⟩
            · rintro σ' H' ⟨rfl, h1, h2, h3⟩
              refine ⟨wd / 2, by omega, wd / 2, rfl, by omega, by omega, ?_, rfl, h1, h2, h3⟩
              rw [← ew]
              have e := widthM_eq bs spot wd
              rw [if_neg (by omega), if_neg (by rw [hf]; exact Bool.false_ne_true)] at e
              exact e.symm
            · exact ⟨_, rfl, (wd : Int), 2, rfl, rfl, log_of (k := 2) (by decide) (by decide) (by decide) (by decide) _, rfl, s3, f3, d3⟩
          · have hc : ((bs.drop spot).take wd).contains false = false := Bool.eq_false_iff.mpr fun z => hc ((in_bools _).trans z)
            have e1 : widthM bs spot wd = wd := by
              rw [widthM_eq, if_neg (by omega), if_pos]
              unfold fits
              rw [hc, decide_eq_true hm]
              rfl
            first | refine iteF ?_ | dsimp only
            refine ⟨_, rfl, _, rfl, p, _, (spot : Int), .bl bs[spot], rfl, rfl, SqL.of (s3 _ _ hp), at_of (j := spot) rfl (by rw [List.getElem?_map, List.getElem?_eq_getElem hlt]; rfl), ?_⟩
            obtain ⟨k, hk, hb⟩ := fin H3 e1 s3 f3 d3
            refine ⟨k, hk, ?_⟩
            cases k with
            | true =>
              rw [if_pos rfl] at hb
              refine iteT ?_
              refine ⟨_, rfl, .inl ⟨rfl, _, SqL.of f3⟩, _, rfl, _, rfl, _, rfl, (spot : Int), unit, rfl, rfl, .inl ⟨by omega, by omega⟩, first, _, rfl, rfl, _, rfl, _, rfl, (wd : Int), unit, rfl, rfl, .inl ⟨by omega, by omega⟩, (by show 2 ≤ sizeLine; decide), fun T nT => ?_⟩
              obtain ⟨l, ys, y, r1, r2, r3, r4, r5⟩ := hb T nT
              exact ⟨l, ys, y, r1, r2, r3, r4, _, rfl, _, rfl, _, _, rfl, rfl, r5⟩
            | false =>
              rw [if_neg Bool.false_ne_true] at hb
              refine iteF ?_
              exact ⟨_, rfl, _, rfl, _, _, rfl, rfl, hb⟩
      · have e1 : widthM bs spot wd = wd := by
          rw [widthM_eq, if_pos]
          refine Nat.le_of_not_lt fun z => hw (decide_eq_true ?_)
          omega
        refine iteF ?_
        have s3 := sm2
        have f3 := ef2
        have d3 := da2
        generalize H2 = H3 at s3 f3 d3 ⊢
        refine ⟨_, rfl, _, rfl, p, _, (spot : Int), .bl bs[spot], rfl, rfl, SqL.of (s3 _ _ hp), at_of (j := spot) rfl (by rw [List.getElem?_map, List.getElem?_eq_getElem hlt]; rfl), ?_⟩
        obtain ⟨k, hk, hb⟩ := fin H3 e1 s3 f3 d3
        refine ⟨k, hk, ?_⟩
        cases k with
        | true =>
          rw [if_pos rfl] at hb
          refine iteT ?_
          refine ⟨_, rfl, .inl ⟨rfl, _, SqL.of f3⟩, _, rfl, _, rfl, _, rfl, (spot : Int), unit, rfl, rfl, .inl ⟨by omega, by omega⟩, first, _, rfl, rfl, _, rfl, _, rfl, (wd : Int), unit, rfl, rfl, .inl ⟨by omega, by omega⟩, (by show 2 ≤ sizeLine; decide), fun T nT => ?_⟩
          obtain ⟨l, ys, y, r1, r2, r3, r4, r5⟩ := hb T nT
          exact ⟨l, ys, y, r1, r2, r3, r4, _, rfl, _, rfl, _, _, rfl, rfl, r5⟩
        | false =>
          rw [if_neg Bool.false_ne_true] at hb
          refine iteF ?_
          exact ⟨_, rfl, _, rfl, _, _, rfl, rfl, hb⟩
    · -- return
      have hge : bs.length ≤ spot := by
        refine Nat.le_of_not_lt fun z => hge (decide_eq_true ?_)
        rw [List.length_map]
        omega
      rw [roomM_ge hge, List.append_nil] at ed
      rw [ed] at da
      refine ⟨_, rfl, f, vs, rfl, .inl ⟨SqL.of ef, fun r nr => ?_⟩⟩
      exact q _ _ (sm.trans (same_new nr)) (.tup upd_same (da.mono (same_new nr)))
theorem ok_p_spans (T : Txt K mg) : FnOk P w K mg base CX0 1 T.f_p_spans T.d_p_spans ["blocks"] sp_p_spans := by
  refine T.F_p_spans.ok sc_p_spans (fun vs H Q E h => ?_) (fun cdv A outer s H vs Q E hr h => ?_)
  · obtain ⟨a, bs, rfl, _⟩ := h
    rfl
  · obtain ⟨a, bs, rfl, hq, hl, q⟩ := h
    obtain ⟨ys, ha, dys⟩ := hq
    have ly := dys.length
    rw [prsD_len] at ly
    rcases ha with ha | ha
    · refine ⟨_, (pss_cons (ps_set (i := 1) sc_p_spans.nd rfl (by first | exact Or.inl rfl | exact Or.inr rfl) (pe_lst pa_nil))
      (pss_cons (ps_for PassesOwn.never rfl (pi_list (pv 0)) (pg_tup rfl (pgs_cons (pg_name (i := 2) sc_p_spans.nd rfl (Or.inl rfl)) (pgs_cons (pg_name (i := 3) sc_p_spans.nd rfl (Or.inl rfl)) pgs_nil)))
      (pss_cons (ps_set (i := 4) sc_p_spans.nd rfl (by first | exact Or.inl rfl | exact Or.inr rfl) (pe_op op_add (pv 2) (pv 3)))
      (pss_one (ps_if (PW.pt (pw_and (pt_truth (pv 1) (by intro _; rfl)) (pw_and1 (pt_cmpR op_le (pv 2) (pe_ix ix_tup (pe_ix ix_list (pv 1) (pe_un un_neg pe_int) (fun _ _ => rfl)) pe_int (fun _ _ => rfl)) (nomark _)))))
      (pss_cons (ps_asg (pe_ix ix_list (pv 1) (pe_un un_neg pe_int) (fun _ _ => rfl)) (pg_tup rfl (pgs_cons (pg_name (i := 5) sc_p_spans.nd rfl (Or.inl rfl)) (pgs_cons (pg_name (i := 6) sc_p_spans.nd rfl (Or.inl rfl)) pgs_nil))))
      (pss_one (ps_asg (pe_tup (pa_cons (pv 5) (pa_cons (pe_callB (call_max2 rfl) (by rfl) T.b_max (by decide +kernel) (pa_cons (pv 6) (pa_cons (pv 4) pa_nil))) pa_nil))) (pg_sub (pv 1) (pe_un un_neg pe_int) set_list))))
      (pss_one (ps_expr (pe_bm PySem.F.plainAttrs_list PySem.F.slot_list_append PySem.F.type_list_append mt_append (pv 1) (pa_cons (pe_tup (pa_cons (pv 2) (pa_cons (pv 4) pa_nil))) pa_nil))))))))
      (pss_one (ps_ret (pv 1))))), ?_⟩
      refine ⟨Nat.zero_le _, fun f nf => ?_⟩
      refine ⟨_, rfl, a, rfl, ⟨ys, SqL.of (same_new nf _ _ ha)⟩, for_list (K := K) (a := a) (xs := ys) (fun i σ H1 => ∃ (y2 y3 y4 y5 y6 : Option V), σ = [some (.ref a), some (.ref f), y2, y3, y4, y5, y6] ∧ Same H H1 ∧
          ∃ zs, H1 f = some (.lst zs) ∧ ∃ acc, DdAll H1 zs (prsD acc) ∧ (bs.take i).foldl spansStep [] = acc)
        ⟨_, _, _, _, _, rfl, same_new nf, _, upd_same, _, .nil, rfl⟩ (fun i σ H1 _ ⟨_, _, _, _, _, _, sm, _⟩ => SqL.of (sm _ _ ha)) ?_ ?_⟩
      · rintro i x σ H1 hi ⟨y2, y3, y4, y5, y6, rfl, sm, zs, ef, acc, da, ea⟩
        -- a turn
        obtain ⟨b, ab, eb, rfl, hab⟩ := pr_get dys hi
        have hab1 := sm _ _ hab
        refine ⟨ab, _, rfl, SqT.of hab1, rfl, _, _, rfl, _, _, rfl, rfl, ?_⟩
        refine ⟨_, rfl, _, rfl, (b.1 : Int), (b.2 : Int), rfl, rfl, ?_⟩
        have ez : ((b.1 : Int) + (b.2 : Int)) = ((b.1 + b.2 : Nat) : Int) := by omega
        dsimp only
        rw [ez]
        have lens : acc.length ≤ i := by
          rw [← ea]
          have := spans_len (bs.take i)
          rw [List.length_take] at this
          unfold spansM at this
          omega
        have hil : i < bs.length := (List.getElem?_eq_some_iff.mp eb).1
        have es : (bs.take (i + 1)).foldl spansStep [] = spansStep acc b := by
          rw [fold_take eb, ea]
        have free : ∀ {o : HO} {p : Addr}, H p = some o → p ≠ f := fun h => ne_of_none h nf
        refine ⟨_, rfl, _, .inl ⟨zs, SqL.of ef, rfl⟩, ?_⟩
        rcases List.eq_nil_or_concat acc with rfl | ⟨ini, q0, eq0⟩
        · cases da
          refine iteF ?_
          refine iteF ?_
          refine ⟨_, rfl, .inl ⟨rfl, _, SqL.of ef⟩, _, rfl, _, rfl, (by show 2 ≤ sizeLine; decide), fun T nT => ?_⟩
          have nTf : f ≠ T := ne_of_none ef nT
          refine ⟨f, _, _, rfl, rfl, (by rw [upd_ne nTf]; exact ef), (by show 0 < sizeLine; decide), ?_⟩
          have sT : Same H1 (upd H1 T (.tup [.int (b.1 : Int), .int ((b.1 + b.2 : Nat) : Int)])) := same_new nT
          refine ⟨_, _, _, _, _, rfl, fun c o h => ?_, _, upd_same, _, ?_, es⟩
          · rw [upd_ne (free h)]
            exact sT _ _ (sm _ _ h)
          · rw [step_nil]
            have base : DdAll (upd H1 T (.tup [.int (b.1 : Int), .int ((b.1 + b.2 : Nat) : Int)])) ([] ++ [.ref T]) (prsD [(b.1, b.1 + b.2)]) := .cons (.tup upd_same (.cons (.int _) (.cons (.int _) .nil))) .nil
            exact base.tups (tups_upd (p := f) (by rw [upd_ne nTf]; exact ef)) (tup_prs _)
        · rw [List.concat_eq_append] at eq0
          subst eq0
          rw [prsD_append] at da
          obtain ⟨us, y, rfl, dus, dy⟩ := da.concat
          obtain ⟨ay, rfl, hay⟩ := dy.pair
          have etr : (!(us ++ [V.ref ay]).isEmpty) = true := by simp
          rw [etr]
          refine iteT ?_
          refine ⟨_, rfl, _, rfl, 1, rfl, f, _, -1, .ref ay, rfl, rfl, SqL.of ef, atI_last _ _, ay, _, 1, .int (q0.2 : Int), rfl, rfl, SqT.of hay, atI_nat (j := 1) rfl, (b.1 : Int), (q0.2 : Int), rfl, rfl, _, rfl, ite2 (fun hle => ?_) (fun hgt => ?_)⟩
          · have hle : b.1 ≤ q0.2 := by
              have h := of_decide_eq_true hle
              omega
            refine ⟨_, rfl, 1, rfl, f, _, -1, .ref ay, rfl, rfl, SqL.of ef, atI_last _ _, ?_⟩
            refine ⟨ay, _, rfl, SqT.of hay, rfl, _, _, rfl, _, _, rfl, rfl, ?_⟩
            refine ⟨_, rfl, _, rfl, _, rfl, (q0.2 : Int), ((b.1 + b.2 : Nat) : Int), rfl, (by show 2 ≤ sizeLine; decide), fun T nT => ?_⟩
            have em : (if ((b.1 + b.2 : Nat) : Int) > (q0.2 : Int) then ((b.1 + b.2 : Nat) : Int) else (q0.2 : Int)) = ((if q0.2 < b.1 + b.2 then b.1 + b.2 else q0.2 : Nat) : Int) := by
              by_cases h : q0.2 < b.1 + b.2
              · rw [if_pos h, if_pos (by omega)]
              · rw [if_neg h, if_neg (by omega)]
            rw [em]
            have nTf : f ≠ T := ne_of_none ef nT
            refine ⟨_, rfl, 1, rfl, f, _, -1, us.length, rfl, rfl, (by rw [upd_ne nTf]; exact ef), ?_, ?_⟩
            · unfold ixN
              rw [if_neg (by decide), if_pos (by simp; omega)]
              simp
              omega
            have sT : Same H1 (upd H1 T (.tup [.int (q0.1 : Int), .int ((if q0.2 < b.1 + b.2 then b.1 + b.2 else q0.2 : Nat) : Int)])) := same_new nT
            refine ⟨_, _, _, _, _, rfl, fun c o h => ?_, _, upd_same, _, ?_, es⟩
            · rw [upd_ne (free h)]
              exact sT _ _ (sm _ _ h)
            · rw [step_concat, if_pos hle, prsD_append]
              have e2 : (us ++ [V.ref ay]).set us.length (.ref T) = us ++ [.ref T] := by simp
              rw [e2]
              have base := (dus.mono sT).append (.cons (.tup upd_same (.cons (.int (q0.1 : Int)) (.cons (.int ((if q0.2 < b.1 + b.2 then b.1 + b.2 else q0.2 : Nat) : Int)) .nil))) .nil)
              refine DdAll.tups (tups_upd (p := f) (by rw [upd_ne nTf]; exact ef)) ?_ base
              have := tup_prs (ini ++ [(q0.1, if q0.2 < b.1 + b.2 then b.1 + b.2 else q0.2)])
              rw [prsD_append] at this
              exact this
          · have hgt : ¬ b.1 ≤ q0.2 := fun h => hgt (decide_eq_true (by omega))
            refine ⟨_, rfl, .inl ⟨rfl, _, SqL.of ef⟩, _, rfl, _, rfl, (by show 2 ≤ sizeLine; decide), fun T nT => ?_⟩
            have nTf : f ≠ T := ne_of_none ef nT
            refine ⟨f, _, _, rfl, rfl, (by rw [upd_ne nTf]; exact ef), ?_, ?_⟩
            · have h1 := dus.length
              rw [prsD_len] at h1
              rw [List.length_append, h1]
              rw [List.length_append] at lens
              exact sz_of (by show ini.length + 1 ≤ 10000000; simp only [List.length_cons, List.length_nil] at lens; omega)
            have sT : Same H1 (upd H1 T (.tup [.int (b.1 : Int), .int ((b.1 + b.2 : Nat) : Int)])) := same_new nT
            refine ⟨_, _, _, _, _, rfl, fun c o h => ?_, _, upd_same, _, ?_, es⟩
            · rw [upd_ne (free h)]
              exact sT _ _ (sm _ _ h)
            · rw [step_concat, if_neg hgt, prsD_append, prsD_append]
              have base := ((dus.append (.cons (.tup hay (.cons (.int (q0.1 : Int)) (.cons (.int (q0.2 : Int)) .nil))) .nil)).mono sT).append (.cons (.tup upd_same (.cons (.int (b.1 : Int)) (.cons (.int ((b.1 + b.2 : Nat) : Int)) .nil))) .nil)
              refine DdAll.tups (tups_upd (p := f) (by rw [upd_ne nTf]; exact ef)) ?_ base
              have := tup_prs ((ini ++ [q0]) ++ [(b.1, b.1 + b.2)])
              rw [prsD_append, prsD_append] at this
              exact this
      · rintro σ H1 ⟨y2, y3, y4, y5, y6, rfl, sm, zs, ef, acc, da, ea⟩
        rw [ly, List.take_length] at ea
        exact ⟨_, rfl, q H1 f sm nf ⟨zs, ef, by unfold spansM; rw [ea]; exact da⟩⟩
    · refine ⟨_, (pss_cons (ps_set (i := 1) sc_p_spans.nd rfl (by first | exact Or.inl rfl | exact Or.inr rfl) (pe_lst pa_nil))
      (pss_cons (ps_for PassesOwn.never rfl (pi_tup (pv 0)) (pg_tup rfl (pgs_cons (pg_name (i := 2) sc_p_spans.nd rfl (Or.inl rfl)) (pgs_cons (pg_name (i := 3) sc_p_spans.nd rfl (Or.inl rfl)) pgs_nil)))
      (pss_cons (ps_set (i := 4) sc_p_spans.nd rfl (by first | exact Or.inl rfl | exact Or.inr rfl) (pe_op op_add (pv 2) (pv 3)))
      (pss_one (ps_if (PW.pt (pw_and (pt_truth (pv 1) (by intro _; rfl)) (pw_and1 (pt_cmpR op_le (pv 2) (pe_ix ix_tup (pe_ix ix_list (pv 1) (pe_un un_neg pe_int) (fun _ _ => rfl)) pe_int (fun _ _ => rfl)) (nomark _)))))
      (pss_cons (ps_asg (pe_ix ix_list (pv 1) (pe_un un_neg pe_int) (fun _ _ => rfl)) (pg_tup rfl (pgs_cons (pg_name (i := 5) sc_p_spans.nd rfl (Or.inl rfl)) (pgs_cons (pg_name (i := 6) sc_p_spans.nd rfl (Or.inl rfl)) pgs_nil))))
      (pss_one (ps_asg (pe_tup (pa_cons (pv 5) (pa_cons (pe_callB (call_max2 rfl) (by rfl) T.b_max (by decide +kernel) (pa_cons (pv 6) (pa_cons (pv 4) pa_nil))) pa_nil))) (pg_sub (pv 1) (pe_un un_neg pe_int) set_list))))
      (pss_one (ps_expr (pe_bm PySem.F.plainAttrs_list PySem.F.slot_list_append PySem.F.type_list_append mt_append (pv 1) (pa_cons (pe_tup (pa_cons (pv 2) (pa_cons (pv 4) pa_nil))) pa_nil))))))))
      (pss_one (ps_ret (pv 1))))), ?_⟩
      refine ⟨Nat.zero_le _, fun f nf => ?_⟩
      refine ⟨_, rfl, a, rfl, ⟨ys, SqT.of (same_new nf _ _ ha)⟩, for_tup (K := K) (a := a) (xs := ys) (fun i σ H1 => ∃ (y2 y3 y4 y5 y6 : Option V), σ = [some (.ref a), some (.ref f), y2, y3, y4, y5, y6] ∧ Same H H1 ∧
          ∃ zs, H1 f = some (.lst zs) ∧ ∃ acc, DdAll H1 zs (prsD acc) ∧ (bs.take i).foldl spansStep [] = acc)
        ⟨_, _, _, _, _, rfl, same_new nf, _, upd_same, _, .nil, rfl⟩ (fun i σ H1 _ ⟨_, _, _, _, _, _, sm, _⟩ => SqT.of (sm _ _ ha)) ?_ ?_⟩
      · rintro i x σ H1 hi ⟨y2, y3, y4, y5, y6, rfl, sm, zs, ef, acc, da, ea⟩
        -- a turn
        obtain ⟨b, ab, eb, rfl, hab⟩ := pr_get dys hi
        have hab1 := sm _ _ hab
        refine ⟨ab, _, rfl, SqT.of hab1, rfl, _, _, rfl, _, _, rfl, rfl, ?_⟩
        refine ⟨_, rfl, _, rfl, (b.1 : Int), (b.2 : Int), rfl, rfl, ?_⟩
        have ez : ((b.1 : Int) + (b.2 : Int)) = ((b.1 + b.2 : Nat) : Int) := by omega
        dsimp only
        rw [ez]
        have lens : acc.length ≤ i := by
          rw [← ea]
          have := spans_len (bs.take i)
          rw [List.length_take] at this
          unfold spansM at this
          omega
        have hil : i < bs.length := (List.getElem?_eq_some_iff.mp eb).1
        have es : (bs.take (i + 1)).foldl spansStep [] = spansStep acc b := by
          rw [fold_take eb, ea]
        have free : ∀ {o : HO} {p : Addr}, H p = some o → p ≠ f := fun h => ne_of_none h nf
        refine ⟨_, rfl, _, .inl ⟨zs, SqL.of ef, rfl⟩, ?_⟩
        rcases List.eq_nil_or_concat acc with rfl | ⟨ini, q0, eq0⟩
        · cases da
          refine iteF ?_
          refine iteF ?_
          refine ⟨_, rfl, .inl ⟨rfl, _, SqL.of ef⟩, _, rfl, _, rfl, (by show 2 ≤ sizeLine; decide), fun T nT => ?_⟩
          have nTf : f ≠ T := ne_of_none ef nT
          refine ⟨f, _, _, rfl, rfl, (by rw [upd_ne nTf]; exact ef), (by show 0 < sizeLine; decide), ?_⟩
          have sT : Same H1 (upd H1 T (.tup [.int (b.1 : Int), .int ((b.1 + b.2 : Nat) : Int)])) := same_new nT
          refine ⟨_, _, _, _, _, rfl, fun c o h => ?_, _, upd_same, _, ?_, es⟩
          · rw [upd_ne (free h)]
            exact sT _ _ (sm _ _ h)
          · rw [step_nil]
            have base : DdAll (upd H1 T (.tup [.int (b.1 : Int), .int ((b.1 + b.2 : Nat) : Int)])) ([] ++ [.ref T]) (prsD [(b.1, b.1 + b.2)]) := .cons (.tup upd_same (.cons (.int _) (.cons (.int _) .nil))) .nil
            exact base.tups (tups_upd (p := f) (by rw [upd_ne nTf]; exact ef)) (tup_prs _)
        · rw [List.concat_eq_append] at eq0
          subst eq0
          rw [prsD_append] at da
          obtain ⟨us, y, rfl, dus, dy⟩ := da.concat
          obtain ⟨ay, rfl, hay⟩ := dy.pair
          have etr : (!(us ++ [V.ref ay]).isEmpty) = true := by simp
          rw [etr]
          refine iteT ?_
          refine ⟨_, rfl, _, rfl, 1, rfl, f, _, -1, .ref ay, rfl, rfl, SqL.of ef, atI_last _ _, ay, _, 1, .int (q0.2 : Int), rfl, rfl, SqT.of hay, atI_nat (j := 1) rfl, (b.1 : Int), (q0.2 : Int), rfl, rfl, _, rfl, ite2 (fun hle => ?_) (fun hgt => ?_)⟩
          · have hle : b.1 ≤ q0.2 := by
              have h := of_decide_eq_true hle
              omega
            refine ⟨_, rfl, 1, rfl, f, _, -1, .ref ay, rfl, rfl, SqL.of ef, atI_last _ _, ?_⟩
            refine ⟨ay, _, rfl, SqT.of hay, rfl, _, _, rfl, _, _, rfl, rfl, ?_⟩
            refine ⟨_, rfl, _, rfl, _, rfl, (q0.2 : Int), ((b.1 + b.2 : Nat) : Int), rfl, (by show 2 ≤ sizeLine; decide), fun T nT => ?_⟩
            have em : (if ((b.1 + b.2 : Nat) : Int) > (q0.2 : Int) then ((b.1 + b.2 : Nat) : Int) else (q0.2 : Int)) = ((if q0.2 < b.1 + b.2 then b.1 + b.2 else q0.2 : Nat) : Int) := by
              by_cases h : q0.2 < b.1 + b.2
              · rw [if_pos h, if_pos (by omega)]
              · rw [if_neg h, if_neg (by omega)]
            rw [em]
            have nTf : f ≠ T := ne_of_none ef nT
            refine ⟨_, rfl, 1, rfl, f, _, -1, us.length, rfl, rfl, (by rw [upd_ne nTf]; exact ef), ?_, ?_⟩
            · unfold ixN
              rw [if_neg (by decide), if_pos (by simp; omega)]
              simp
              omega
            have sT : Same H1 (upd H1 T (.tup [.int (q0.1 : Int), .int ((if q0.2 < b.1 + b.2 then b.1 + b.2 else q0.2 : Nat) : Int)])) := same_new nT
            refine ⟨_, _, _, _, _, rfl, fun c o h => ?_, _, upd_same, _, ?_, es⟩
            · rw [upd_ne (free h)]
              exact sT _ _ (sm _ _ h)
            · rw [step_concat, if_pos hle, prsD_append]
              have e2 : (us ++ [V.ref ay]).set us.length (.ref T) = us ++ [.ref T] := by simp
              rw [e2]
              have base := (dus.mono sT).append (.cons (.tup upd_same (.cons (.int (q0.1 : Int)) (.cons (.int ((if q0.2 < b.1 + b.2 then b.1 + b.2 else q0.2 : Nat) : Int)) .nil))) .nil)
              refine DdAll.tups (tups_upd (p := f) (by rw [upd_ne nTf]; exact ef)) ?_ base
              have := tup_prs (ini ++ [(q0.1, if q0.2 < b.1 + b.2 then b.1 + b.2 else q0.2)])
              rw [prsD_append] at this
              exact this
          · have hgt : ¬ b.1 ≤ q0.2 := fun h => hgt (decide_eq_true (by omega))
            refine ⟨_, rfl, .inl ⟨rfl, _, SqL.of ef⟩, _, rfl, _, rfl, (by show 2 ≤ sizeLine; decide), fun T nT => ?_⟩
            have nTf : f ≠ T := ne_of_none ef nT
            refine ⟨f, _, _, rfl, rfl, (by rw [upd_ne nTf]; exact ef), ?_, ?_⟩
            · have h1 := dus.length
              rw [prsD_len] at h1
              rw [List.length_append, h1]
              rw [List.length_append] at lens
              exact sz_of (by show ini.length + 1 ≤ 10000000; simp only [List.length_cons, List.length_nil] at lens; omega)
            have sT : Same H1 (upd H1 T (.tup [.int (b.1 : Int), .int ((b.1 + b.2 : Nat) : Int)])) := same_new nT
            refine ⟨_, _, _, _, _, rfl, fun c o h => ?_, _, upd_same, _, ?_, es⟩
            · rw [upd_ne (free h)]
              exact sT _ _ (sm _ _ h)
            · rw [step_concat, if_neg hgt, prsD_append, prsD_append]
              have base := ((dus.append (.cons (.tup hay (.cons (.int (q0.1 : Int)) (.cons (.int (q0.2 : Int)) .nil))) .nil)).mono sT).append (.cons (.tup upd_same (.cons (.int (b.1 : Int)) (.cons (.int ((b.1 + b.2 : Nat) : Int)) .nil))) .nil)
              refine DdAll.tups (tups_upd (p := f) (by rw [upd_ne nTf]; exact ef)) ?_ base
              have := tup_prs ((ini ++ [q0]) ++ [(b.1, b.1 + b.2)])
              rw [prsD_append, prsD_append] at this
              exact this
      · rintro σ H1 ⟨y2, y3, y4, y5, y6, rfl, sm, zs, ef, acc, da, ea⟩
        rw [ly, List.take_length] at ea
        exact ⟨_, rfl, q H1 f sm nf ⟨zs, ef, by unfold spansM; rw [ea]; exact da⟩⟩
theorem ok_p_greatest (T : Txt K mg) : FnOk P w K mg base CX0 1 T.f_p_greatest T.d_p_greatest ["low", "high"] sp_p_greatest := by
  refine T.F_p_greatest.ok sc_p_greatest (fun vs H Q E h => ?_) (fun cdv A outer s H vs Q E hr h => ?_)
  · obtain ⟨lo, hi, rfl, _⟩ := h
    rfl
  · obtain ⟨lo, hi, rfl, hh, q⟩ := h
    refine ⟨_, (pss_cons (ps_set (i := 2) sc_p_greatest.nd rfl (by first | exact Or.inl rfl | exact Or.inr rfl) (pe_lst pa_nil))
      (pss_cons (ps_set (i := 3) sc_p_greatest.nd rfl (by first | exact Or.inl rfl | exact Or.inr rfl) (pv 0))
      (pss_cons (ps_while PassesOwn.never (pt_cmpR op_lt (pv 3) (pv 1) (nomark _))
      (pss_cons (ps_set (i := 4) sc_p_greatest.nd rfl (by first | exact Or.inl rfl | exact Or.inr rfl) (pe_ifExp (pt_cmpR op_gt (pv 3) pe_int (nomark _)) (pe_op op_and (pv 3) (pe_un un_neg (pv 3))) (pe_glob (v := .int 281474976710656) (by rfl) T.g_SPACE ⟨_, rfl⟩)))
      (pss_cons (ps_set (i := 5) sc_p_greatest.nd rfl (by first | exact Or.inl rfl | exact Or.inr rfl) (pe_op op_shl pe_int (pe_op op_sub (pe_bits (pe_op op_sub (pv 1) (pv 3))) pe_int)))
      (pss_cons (ps_set (i := 6) sc_p_greatest.nd rfl (by first | exact Or.inl rfl | exact Or.inr rfl) (pe_callB (call_min2 rfl) (by rfl) T.b_min (by decide +kernel) (pa_cons (pv 4) (pa_cons (pv 5) pa_nil))))
      (pss_cons (ps_expr (pe_bm PySem.F.plainAttrs_list PySem.F.slot_list_append PySem.F.type_list_append mt_append (pv 2) (pa_cons (pe_tup (pa_cons (pv 3) (pa_cons (pv 6) pa_nil))) pa_nil)))
      (pss_one (ps_set (i := 3) sc_p_greatest.nd rfl (by first | exact Or.inl rfl | exact Or.inr rfl) (pe_op op_add (pv 3) (pv 6)))))))))
      (pss_one (ps_ret (pv 2)))))), ?_⟩
    refine ⟨Nat.zero_le _, fun f nf => ?_⟩
    refine ⟨_, rfl, ?_⟩
    refine ⟨fun m σ H1 => ∃ (st : Nat) (zs : List V) (done : List Pr) (y4 y5 y6 : Option V), m = hi - st ∧ σ = [some (.int (lo : Int)), some (.int (hi : Int)), some (.ref f), some (.int (st : Int)), y4, y5, y6] ∧ Same H H1 ∧
        H1 f = some (.lst zs) ∧ DdAll H1 zs (prsD done) ∧ done ++ greatM st hi = greatM lo hi,
      ⟨hi - lo, lo, [], [], none, none, none, rfl, rfl, same_new nf, upd_same, .nil, rfl⟩, ?_⟩
    rintro m σ H1 ⟨st, zs, done, y4, y5, y6, rfl, rfl, sm, ef, da, ed⟩
    refine ⟨_, rfl, _, rfl, (st : Int), (hi : Int), rfl, rfl, _, rfl, ite2 (fun hlt => ?_) (fun hge => ?_)⟩
    · have hlt : st < hi := by
        have h := of_decide_eq_true hlt
        omega
      have zp := size_pos st hi
      refine ⟨fun σ' H' => ∃ (zs : List V) (done : List Pr) (y4 y5 y6 : Option V), σ' = [some (.int (lo : Int)), some (.int (hi : Int)), some (.ref f), some (.int ((st + sizeN st hi : Nat) : Int)), y4, y5, y6] ∧ Same H H' ∧
          H' f = some (.lst zs) ∧ DdAll H' zs (prsD done) ∧ done ++ greatM (st + sizeN st hi) hi = greatM lo hi, ?_, ?_⟩
      · rintro σ' H' ⟨zs, done, y4, y5, y6, rfl, h1, h2, h3, h4⟩
        exact ⟨hi - (st + sizeN st hi), by omega, _, zs, done, y4, y5, y6, rfl, rfl, h1, h2, h3, h4⟩
      have ll : done.length ≤ 97 := by
        have := great_len lo hi hh
        rw [← ed, List.length_append] at this
        omega
      refine ⟨_, rfl, (st : Int), 0, rfl, rfl, _, rfl, ite2 (fun h0 => ?_) (fun h0 => ?_)⟩
      · have h0 : 0 < st := by
          have h := of_decide_eq_true h0
          omega
        have ea : Builtin.bitAnd (st : Int) (-(st : Int)) = ((alignedN st : Nat) : Int) := by
          rw [and_neg h0]
          unfold alignedN
          rw [if_pos h0]
        refine ⟨_, rfl, _, rfl, (st : Int), rfl, (st : Int), -(st : Int), rfl, rfl, ?_⟩
        dsimp only
        rw [ea]
        have hlog : (hi - st).log2 < 49 := fitting_log (by omega) (by omega)
        have eb : ((Builtin.Int.intBits ((hi : Int) - (st : Int)) : Nat) : Int) - 1 = (((hi - st).log2 : Nat) : Int) := by
          have e : (hi : Int) - (st : Int) = ((hi - st : Nat) : Int) := by omega
          rw [e, bits_nat (by omega)]
          omega
        have ef2 : (1 : Int) * 2 ^ ((((hi - st).log2 : Nat) : Int)).toNat = ((fittingN (hi - st) : Nat) : Int) := by
          unfold fittingN
          rw [Int.one_mul, Int.toNat_natCast]
          exact (Int.natCast_pow 2 _).symm
        have em : (if ((fittingN (hi - st) : Nat) : Int) < ((alignedN st : Nat) : Int) then ((fittingN (hi - st) : Nat) : Int) else ((alignedN st : Nat) : Int)) = ((sizeN st hi : Nat) : Int) := by
          unfold sizeN
          by_cases h : fittingN (hi - st) < alignedN st
          · rw [if_pos h, if_pos (by omega)]
          · rw [if_neg h, if_neg (by omega)]
        refine ⟨_, rfl, _, rfl, (hi : Int), (st : Int), rfl, rfl, _, rfl, _, 1, rfl, rfl, 1, _, rfl, rfl, ?_, ?_⟩
        · rw [eb]
          exact ⟨by omega, by omega, by decide⟩
        dsimp only
        rw [eb, ef2]
        refine ⟨_, rfl, _, rfl, _, _, rfl, ?_⟩
        rw [em]
        refine ⟨_, rfl, .inl ⟨rfl, _, SqL.of ef⟩, _, rfl, _, rfl, (by show 2 ≤ sizeLine; decide), fun T nT => ?_⟩
        have nTf : f ≠ T := ne_of_none ef nT
        refine ⟨f, _, _, rfl, rfl, (by rw [upd_ne nTf]; exact ef), ?_, ?_⟩
        · have h1 := da.length
          rw [prsD_len] at h1
          rw [h1]
          exact sz_of (by omega)
        have sT : Same H1 (upd H1 T (.tup [.int (st : Int), .int ((sizeN st hi : Nat) : Int)])) := same_new nT
        have base := (da.mono sT).append (.cons (.tup upd_same (.cons (.int (st : Int)) (.cons (.int ((sizeN st hi : Nat) : Int)) .nil))) .nil)
        have tp := tup_prs (done ++ [(st, sizeN st hi)])
        rw [prsD_append] at tp
        have base2 := DdAll.tups (tups_upd (p := f) (o := .lst (zs ++ [.ref T])) (by rw [upd_ne nTf]; exact ef)) tp base
        refine ⟨_, rfl, _, rfl, (st : Int), ((sizeN st hi : Nat) : Int), rfl, rfl, ?_⟩
        have es : (st : Int) + ((sizeN st hi : Nat) : Int) = ((st + sizeN st hi : Nat) : Int) := by omega
        dsimp only
        rw [es]
        refine ⟨_, done ++ [(st, sizeN st hi)], _, _, _, rfl, fun c o h => ?_, upd_same, ?_, ?_⟩
        · rw [upd_ne (ne_of_none h nf)]
          exact sT _ _ (sm _ _ h)
        · rw [prsD_append]
          exact base2
        · rw [List.append_assoc, ← ed, greatM_lt hlt]
          rfl
      · have h0 : ¬ 0 < st := fun h => h0 (decide_eq_true (by omega))
        have ea : (281474976710656 : Int) = ((alignedN st : Nat) : Int) := by
          unfold alignedN
          rw [if_neg h0]
          rfl
        dsimp only [tC]
        rw [ea]
        have hlog : (hi - st).log2 < 49 := fitting_log (by omega) (by omega)
        have eb : ((Builtin.Int.intBits ((hi : Int) - (st : Int)) : Nat) : Int) - 1 = (((hi - st).log2 : Nat) : Int) := by
          have e : (hi : Int) - (st : Int) = ((hi - st : Nat) : Int) := by omega
          rw [e, bits_nat (by omega)]
          omega
        have ef2 : (1 : Int) * 2 ^ ((((hi - st).log2 : Nat) : Int)).toNat = ((fittingN (hi - st) : Nat) : Int) := by
          unfold fittingN
          rw [Int.one_mul, Int.toNat_natCast]
          exact (Int.natCast_pow 2 _).symm
        have em : (if ((fittingN (hi - st) : Nat) : Int) < ((alignedN st : Nat) : Int) then ((fittingN (hi - st) : Nat) : Int) else ((alignedN st : Nat) : Int)) = ((sizeN st hi : Nat) : Int) := by
          unfold sizeN
          by_cases h : fittingN (hi - st) < alignedN st
          · rw [if_pos h, if_pos (by omega)]
          · rw [if_neg h, if_neg (by omega)]
        refine ⟨_, rfl, _, rfl, (hi : Int), (st : Int), rfl, rfl, _, rfl, _, 1, rfl, rfl, 1, _, rfl, rfl, ?_, ?_⟩
        · rw [eb]
          exact ⟨by omega, by omega, by decide⟩
        dsimp only
        rw [eb, ef2]
        refine ⟨_, rfl, _, rfl, _, _, rfl, ?_⟩
        rw [em]
        refine ⟨_, rfl, .inl ⟨rfl, _, SqL.of ef⟩, _, rfl, _, rfl, (by show 2 ≤ sizeLine; decide), fun T nT => ?_⟩
        have nTf : f ≠ T := ne_of_none ef nT
        refine ⟨f, _, _, rfl, rfl, (by rw [upd_ne nTf]; exact ef), ?_, ?_⟩
        · have h1 := da.length
          rw [prsD_len] at h1
          rw [h1]
          exact sz_of (by omega)
        have sT : Same H1 (upd H1 T (.tup [.int (st : Int), .int ((sizeN st hi : Nat) : Int)])) := same_new nT
        have base := (da.mono sT).append (.cons (.tup upd_same (.cons (.int (st : Int)) (.cons (.int ((sizeN st hi : Nat) : Int)) .nil))) .nil)
        have tp := tup_prs (done ++ [(st, sizeN st hi)])
        rw [prsD_append] at tp
        have base2 := DdAll.tups (tups_upd (p := f) (o := .lst (zs ++ [.ref T])) (by rw [upd_ne nTf]; exact ef)) tp base
        refine ⟨_, rfl, _, rfl, (st : Int), ((sizeN st hi : Nat) : Int), rfl, rfl, ?_⟩
        have es : (st : Int) + ((sizeN st hi : Nat) : Int) = ((st + sizeN st hi : Nat) : Int) := by omega
        dsimp only
        rw [es]
        refine ⟨_, done ++ [(st, sizeN st hi)], _, _, _, rfl, fun c o h => ?_, upd_same, ?_, ?_⟩
        · rw [upd_ne (ne_of_none h nf)]
          exact sT _ _ (sm _ _ h)
        · rw [prsD_append]
          exact base2
        · rw [List.append_assoc, ← ed, greatM_lt hlt]
          rfl
    · have hge : hi ≤ st := by
        refine Nat.le_of_not_lt fun z => hge (decide_eq_true ?_)
        omega
      rw [greatM_ge hge, List.append_nil] at ed
      rw [ed] at da
      exact ⟨_, rfl, q H1 f sm nf ⟨zs, ef, da⟩⟩
theorem ok_p_room (T : Txt K mg) : FnOk P w K mg base CX0 2 T.f_p_room T.d_p_room ["spans"] sp_p_room := by
  refine T.F_p_room.ok sc_p_room (fun vs H Q E h => ?_) (fun cdv A outer s H vs Q E hr h => ?_)
  · obtain ⟨a, sp, rfl, _⟩ := h
    rfl
  · obtain ⟨a, sp, rfl, hq, hb, hn, q⟩ := h
    obtain ⟨ys, ha, dys⟩ := hq
    have ly := dys.length
    rw [prsD_len] at ly
    refine ⟨_, (pss_one (ps_ret (pe_callTy call_tuple_of (by rfl) T.b_tuple (by decide +kernel) (pa_cons (pe_lc2 (own := [("low", 1), ("high", 2), ("block", 3)]) (vs1 := [3]) (g := gTup K 2 (gCons (gName 1) (gCons (gName 2) gNil))) (g1 := gName 3) (wi1 := iList K _) (by rfl) sc_p_room.nd (pi_list (pv 0)) (blkOk_by (own := [("low", 1), ("high", 2), ("block", 3)]) (N := n_p_room) (sc := defScope s_p_room) (by decide +kernel)) (by decide) (fun _ _ _ _ _ => (pg_tup rfl (pgs_cons (pg_name (i := 1) sc_p_room.nd rfl (Or.inl rfl)) (pgs_cons (pg_name (i := 2) sc_p_room.nd rfl (Or.inl rfl)) pgs_nil)))) (fun _ _ _ _ _ => pts_nil) (fun _ _ _ _ _ => (pi_list (pe_call (ok_p_greatest T) (hr.mono (by decide)) (by rfl) T.g_p_greatest T.F_p_greatest.kp T.bd_p_greatest .nil pass0 (pa_cons (pv 1) (pa_cons (pv 2) pa_nil))))) (fun _ _ _ _ _ => (pg_name (i := 3) sc_p_room.nd rfl (Or.inl rfl))) (fun _ _ _ _ _ => pts_nil) (fun _ _ _ _ _ => (pv 3))) pa_nil)))), ?_⟩
    refine ⟨_, rfl, a, rfl, ⟨ys, SqL.of ha⟩, fun D nD => turns_list (K := K) (a := a) (xs := ys) (fun i H1 => Same H H1 ∧ ∃ zs, H1 D = some (.lst zs) ∧ DdAll H1 zs (prsD (roomP (sp.take i))))
      ⟨same_new nD, _, upd_same, .nil⟩ (fun i H1 _ h => SqL.of (h.1 _ _ ha)) ?_ ?_⟩
    · rintro i x H1 hi ⟨sm, zs, ef, da⟩
      obtain ⟨b, ab, eb, rfl, hab⟩ := pr_get dys hi
      have hab1 := sm _ _ hab
      have mb : b ∈ sp := List.mem_of_getElem? eb
      refine ⟨ab, _, rfl, SqT.of hab1, rfl, _, _, rfl, _, _, rfl, rfl, ?_⟩
      refine ⟨rfl, yesT ?_⟩
      refine ⟨_, rfl, _, rfl, ⟨b.1, b.2, rfl, hb b mb, fun H2 f s2 nf lf => ?_⟩⟩
      obtain ⟨ws, hf, dws⟩ := lf
      have nfD : D ≠ f := ne_of_none ef nf
      refine ⟨f, rfl, ⟨ws, SqL.of hf⟩, ?_⟩
      have lw := dws.length
      rw [prsD_len] at lw
      have et : sp.take (i + 1) = sp.take i ++ [b] := by
        rw [List.take_add_one, eb]
        rfl
      have er : roomP (sp.take (i + 1)) = roomP (sp.take i) ++ greatM b.1 b.2 := by
        rw [et]
        unfold roomP
        rw [List.flatMap_append, List.flatMap_singleton]
      have lr : (roomP (sp.take (i + 1))).length ≤ 97 * 100000 := by
        have h1 := roomP_len (sp.take (i + 1)) fun p hp => hb p (List.mem_of_mem_take hp)
        have h2 : (sp.take (i + 1)).length ≤ 100000 := by
          rw [List.length_take]
          omega
        omega
      have hfree : ∀ {o : HO} {p : Addr}, H p = some o → p ≠ D := fun h => ne_of_none h nD
      refine turns_list (K := K) (a := f) (xs := ws) (fun j H3 => Same H H3 ∧ H3 f = some (.lst ws) ∧ DdAll H3 ws (prsD (greatM b.1 b.2)) ∧ ∃ us, H3 D = some (.lst us) ∧ DdAll H3 us (prsD (roomP (sp.take i) ++ (greatM b.1 b.2).take j)))
        ⟨sm.trans s2, hf, dws, zs, s2 _ _ ef, by rw [List.take_zero, List.append_nil]; exact da.mono s2⟩ (fun j H3 _ h => SqL.of h.2.1) ?_ ?_
      · rintro j y H3 hj ⟨s3, hf3, dws3, us, eD, dus⟩
        refine ⟨rfl, yesT ?_⟩
        obtain ⟨c, hc, hv⟩ := dws3.get hj
        have ec : ∃ c0, (greatM b.1 b.2)[j]? = some c0 ∧ c = prD c0 := by
          unfold prsD at hc
          rw [List.getElem?_map] at hc
          cases ee : (greatM b.1 b.2)[j]? with
          | none =>
            rw [ee] at hc
            cases hc
          | some c0 =>
            rw [ee] at hc
            cases hc
            exact ⟨c0, rfl, rfl⟩
        obtain ⟨c0, hc0, rfl⟩ := ec
        have e2 : (greatM b.1 b.2).take (j + 1) = (greatM b.1 b.2).take j ++ [c0] := by
          rw [List.take_add_one, hc0]
          rfl
        have lu := dus.length
        rw [prsD_len] at lu
        have tp := tup_prs (roomP (sp.take i) ++ (greatM b.1 b.2).take (j + 1))
        have tg : Tups H3 (upd H3 D (.lst (us ++ [y]))) := tups_upd eD
        refine ⟨_, rfl, us, eD, ?_, fun p o h => ?_, ?_, dws3.tups tg (tup_prs _), _, upd_same, ?_⟩
        · rw [lu, List.length_append, List.length_take]
          rw [er, List.length_append] at lr
          exact sz_of (by omega)
        · rw [upd_ne (hfree h)]
          exact s3 _ _ h
        · rw [upd_ne (fun z => nfD z.symm)]
          exact hf3
        · rw [e2, ← List.append_assoc, prsD_append] at tp ⊢
          exact DdAll.tups tg tp (dus.append (.cons hv .nil))
      · rintro H3 ⟨s3, hf3, dws3, us, eD, dus⟩
        refine ⟨s3, us, eD, ?_⟩
        rw [lw, List.take_length] at dus
        rw [er]
        exact dus
    · rintro H1 ⟨sm, zs, ef, da⟩
      rw [ly, List.take_length] at da
      refine ⟨D, zs, rfl, .inl ⟨SqL.of ef, fun l nl => q _ l (sm.trans (same_new nl)) ⟨zs, upd_same, da.mono (same_new nl)⟩⟩⟩
theorem ok_q_room_of (T : Txt K mg) : FnOk P w K mg base CX0 3 T.f_q_room_of T.d_q_room_of ["blocks"] sp_q_room_of := by
  refine T.F_q_room_of.ok sc_q_room_of (fun vs H Q E h => ?_) (fun cdv A outer s H vs Q E hr h => ?_)
  · obtain ⟨a, bs, rfl, _⟩ := h
    rfl
  · obtain ⟨a, bs, rfl, hq, hin, hl, q⟩ := h
    obtain ⟨ys, ha, dys⟩ := hq
    have ly := dys.length
    rw [prsD_len] at ly
    refine ⟨_, (pss_one (ps_ret (pe_call (ok_p_room T) (hr.mono (by decide)) (by rfl) T.g_p_room T.F_p_room.kp T.bd_p_room .nil pass0 (pa_cons (pe_call (ok_p_spans T) (hr.mono (by decide)) (by rfl) T.g_p_spans T.F_p_spans.kp T.bd_p_spans .nil pass0 (pa_cons (pe_callB call_sortP (by rfl) T.b_sorted (by decide +kernel) (pa_cons (pv 0) pa_nil)) pa_nil)) pa_nil)))), ?_⟩
    refine ⟨_, rfl, a, ys, kP H, rfl, ha.imp SqL.of SqT.of, fun x hx => ?_, fun zs p hs hb np => ?_⟩
    · obtain ⟨b, hb⟩ := mem_pr dys x hx
      obtain ⟨h1, t, h2, h3⟩ := kP_of hb
      rw [h1]
      exact ⟨t, h2, h3⟩
    have hz : ∀ z ∈ zs, ∃ b, Dd H z (prD b) := fun z m => mem_pr dys z (hb.perm.mem_iff.mp m)
    have sP : Same H (upd H p (.lst zs)) := same_new np
    have pm : (zs.map (fun v => natP (kP H v))).Perm bs := by
      have := hb.perm.map (fun v => natP (kP H v))
      rw [map_kP dys] at this
      exact this
    have lz := pm.length_eq
    refine ⟨p, zs.map (fun v => natP (kP H v)), rfl, ⟨zs, .inl upd_same, (dd_back hz).mono sP⟩, by omega, fun H2 f s2 nf lf => ?_⟩
    refine ⟨f, _, rfl, lf, spans_ends (fun b m => hin b (pm.mem_iff.mp m)), Nat.le_trans (spans_len _) (by omega), fun H3 g s3 tg => q H3 g _ pm (asc_sorted hz hs) ((sP.trans s2).trans s3) tg⟩
theorem ok_q_union (T : Txt K mg) : FnOk P w K mg base CX0 4 T.f_q_union T.d_q_union ["one", "other"] sp_q_union := by
  refine T.F_q_union.ok sc_q_union (fun vs H Q E h => ?_) (fun cdv A outer s H vs Q E hr h => ?_)
  · obtain ⟨a, b, as, bs, rfl, _⟩ := h
    rfl
  · obtain ⟨a, b, as, bs, rfl, ha, hb, ia, ib, la, lb, q⟩ := h
    obtain ⟨xs, ha, dxs⟩ := ha
    obtain ⟨ys, hb, dys⟩ := hb
    have lx := dxs.length
    have ly := dys.length
    rw [prsD_len] at lx ly
    refine ⟨_, (pss_one (ps_ret (pe_call (ok_q_room_of T) (hr.mono (by decide)) (by rfl) T.g_q_room_of T.F_q_room_of.kp T.bd_q_room_of .nil pass0 (pa_cons (pe_tup (StX.pa_star (pv 0) (StX.pa_star (pv 1) pa_nil))) pa_nil)))), ?_⟩
    refine ⟨_, rfl, a, xs, rfl, .inl (SqT.of ha), _, rfl, b, ys, rfl, .inl (SqT.of hb), ?_, fun U nU => ?_⟩
    · rw [List.append_nil, List.length_append]
      exact Nat.le_of_lt (sz_of (by omega))
    have sU : Same H (upd H U (.tup (xs ++ (ys ++ [])))) := same_new nU
    refine ⟨U, as ++ bs, rfl, ⟨_, .inr upd_same, ?_⟩, ?_, ?_, fun H2 f bs' pm asc s2 tf => q H2 f bs' pm asc (sU.trans s2) tf⟩
    · rw [List.append_nil, prsD_append]
      rw [List.append_nil] at sU
      exact (dxs.append dys).mono sU
    · intro c hc
      rcases List.mem_append.mp hc with m | m
      · exact ia c m
      · exact ib c m
    · rw [List.length_append]
      omega
theorem ok_p_shared (T : Txt K mg) : FnOk P w K mg base CX0 1 T.f_p_shared T.d_p_shared ["ones", "others"] sp_p_shared := by
  refine T.F_p_shared.ok sc_p_shared (fun vs H Q E h => ?_) (fun cdv A outer s H vs Q E hr h => ?_)
  · obtain ⟨a, b, as, bs, rfl, _⟩ := h
    rfl
  · obtain ⟨a, b, as, bs, rfl, ha, hb, la, lb, q⟩ := h
    obtain ⟨xs, ha, dxs⟩ := ha
    obtain ⟨ys, hb, dys⟩ := hb
    have lx := dxs.length
    have ly := dys.length
    rw [prsD_len] at lx ly
    refine ⟨_, (pss_cons (ps_set (i := 2) sc_p_shared.nd rfl (by first | exact Or.inl rfl | exact Or.inr rfl) (pe_lst pa_nil))
      (pss_cons (ps_asg2 pe_int (pg_name (i := 3) sc_p_shared.nd rfl (Or.inl rfl)) (pg_name (i := 4) sc_p_shared.nd rfl (Or.inl rfl)))
      (pss_cons (ps_while PassesOwn.never (PW.pt (pw_and (pt_cmpR op_lt (pv 3) (pe_callB call_len_seq (by rfl) T.b_len (by decide +kernel) (pa_cons (pv 0) pa_nil)) (nomark _)) (pw_and1 (pt_cmpR op_lt (pv 4) (pe_callB call_len_seq (by rfl) T.b_len (by decide +kernel) (pa_cons (pv 1) pa_nil)) (nomark _)))))
      (pss_cons (ps_set (i := 5) sc_p_shared.nd rfl (by first | exact Or.inl rfl | exact Or.inr rfl) (pe_callB (call_max2 rfl) (by rfl) T.b_max (by decide +kernel) (pa_cons (pe_ix ix_tup (pe_ix ix_list (pv 0) (pv 3) (fun _ _ => rfl)) pe_int (fun _ _ => rfl)) (pa_cons (pe_ix ix_tup (pe_ix ix_list (pv 1) (pv 4) (fun _ _ => rfl)) pe_int (fun _ _ => rfl)) pa_nil))))
      (pss_cons (ps_set (i := 6) sc_p_shared.nd rfl (by first | exact Or.inl rfl | exact Or.inr rfl) (pe_callB (call_min2 rfl) (by rfl) T.b_min (by decide +kernel) (pa_cons (pe_ix ix_tup (pe_ix ix_list (pv 0) (pv 3) (fun _ _ => rfl)) pe_int (fun _ _ => rfl)) (pa_cons (pe_ix ix_tup (pe_ix ix_list (pv 1) (pv 4) (fun _ _ => rfl)) pe_int (fun _ _ => rfl)) pa_nil))))
      (pss_cons (ps_if (pt_cmpR op_lt (pv 5) (pv 6) (nomark _))
      (pss_one (ps_expr (pe_bm PySem.F.plainAttrs_list PySem.F.slot_list_append PySem.F.type_list_append mt_append (pv 2) (pa_cons (pe_tup (pa_cons (pv 5) (pa_cons (pv 6) pa_nil))) pa_nil))))
      pss_nil)
      (pss_one (ps_if (pt_cmpR op_lt (pe_ix ix_tup (pe_ix ix_list (pv 0) (pv 3) (fun _ _ => rfl)) pe_int (fun _ _ => rfl)) (pe_ix ix_tup (pe_ix ix_list (pv 1) (pv 4) (fun _ _ => rfl)) pe_int (fun _ _ => rfl)) (nomark _))
      (pss_one (ps_aug (i := 3) sc_p_shared.nd rfl (Or.inl rfl) pe_int ip_add))
      (pss_one (ps_aug (i := 4) sc_p_shared.nd rfl (Or.inl rfl) pe_int ip_add))))))))
      (pss_one (ps_ret (pv 2)))))), ?_⟩
    refine ⟨Nat.zero_le _, fun f nf => ?_⟩
    refine ⟨fun m σ H1 => ∃ (p t : Nat) (zs : List V) (done : List Pr) (y5 y6 : Option V), m = (as.length - p) + (bs.length - t) ∧ p ≤ as.length ∧ t ≤ bs.length ∧
        σ = [some (.ref a), some (.ref b), some (.ref f), some (.int (p : Int)), some (.int (t : Int)), y5, y6] ∧ Same H H1 ∧ H1 f = some (.lst zs) ∧ DdAll H1 zs (prsD done) ∧ done ++ sharedM (as.drop p) (bs.drop t) = sharedM as bs,
      ⟨as.length + bs.length, 0, 0, [], [], none, none, rfl, Nat.zero_le _, Nat.zero_le _, rfl, same_new nf, upd_same, .nil, rfl⟩, ?_⟩
    rintro m σ H1 ⟨p, t, zs, done, y5, y6, rfl, lp, lt, rfl, sm, ef, da, ed⟩
    have out : ∀ D : Hp → Prop, (as.length ≤ p ∨ bs.length ≤ t) → Q (.ref f) H1 := fun _ h => by
      have e : sharedM (as.drop p) (bs.drop t) = [] := by
        rcases h with h | h
        · rw [List.drop_eq_nil_of_le h, shared_nil]
        · rw [List.drop_eq_nil_of_le h, shared_nilR]
      rw [e, List.append_nil] at ed
      exact q H1 f sm nf ⟨zs, ef, by rw [← ed]; exact da⟩
    refine ⟨_, rfl, _, rfl, a, xs, rfl, .inl (SqL.of (sm _ _ ha)), (p : Int), (xs.length : Int), rfl, rfl, _, rfl, ite2 (fun h1 => ?_) (fun h1 => ?_)⟩
    · have h1 : p < as.length := by
        have h := of_decide_eq_true h1
        omega
      refine ⟨_, rfl, _, rfl, b, ys, rfl, .inl (SqL.of (sm _ _ hb)), (t : Int), (ys.length : Int), rfl, rfl, _, rfl, ite2 (fun h2 => ?_) (fun h2 => ?_)⟩
      · have h2 : t < bs.length := by
          have h := of_decide_eq_true h2
          omega
        have gx := List.getElem?_eq_getElem (l := xs) (i := p) (by omega)
        have gy := List.getElem?_eq_getElem (l := ys) (i := t) (by omega)
        obtain ⟨x, ax, ex, vx, hx⟩ := pr_get dxs gx
        obtain ⟨y, ay, ey, vy, hy⟩ := pr_get dys gy
        rw [vx] at gx
        rw [vy] at gy
        have hx1 := sm _ _ hx
        have hy1 := sm _ _ hy
        have dx : as.drop p = x :: as.drop (p + 1) := by
          rw [List.drop_eq_getElem_cons h1]
          rw [List.getElem?_eq_getElem h1] at ex
          cases ex
          rfl
        have dy : bs.drop t = y :: bs.drop (t + 1) := by
          rw [List.drop_eq_getElem_cons h2]
          rw [List.getElem?_eq_getElem h2] at ey
          cases ey
          rfl
        refine ⟨fun σ' H' => ∃ (p' t' : Nat) (zs : List V) (done : List Pr) (y5 y6 : Option V), (as.length - p') + (bs.length - t') < (as.length - p) + (bs.length - t) ∧ p' ≤ as.length ∧ t' ≤ bs.length ∧
          σ' = [some (.ref a), some (.ref b), some (.ref f), some (.int (p' : Int)), some (.int (t' : Int)), y5, y6] ∧ Same H H' ∧ H' f = some (.lst zs) ∧ DdAll H' zs (prsD done) ∧ done ++ sharedM (as.drop p') (bs.drop t') = sharedM as bs, ?_, ?_⟩
        · rintro σ' H' ⟨p', t', zs, done, y5, y6, l, l1, l2, rfl, k1, k2, k3, k4⟩
          exact ⟨_, l, p', t', zs, done, y5, y6, rfl, l1, l2, rfl, k1, k2, k3, k4⟩
        have em : (if ((y.1 : Nat) : Int) > ((x.1 : Nat) : Int) then ((y.1 : Nat) : Int) else ((x.1 : Nat) : Int)) = ((max x.1 y.1 : Nat) : Int) := by
          by_cases h : x.1 < y.1
          · rw [if_pos (by omega), Nat.max_eq_right (by omega)]
          · rw [if_neg (by omega), Nat.max_eq_left (by omega)]
        have en : (if ((y.2 : Nat) : Int) < ((x.2 : Nat) : Int) then ((y.2 : Nat) : Int) else ((x.2 : Nat) : Int)) = ((min x.2 y.2 : Nat) : Int) := by
          by_cases h : y.2 < x.2
          · rw [if_pos (by omega), Nat.min_eq_right (by omega)]
          · rw [if_neg (by omega), Nat.min_eq_left (by omega)]
        refine ⟨_, rfl, _, rfl, a, xs, (p : Int), .ref ax, rfl, rfl, SqL.of (sm _ _ ha), atI_nat gx, ax, _, 0, .int (x.1 : Int), rfl, rfl, SqT.of hx1, atI_nat (j := 0) rfl, ?_⟩
        refine ⟨_, rfl, _, rfl, b, ys, (t : Int), .ref ay, rfl, rfl, SqL.of (sm _ _ hb), atI_nat gy, ay, _, 0, .int (y.1 : Int), rfl, rfl, SqT.of hy1, atI_nat (j := 0) rfl, ?_⟩
        refine ⟨_, _, rfl, ?_⟩
        rw [em]
        refine ⟨_, rfl, _, rfl, a, xs, (p : Int), .ref ax, rfl, rfl, SqL.of (sm _ _ ha), atI_nat gx, ax, _, 1, .int (x.2 : Int), rfl, rfl, SqT.of hx1, atI_nat (j := 1) rfl, ?_⟩
        refine ⟨_, rfl, _, rfl, b, ys, (t : Int), .ref ay, rfl, rfl, SqL.of (sm _ _ hb), atI_nat gy, ay, _, 1, .int (y.2 : Int), rfl, rfl, SqT.of hy1, atI_nat (j := 1) rfl, ?_⟩
        refine ⟨_, _, rfl, ?_⟩
        rw [en]
        have lz := da.length
        rw [prsD_len] at lz
        have lall := shared_len as bs
        have ldone : done.length ≤ as.length + bs.length := by
          rw [← ed, List.length_append] at lall
          omega
        rw [dx, dy, shared_cons, ← dx, ← dy] at ed
        refine ⟨_, rfl, _, rfl, ((max x.1 y.1 : Nat) : Int), ((min x.2 y.2 : Nat) : Int), rfl, rfl, _, rfl, ite2 (fun h3 => ?_) (fun h3 => ?_)⟩
        · have h3 : max x.1 y.1 < min x.2 y.2 := by
            have h := of_decide_eq_true h3
            omega
          rw [if_pos h3] at ed
          refine ⟨_, rfl, .inl ⟨rfl, _, SqL.of ef⟩, _, rfl, _, rfl, (by show 2 ≤ sizeLine; decide), fun U nU => ?_⟩
          have nUf : f ≠ U := ne_of_none ef nU
          refine ⟨f, _, _, rfl, rfl, (by rw [upd_ne nUf]; exact ef), sz_of (by omega), ?_⟩
          have sU : Same H1 (upd H1 U (.tup [.int ((max x.1 y.1 : Nat) : Int), .int ((min x.2 y.2 : Nat) : Int)])) := same_new nU
          have base := (da.mono sU).append (.cons (.tup upd_same (.cons (.int ((max x.1 y.1 : Nat) : Int)) (.cons (.int ((min x.2 y.2 : Nat) : Int)) .nil))) .nil)
          have tp := tup_prs (done ++ [(max x.1 y.1, min x.2 y.2)])
          have da2 : DdAll (upd (upd H1 U (.tup [.int ((max x.1 y.1 : Nat) : Int), .int ((min x.2 y.2 : Nat) : Int)])) f (.lst (zs ++ [.ref U]))) (zs ++ [.ref U]) (prsD (done ++ [(max x.1 y.1, min x.2 y.2)])) := by
            rw [prsD_append] at tp ⊢
            exact DdAll.tups (tups_upd (p := f) (by rw [upd_ne nUf]; exact ef)) tp base
          have sm2 : Same H (upd (upd H1 U (.tup [.int ((max x.1 y.1 : Nat) : Int), .int ((min x.2 y.2 : Nat) : Int)])) f (.lst (zs ++ [.ref U]))) := fun c o h => by
            rw [upd_ne (ne_of_none h nf)]
            exact sU _ _ (sm _ _ h)
          have ef2 : upd (upd H1 U (.tup [.int ((max x.1 y.1 : Nat) : Int), .int ((min x.2 y.2 : Nat) : Int)])) f (.lst (zs ++ [.ref U])) f = some (.lst (zs ++ [.ref U])) := upd_same
          rw [← List.append_assoc] at ed
          generalize upd (upd H1 U (.tup [.int ((max x.1 y.1 : Nat) : Int), .int ((min x.2 y.2 : Nat) : Int)])) f (.lst (zs ++ [.ref U])) = H2 at da2 sm2 ef2 ⊢
          refine ⟨_, rfl, _, rfl, a, xs, (p : Int), .ref ax, rfl, rfl, SqL.of (sm2 _ _ ha), atI_nat gx, ax, _, 1, .int (x.2 : Int), rfl, rfl, SqT.of (sm2 _ _ hx), atI_nat (j := 1) rfl, ?_⟩
          refine ⟨_, rfl, _, rfl, b, ys, (t : Int), .ref ay, rfl, rfl, SqL.of (sm2 _ _ hb), atI_nat gy, ay, _, 1, .int (y.2 : Int), rfl, rfl, SqT.of (sm2 _ _ hy), atI_nat (j := 1) rfl, ?_⟩
          refine ⟨(x.2 : Int), (y.2 : Int), rfl, rfl, _, rfl, ite2 (fun h4 => ?_) (fun h4 => ?_)⟩
          · have h4 : x.2 < y.2 := by
              have h := of_decide_eq_true h4
              omega
            rw [if_pos h4] at ed
            refine ⟨_, rfl, (p : Int), 1, rfl, rfl, ?_⟩
            exact ⟨p + 1, t, _, _, _, _, by omega, by omega, by omega, rfl, sm2, ef2, da2, ed⟩
          · have h4 : ¬ x.2 < y.2 := fun h => h4 (decide_eq_true (by omega))
            rw [if_neg h4] at ed
            refine ⟨_, rfl, (t : Int), 1, rfl, rfl, ?_⟩
            exact ⟨p, t + 1, _, _, _, _, by omega, by omega, by omega, rfl, sm2, ef2, da2, ed⟩
        · have h3 : ¬ max x.1 y.1 < min x.2 y.2 := fun h => h3 (decide_eq_true (by omega))
          rw [if_neg h3, List.nil_append] at ed
          have sm2 := sm
          have ef2 := ef
          have da2 := da
          refine ⟨_, rfl, _, rfl, a, xs, (p : Int), .ref ax, rfl, rfl, SqL.of (sm2 _ _ ha), atI_nat gx, ax, _, 1, .int (x.2 : Int), rfl, rfl, SqT.of (sm2 _ _ hx), atI_nat (j := 1) rfl, ?_⟩
          refine ⟨_, rfl, _, rfl, b, ys, (t : Int), .ref ay, rfl, rfl, SqL.of (sm2 _ _ hb), atI_nat gy, ay, _, 1, .int (y.2 : Int), rfl, rfl, SqT.of (sm2 _ _ hy), atI_nat (j := 1) rfl, ?_⟩
          refine ⟨(x.2 : Int), (y.2 : Int), rfl, rfl, _, rfl, ite2 (fun h4 => ?_) (fun h4 => ?_)⟩
          · have h4 : x.2 < y.2 := by
              have h := of_decide_eq_true h4
              omega
            rw [if_pos h4] at ed
            refine ⟨_, rfl, (p : Int), 1, rfl, rfl, ?_⟩
            exact ⟨p + 1, t, _, _, _, _, by omega, by omega, by omega, rfl, sm2, ef2, da2, ed⟩
          · have h4 : ¬ x.2 < y.2 := fun h => h4 (decide_eq_true (by omega))
            rw [if_neg h4] at ed
            refine ⟨_, rfl, (t : Int), 1, rfl, rfl, ?_⟩
            exact ⟨p, t + 1, _, _, _, _, by omega, by omega, by omega, rfl, sm2, ef2, da2, ed⟩
      · have h2 : ¬ t < bs.length := fun h => h2 (decide_eq_true (by omega))
        exact ⟨_, rfl, out (fun _ => True) (.inr (by omega))⟩
    · have h1 : ¬ p < as.length := fun h => h1 (decide_eq_true (by omega))
      exact ⟨_, rfl, out (fun _ => True) (.inl (by omega))⟩
theorem ok_q_common (T : Txt K mg) : FnOk P w K mg base CX0 3 T.f_q_common T.d_q_common ["one", "other"] sp_q_common := by
  refine T.F_q_common.ok sc_q_common (fun vs H Q E h => ?_) (fun cdv A outer s H vs Q E hr h => ?_)
  · obtain ⟨a, b, as, bs, rfl, _⟩ := h
    rfl
  · obtain ⟨a, b, as, bs, rfl, ha, hb, ia, ib, la, lb, q⟩ := h
    refine ⟨_, (pss_one (ps_ret (pe_call (ok_p_room T) (hr.mono (by decide)) (by rfl) T.g_p_room T.F_p_room.kp T.bd_p_room .nil pass0 (pa_cons (pe_call (ok_p_shared T) (hr.mono (by decide)) (by rfl) T.g_p_shared T.F_p_shared.kp T.bd_p_shared .nil pass0 (pa_cons (pe_call (ok_p_spans T) (hr.mono (by decide)) (by rfl) T.g_p_spans T.F_p_spans.kp T.bd_p_spans .nil pass0 (pa_cons (pv 0) pa_nil)) (pa_cons (pe_call (ok_p_spans T) (hr.mono (by decide)) (by rfl) T.g_p_spans T.F_p_spans.kp T.bd_p_spans .nil pass0 (pa_cons (pv 1) pa_nil)) pa_nil))) pa_nil)))), ?_⟩
    refine ⟨_, rfl, a, as, rfl, ha.seq, by omega, fun H1 f s1 nf lf => ?_⟩
    refine ⟨_, rfl, b, bs, rfl, (hb.mono s1).seq, by omega, fun H2 g s2 ng lg => ?_⟩
    have l1 := spans_len as
    have l2 := spans_len bs
    refine ⟨f, g, _, _, rfl, lf.mono s2, lg, by omega, by omega, fun H3 d s3 nd ld => ?_⟩
    have l3 := shared_len (spansM as) (spansM bs)
    exact ⟨d, _, rfl, ld, shared_ends _ _ (spans_ends ia), by omega, fun H4 e s4 t4 => q H4 e (((s1.trans s2).trans s3).trans s4) t4⟩
theorem ok_p_gaps (T : Txt K mg) : FnOk P w K mg base CX0 1 T.f_p_gaps T.d_p_gaps ["spans"] sp_p_gaps := by
  refine T.F_p_gaps.ok sc_p_gaps (fun vs H Q E h => ?_) (fun cdv A outer s H vs Q E hr h => ?_)
  · obtain ⟨a, as, rfl, _⟩ := h
    rfl
  · obtain ⟨a, as, rfl, ha, la, q⟩ := h
    obtain ⟨xs, ha, dxs⟩ := ha
    have lx := dxs.length
    rw [prsD_len] at lx
    refine ⟨_, (pss_cons (ps_set (i := 1) sc_p_gaps.nd rfl (by first | exact Or.inl rfl | exact Or.inr rfl) (pe_op op_cat (pe_lst (pa_cons pe_int pa_nil)) (pe_lc (own := [("low", 2), ("high", 3)]) (g := gTup K 2 (gCons (gName 2) (gCons (gName 3) gNil))) (by rfl) sc_p_gaps.nd (pi_list (pv 0)) (blkOk_by (own := [("low", 2), ("high", 3)]) (N := n_p_gaps) (sc := defScope s_p_gaps) (by decide +kernel)) (fun _ _ _ _ _ => (pg_tup rfl (pgs_cons (pg_name (i := 2) sc_p_gaps.nd rfl (Or.inl rfl)) (pgs_cons (pg_name (i := 3) sc_p_gaps.nd rfl (Or.inl rfl)) pgs_nil)))) (fun _ _ _ _ _ => pts_nil) (fun _ _ _ _ _ => (pv 3)))))
      (pss_cons (ps_set (i := 4) sc_p_gaps.nd rfl (by first | exact Or.inl rfl | exact Or.inr rfl) (pe_op op_cat (pe_lc (own := [("low", 2), ("high", 3)]) (g := gTup K 2 (gCons (gName 2) (gCons (gName 3) gNil))) (by rfl) sc_p_gaps.nd (pi_list (pv 0)) (blkOk_by (own := [("low", 2), ("high", 3)]) (N := n_p_gaps) (sc := defScope s_p_gaps) (by decide +kernel)) (fun _ _ _ _ _ => (pg_tup rfl (pgs_cons (pg_name (i := 2) sc_p_gaps.nd rfl (Or.inl rfl)) (pgs_cons (pg_name (i := 3) sc_p_gaps.nd rfl (Or.inl rfl)) pgs_nil)))) (fun _ _ _ _ _ => pts_nil) (fun _ _ _ _ _ => (pv 2))) (pe_lst (pa_cons (pe_glob (v := .int 281474976710656) (by rfl) T.g_SPACE ⟨_, rfl⟩) pa_nil))))
      (pss_one (ps_ret (pe_lc (own := [("low", 2), ("high", 3)]) (g := gTup K 2 (gCons (gName 2) (gCons (gName 3) gNil))) (by rfl) sc_p_gaps.nd (RZ.pi_zipA (by rfl) T.b_zip (pa_cons (pv 1) (pa_cons (pv 4) pa_nil))) (blkOk_by (own := [("low", 2), ("high", 3)]) (N := n_p_gaps) (sc := defScope s_p_gaps) (by decide +kernel)) (fun _ _ _ _ _ => (pg_tup rfl (pgs_cons (pg_name (i := 2) sc_p_gaps.nd rfl (Or.inl rfl)) (pgs_cons (pg_name (i := 3) sc_p_gaps.nd rfl (Or.inl rfl)) pgs_nil)))) (fun _ _ _ _ _ => (pts_one (pt_cmpR op_lt (pv 2) (pv 3) (nomark _)))) (fun _ _ _ _ _ => (pe_tup (pa_cons (pv 2) (pa_cons (pv 3) pa_nil))))))))), ?_⟩
    refine ⟨(by show 1 ≤ sizeLine; decide), fun L nL => ?_⟩
    have sL : Same H (upd H L (.lst [.int 0])) := same_new nL
    have eL : upd H L (.lst [.int 0]) L = some (.lst [.int 0]) := upd_same
    generalize upd H L (.lst [.int 0]) = H1 at sL eL ⊢
    refine ⟨_, rfl, a, rfl, ⟨xs, SqL.of (sL _ _ ha)⟩, fun D nD => turns_list (K := K) (a := a) (xs := xs) (fun i H2 => Same H1 H2 ∧ H2 D = some (.lst ((as.take i).map fun b => .int (b.2 : Int))))
      ⟨same_new nD, upd_same⟩ (fun i H2 _ h => SqL.of (h.1 _ _ (sL _ _ ha))) ?_ ?_⟩
    · rintro i x H2 hi ⟨sm, ef⟩
      obtain ⟨b, ab, eb, rfl, hab⟩ := pr_get dxs hi
      have hab1 := sm _ _ (sL _ _ hab)
      refine ⟨ab, _, rfl, SqT.of hab1, rfl, _, _, rfl, _, _, rfl, rfl, ?_⟩
      refine ⟨rfl, yesT ?_⟩
      refine ⟨_, rfl, _, ef, ?_, fun c o h => ?_, ?_⟩
      · rw [List.length_map, List.length_take]
        exact sz_of (by omega)
      · rw [upd_ne (ne_of_none h nD)]
        exact sm _ _ h
      · rw [upd_same, List.take_add_one, eb, List.map_append]
        rfl
    rintro H2 ⟨s2, eD⟩
    rw [lx, List.take_length] at eD
    refine ⟨L, D, _, _, rfl, rfl, s2 _ _ eL, eD, ?_, fun M nM => ?_⟩
    · rw [List.length_map]
      exact Nat.le_of_lt (sz_of (by show 1 + as.length ≤ _; omega))
    have e1 : [V.int 0] ++ as.map (fun b => V.int (b.2 : Int)) = intV (0 :: as.map (·.2)) := by
      unfold intV
      rw [List.map_cons, List.map_map]
      rfl
    rw [e1]
    have sM : Same H2 (upd H2 M (.lst (intV (0 :: as.map (·.2))))) := same_new nM
    have eM : upd H2 M (.lst (intV (0 :: as.map (·.2)))) M = some (.lst (intV (0 :: as.map (·.2)))) := upd_same
    generalize upd H2 M (.lst (intV (0 :: as.map (·.2)))) = H3 at sM eM ⊢
    have s3 : Same H H3 := (sL.trans s2).trans sM
    refine ⟨_, rfl, a, rfl, ⟨xs, SqL.of (s3 _ _ ha)⟩, fun D2 nD2 => turns_list (K := K) (a := a) (xs := xs) (fun i H4 => Same H3 H4 ∧ H4 D2 = some (.lst ((as.take i).map fun b => .int (b.1 : Int))))
      ⟨same_new nD2, upd_same⟩ (fun i H4 _ h => SqL.of (h.1 _ _ (s3 _ _ ha))) ?_ ?_⟩
    · rintro i x H4 hi ⟨sm, ef⟩
      obtain ⟨b, ab, eb, rfl, hab⟩ := pr_get dxs hi
      have hab1 := sm _ _ (s3 _ _ hab)
      refine ⟨ab, _, rfl, SqT.of hab1, rfl, _, _, rfl, _, _, rfl, rfl, ?_⟩
      refine ⟨rfl, yesT ?_⟩
      refine ⟨_, rfl, _, ef, ?_, fun c o h => ?_, ?_⟩
      · rw [List.length_map, List.length_take]
        exact sz_of (by omega)
      · rw [upd_ne (ne_of_none h nD2)]
        exact sm _ _ h
      · rw [upd_same, List.take_add_one, eb, List.map_append]
        rfl
    rintro H4 ⟨s4, eD2⟩
    rw [lx, List.take_length] at eD2
    refine ⟨(by show 1 ≤ sizeLine; decide), fun G nG => ?_⟩
    have sG : Same H4 (upd H4 G (.lst [.int 281474976710656])) := same_new nG
    refine ⟨D2, G, _, _, rfl, rfl, sG _ _ eD2, upd_same, ?_, fun N nN => ?_⟩
    · rw [List.length_map]
      exact Nat.le_of_lt (sz_of (by show as.length + 1 ≤ _; omega))
    have e2 : as.map (fun b => V.int (b.1 : Int)) ++ [V.int 281474976710656] = intV (as.map (·.1) ++ [2 ^ 48]) := by
      unfold intV
      rw [List.map_append, List.map_map]
      rfl
    rw [e2]
    have sN : Same (upd H4 G (.lst [.int 281474976710656])) (upd (upd H4 G (.lst [.int 281474976710656])) N (.lst (intV (as.map (·.1) ++ [2 ^ 48])))) := same_new nN
    have eN : upd (upd H4 G (.lst [.int 281474976710656])) N (.lst (intV (as.map (·.1) ++ [2 ^ 48]))) N = some (.lst (intV (as.map (·.1) ++ [2 ^ 48]))) := upd_same
    have s5 := (s4.trans sG).trans sN
    generalize upd (upd H4 G (.lst [.int 281474976710656])) N (.lst (intV (as.map (·.1) ++ [2 ^ 48]))) = H5 at s5 eN ⊢
    have eM5 := s5 _ _ eM
    have s6 : Same H H5 := s3.trans s5
    refine ⟨_, rfl, _, rfl, M, N, _, _, rfl, .inl ⟨SqL.of eM5, SqL.of eN, fun D3 nD3 => turns_zip (K := K) (a := M) (b := N)
      (fun i H6 => Same H5 H6 ∧ ∃ us, H6 D3 = some (.lst us) ∧ DdAll H6 us (prsD ((((0 :: as.map (·.2)).zip (as.map (·.1) ++ [2 ^ 48])).take i).filter fun p => decide (p.1 < p.2))))
      (by simp [intV]) ⟨same_new nD3, _, upd_same, .nil⟩ (fun i H6 _ h => ⟨SqL.of (h.1 _ _ eM5), SqL.of (h.1 _ _ eN)⟩) ?_ ?_⟩⟩
    · rintro i x y U H6 hx hy nU ⟨sm, us, ef, du⟩
      obtain ⟨n, en, rfl⟩ := intV_get hx
      obtain ⟨k, ek, rfl⟩ := intV_get hy
      have sU : Same H6 (upd H6 U (.tup [.int (n : Int), .int (k : Int)])) := same_new nU
      have ez : ((0 :: as.map (·.2)).zip (as.map (·.1) ++ [2 ^ 48]))[i]? = some (n, k) := by
        rw [List.getElem?_zip_eq_some]
        exact ⟨en, ek⟩
      have lz : ((((0 :: as.map (·.2)).zip (as.map (·.1) ++ [2 ^ 48])).take i).filter fun p => decide (p.1 < p.2)).length ≤ 90001 := by
        refine Nat.le_trans (List.length_filter_le _ _) ?_
        rw [List.length_take, List.length_zip]
        simp only [List.length_cons, List.length_map]
        omega
      have lu := du.length
      rw [prsD_len] at lu
      refine ⟨U, _, rfl, SqT.of upd_same, rfl, _, _, rfl, _, _, rfl, rfl, ?_⟩
      refine ⟨rfl, ?_⟩
      have et := filter_take (fun p : Pr => decide (p.1 < p.2)) ez
      refine ⟨_, rfl, _, rfl, (n : Int), (k : Int), rfl, rfl, _, rfl, ite2 (fun h => ?_) (fun h => ?_)⟩
      · have h : n < k := by
          have h := of_decide_eq_true h
          omega
        rw [if_pos (decide_eq_true h)] at et
        refine ⟨_, rfl, _, rfl, (by show 2 ≤ sizeLine; decide), fun V2 nV => ?_⟩
        have sV : Same (upd H6 U (.tup [.int (n : Int), .int (k : Int)])) (upd (upd H6 U (.tup [.int (n : Int), .int (k : Int)])) V2 (.tup [.int (n : Int), .int (k : Int)])) := same_new nV
        have eV : upd (upd H6 U (.tup [.int (n : Int), .int (k : Int)])) V2 (.tup [.int (n : Int), .int (k : Int)]) V2 = some (.tup [.int (n : Int), .int (k : Int)]) := upd_same
        have s7 := sU.trans sV
        generalize upd (upd H6 U (.tup [.int (n : Int), .int (k : Int)])) V2 (.tup [.int (n : Int), .int (k : Int)]) = H7 at s7 eV ⊢
        refine ⟨us, s7 _ _ ef, sz_of (Nat.le_trans (Nat.le_of_eq lu) (Nat.le_trans lz (by decide))), fun c o h => ?_, _, upd_same, ?_⟩
        · rw [upd_ne (ne_of_none h nD3)]
          exact s7 _ _ (sm _ _ h)
        · rw [et]
          have tp := tup_prs ((((0 :: as.map (·.2)).zip (as.map (·.1) ++ [2 ^ 48])).take i).filter (fun p => decide (p.1 < p.2)) ++ [(n, k)])
          rw [prsD_append] at tp ⊢
          exact DdAll.tups (tups_upd (s7 _ _ ef)) tp ((du.mono s7).append (.cons (.tup eV (.cons (.int (n : Int)) (.cons (.int (k : Int)) .nil))) .nil))
      · have h : ¬ n < k := fun z => h (decide_eq_true (by omega))
        rw [if_neg (fun z => h (of_decide_eq_true z)), List.append_nil] at et
        refine ⟨sm.trans sU, us, sU _ _ ef, ?_⟩
        rw [et]
        exact du.mono sU
    · rintro H6 ⟨sm, us, ef, du⟩
      refine q H6 D3 (s6.trans sm) ?_ ⟨us, ef, ?_⟩
      · cases e : H D3 with
        | none => rfl
        | some o =>
          rw [s6 _ _ e] at nD3
          cases nD3
      · have e : (intV (0 :: as.map (·.2))).length = ((0 :: as.map (·.2)).zip (as.map (·.1) ++ [2 ^ 48])).length := by simp [intV]
        rw [e, List.take_length] at du
        exact du
theorem ok_q_without (T : Txt K mg) : FnOk P w K mg base CX0 3 T.f_q_without T.d_q_without ["one", "other"] sp_q_without := by
  refine T.F_q_without.ok sc_q_without (fun vs H Q E h => ?_) (fun cdv A outer s H vs Q E hr h => ?_)
  · obtain ⟨a, b, as, bs, rfl, _⟩ := h
    rfl
  · obtain ⟨a, b, as, bs, rfl, ha, hb, ia, ib, la, lb, q⟩ := h
    refine ⟨_, (pss_one (ps_ret (pe_call (ok_p_room T) (hr.mono (by decide)) (by rfl) T.g_p_room T.F_p_room.kp T.bd_p_room .nil pass0 (pa_cons (pe_call (ok_p_shared T) (hr.mono (by decide)) (by rfl) T.g_p_shared T.F_p_shared.kp T.bd_p_shared .nil pass0 (pa_cons (pe_call (ok_p_spans T) (hr.mono (by decide)) (by rfl) T.g_p_spans T.F_p_spans.kp T.bd_p_spans .nil pass0 (pa_cons (pv 0) pa_nil)) (pa_cons (pe_call (ok_p_gaps T) (hr.mono (by decide)) (by rfl) T.g_p_gaps T.F_p_gaps.kp T.bd_p_gaps .nil pass0 (pa_cons (pe_call (ok_p_spans T) (hr.mono (by decide)) (by rfl) T.g_p_spans T.F_p_spans.kp T.bd_p_spans .nil pass0 (pa_cons (pv 1) pa_nil)) pa_nil)) pa_nil))) pa_nil)))), ?_⟩
    refine ⟨_, rfl, a, as, rfl, ha.seq, by omega, fun H1 f s1 nf lf => ?_⟩
    refine ⟨_, rfl, b, bs, rfl, (hb.mono s1).seq, by omega, fun H2 g s2 ng lg => ?_⟩
    have l1 := spans_len as
    have l2 := spans_len bs
    refine ⟨g, _, rfl, lg, by omega, fun H3 h s3 nh lh => ?_⟩
    have l4 := gaps_len (spansM bs)
    refine ⟨f, h, _, _, rfl, (lf.mono s2).mono s3, lh, by omega, by omega, fun H4 d s4 nd ld => ?_⟩
    have l3 := shared_len (spansM as) (gapsM (spansM bs))
    exact ⟨d, _, rfl, ld, shared_ends _ _ (spans_ends ia), by omega, fun H5 e s5 t5 => q H5 e ((((s1.trans s2).trans s3).trans s4).trans s5) t5⟩
def sp_l_second : Sp := fun vs H Q _ => ∃ (s l c pm : Addr) (t : Int) (bs : List Bool), vs = [.ref s, .ref pm] ∧ Src H s l c t ∧ t + 200 < 2 ^ 40 ∧ hid s l H pm = some (.lst (bs.map V.bl)) ∧ bs.length = 64 ∧
  ∀ (H' : Hp) (p : Addr) (t' : Int) (cs : List Bool), Goes s l c 100 H H' t t' → hid s l H' p = some (.lst (cs.map V.bl)) → cs.length = 64 → Q (.ref p) H'
theorem ok_l_second (T : Txt K mg) : FnOk P w K mg base CX0 4 T.f_l_second T.d_l_second ["_law_source_here", "_law_marks_here"] sp_l_second := by
  refine T.F_l_second.ok sc_l_second (fun vs H Q E h => ?_) (fun cdv A outer s H vs Q E hr h => ?_)
  · obtain ⟨s, l, c, pm, t, bs, rfl, _⟩ := h
    rfl
  · obtain ⟨s, l, c, pm, t, bs, rfl, S, ht, hp, lb, q⟩ := h
    refine ⟨_, (pss_cons (ps_set (i := 2) sc_l_second.nd rfl (by first | exact Or.inl rfl | exact Or.inr rfl) (pe_call (ok_l_below T) (hr.mono (by decide)) (by rfl) T.g_l_below T.F_l_below.kp T.bd_l_below .nil pass0 (pa_cons (pv 0) (pa_cons pe_int pa_nil))))
      (pss_cons (ps_if (pt_cmpR op_lt (pv 2) pe_int (nomark _))
      (pss_one (ps_ret (pe_call (ok_l_marks T) (hr.mono (by decide)) (by rfl) T.g_l_marks T.F_l_marks.kp T.bd_l_marks .nil pass0 (pa_cons (pv 0) (pa_cons pe_int pa_nil)))))
      pss_nil)
      (pss_cons (ps_if (pt_cmpR op_eq (pv 2) pe_int (nomark _))
      (pss_one (ps_ret (pe_lc (own := [("_law_mark", 3)]) (g := gName 3) (by rfl) sc_l_second.nd (pi_list (pv 1)) (blkOk_by (own := [("_law_mark", 3)]) (N := n_l_second) (sc := defScope s_l_second) (by decide +kernel)) (fun _ _ _ _ _ => (pg_name (i := 3) sc_l_second.nd rfl (Or.inl rfl))) (fun _ _ _ _ _ => pts_nil) (fun _ _ _ _ _ => (pe_not (pv 3))))))
      pss_nil)
      (pss_cons (ps_if (pt_cmpR op_eq (pv 2) pe_int (nomark _))
      (pss_one (ps_ret (pe_op op_rep (pe_lst (pa_cons (pe_cmpR op_eq (pe_call (ok_l_below T) (hr.mono (by decide)) (by rfl) T.g_l_below T.F_l_below.kp T.bd_l_below .nil pass0 (pa_cons (pv 0) (pa_cons pe_int pa_nil))) pe_int (nomark _)) pa_nil)) pe_int)))
      pss_nil)
      (pss_one (ps_ret (pe_op op_cat (pe_slice sl_list (pv 1) (po_some pe_int) po_none) (pe_slice sl_list (pv 1) po_none (po_some pe_int))))))))), ?_⟩
    refine ⟨_, rfl, s, l, c, t, 6, rfl, S, by omega, by decide, by decide, fun H1 way t1 g1 _ _ => ?_⟩
    have u1 := g1.up
    have hp1 := g1.keep _ _ hp
    refine ⟨_, rfl, way, 3, rfl, rfl, _, rfl, ite2 (fun _ => ?_) (fun _ => ?_)⟩
    · exact ⟨_, rfl, s, l, c, t1, 64, rfl, g1.src, by omega, by decide, by decide, fun H2 p t2 cs g2 _ hc lc => q H2 p t2 cs ((g1.trans g2).wide (by decide)) hc lc⟩
    refine ⟨_, rfl, rfl, _, rfl, ite2 (fun _ => ?_) (fun _ => ?_)⟩
    · have hpm := (hid_some hp1).2.2
      refine ⟨_, rfl, pm, rfl, ⟨_, SqL.of hpm⟩, fun D nD => turns_list (K := K) (a := pm) (xs := bs.map V.bl) (fun i H2 => Same H1 H2 ∧ H2 D = some (.lst ((bs.take i).map fun b => .bl (!b))))
        ⟨same_new nD, upd_same⟩ (fun i H2 _ h => SqL.of (h.1 _ _ hpm)) ?_ ?_⟩
      · rintro i x H2 hi ⟨sm, eD⟩
        rw [List.getElem?_map] at hi
        cases eb : bs[i]? with
        | none =>
          rw [eb] at hi
          cases hi
        | some b =>
          rw [eb] at hi
          cases hi
          refine ⟨rfl, yesT ?_⟩
          refine ⟨_, rfl, b, rfl, _, eD, ?_, fun c o h => ?_, ?_⟩
          · rw [List.length_map, List.length_take]
            exact small1000 (by omega)
          · rw [upd_ne (ne_of_none h nD)]
            exact sm _ _ h
          · rw [upd_same, List.take_add_one, eb, List.map_append]
            rfl
      · rintro H2 ⟨sm, eD⟩
        rw [List.length_map, List.take_length] at eD
        have e : bs.map (fun b => V.bl (!b)) = (bs.map (!·)).map V.bl := by
          rw [List.map_map]
          rfl
        rw [e] at eD
        have gg := g1.same sm
        obtain ⟨n1, n2, _⟩ := g1.src.ne nD
        exact q H2 D t1 (bs.map (!·)) (gg.wide (by decide)) (hid_of n1 n2 eD) (by rw [List.length_map]; exact lb)
    refine ⟨_, rfl, rfl, _, rfl, ite2 (fun _ => ?_) (fun _ => ?_)⟩
    · refine ⟨_, rfl, s, l, c, t1, 2, rfl, g1.src, by omega, by decide, by decide, fun H2 r t2 g2 _ _ => ⟨rfl, (by show 1 ≤ sizeLine; decide), fun p0 np0 => ?_⟩⟩
      refine ⟨p0, 64, _, rfl, rfl, upd_same, by decide, by decide, (by show 1 * (64 : Int).toNat ≤ sizeLine; decide), fun f nf => ?_⟩
      have gf := ((g1.trans g2).new (o := .lst [.bl (decide (V.int r = V.int 0))]) np0).new (o := .lst (List.replicate (64 : Int).toNat [.bl (decide (V.int r = V.int 0))]).flatten) nf
      have hf := (g2.src.new (o := .lst [.bl (decide (V.int r = V.int 0))]) np0).hidNew (o := .lst (List.replicate (64 : Int).toNat [.bl (decide (V.int r = V.int 0))]).flatten) nf
      have ef : (List.replicate (64 : Int).toNat [V.bl (decide (V.int r = V.int 0))]).flatten = (List.replicate 64 (decide (V.int r = V.int 0))).map V.bl := by
        rw [show ((64 : Int)).toNat = 64 by rfl]
        simp
      rw [ef] at gf hf ⊢
      exact q _ f t2 _ (gf.wide (by decide)) hf List.length_replicate
    · have hpm := (hid_some hp1).2.2
      refine ⟨_, rfl, 1, rfl, pm, _, rfl, SqL.of hpm, fun p1 np1 => ?_⟩
      have s1 : Same H1 (upd H1 p1 (.lst (cutV (bs.map V.bl) (some 1) none))) := same_new np1
      refine ⟨_, rfl, 1, rfl, pm, _, rfl, SqL.of (s1 _ _ hpm), fun p2 np2 => ?_⟩
      have s2 : Same (upd H1 p1 (.lst (cutV (bs.map V.bl) (some 1) none))) (upd (upd H1 p1 (.lst (cutV (bs.map V.bl) (some 1) none))) p2 (.lst (cutV (bs.map V.bl) none (some 1)))) := same_new np2
      refine ⟨p1, p2, _, _, rfl, rfl, s2 _ _ upd_same, upd_same, ?_, fun p3 np3 => ?_⟩
      · have h1 := cutV_length (bs.map V.bl) (some 1) none
        have h2 := cutV_length (bs.map V.bl) none (some 1)
        rw [List.length_map] at h1 h2
        exact Nat.le_of_lt (small1000 (by omega))
      have e : cutV (bs.map V.bl) (some 1) none ++ cutV (bs.map V.bl) none (some 1) = (bs.drop 1 ++ bs.take 1).map V.bl := by
        have n1 : HT.sIx (bs.map V.bl).length 0 (some 1) = 1 := by
          rw [show (some 1 : Option Int) = some ((1 : Nat) : Int) from rfl, HT.sIx_nat, List.length_map, lb]
          rfl
        have n2 : HT.sIx (bs.map V.bl).length (bs.map V.bl).length (some 1) = 1 := by
          rw [show (some 1 : Option Int) = some ((1 : Nat) : Int) from rfl, HT.sIx_nat, List.length_map, lb]
          rfl
        unfold cutV
        rw [n1, n2, HT.sIx_none, HT.sIx_none, List.drop_zero, List.map_append, List.map_drop, List.map_take, List.take_of_length_le]
        rw [List.length_drop]
        exact Nat.le_refl _
      rw [e]
      have g3 := (((g1.new (o := .lst (cutV (bs.map V.bl) (some 1) none)) np1).new (o := .lst (cutV (bs.map V.bl) none (some 1))) np2).new (o := .lst ((bs.drop 1 ++ bs.take 1).map V.bl)) np3)
      have h3 := ((g1.src.new (o := .lst (cutV (bs.map V.bl) (some 1) none)) np1).new (o := .lst (cutV (bs.map V.bl) none (some 1))) np2).hidNew (o := .lst ((bs.drop 1 ++ bs.take 1).map V.bl)) np3
      exact q _ p3 t1 _ (g3.wide (by decide)) h3 (by rw [List.length_append, List.length_drop, List.length_take]; omega)
def sp_law (K : PySem.W.Frag) : Sp := fun vs H Q _ => ∃ (a : Addr) (ns : List Int), vs = [.ref a] ∧ SqL K H a (ns.map V.int) ∧ ns.length ≤ 63 ∧ ∀ H', Q (.bl true) H'
theorem ok_law (T : Txt K mg) : FnG P w K mg base CX0 5 T.f_law T.d_law ["_law_script"]  (sp_law K) := by
  refine okG T.F_law sc_law (fun vs H Q E h => ?_) (fun cdv A outer s H vs Q E hgd hr h => ?_)
  · obtain ⟨a, ns, rfl, _⟩ := h
    rfl
  · obtain ⟨a, ns, rfl, hS, hlen, q⟩ := h
    refine ⟨_, (pss_cons (ps_set (i := 1) sc_law.nd rfl (by first | exact Or.inl rfl | exact Or.inr rfl) (pe_call (ok_l_source T) (hr.mono (by decide)) (by rfl) T.g_l_source T.F_l_source.kp T.bd_l_source .nil pass0 (pa_cons (pv 0) pa_nil)))
      (pss_cons (ps_for PassesOwn.never rfl (pi_range1 (by rfl) T.b_range (pa_cons pe_int pa_nil)) (pg_name (i := 2) sc_law.nd rfl (Or.inl rfl))
      (pss_cons (ps_asg (pe_call (ok_l_world T) (hr.mono (by decide)) (by rfl) T.g_l_world T.F_l_world.kp T.bd_l_world .nil pass0 (pa_cons (pv 1) pa_nil)) (pg_tup rfl (pgs_cons (pg_name (i := 3) sc_law.nd rfl (Or.inl rfl)) (pgs_cons (pg_name (i := 4) sc_law.nd rfl (Or.inl rfl)) pgs_nil))))
      (pss_cons (ps_set (i := 5) sc_law.nd rfl (by first | exact Or.inl rfl | exact Or.inr rfl) (pe_call (ok_l_marks T) (hr.mono (by decide)) (by rfl) T.g_l_marks T.F_l_marks.kp T.bd_l_marks .nil pass0 (pa_cons (pv 1) (pa_cons pe_int pa_nil))))
      (pss_cons (ps_set (i := 6) sc_law.nd rfl (by first | exact Or.inl rfl | exact Or.inr rfl) (pe_call (ok_l_second T) (hr.mono (by decide)) (by rfl) T.g_l_second T.F_l_second.kp T.bd_l_second .nil pass0 (pa_cons (pv 1) (pa_cons (pv 5) pa_nil))))
      (pss_cons (ps_par (i := 7) (j := 8) (by rfl) sc_law.nd rfl rfl (by decide) rfl rfl (pa_cons (pe_call (ok_l_room T) (hr.mono (by decide)) (by rfl) T.g_l_room T.F_l_room.kp T.bd_l_room .nil pass0 (pa_cons (pv 5) (pa_cons (pv 3) (pa_cons (pv 4) pa_nil)))) (pa_cons (pe_call (ok_l_room T) (hr.mono (by decide)) (by rfl) T.g_l_room T.F_l_room.kp T.bd_l_room .nil pass0 (pa_cons (pv 6) (pa_cons (pv 3) (pa_cons (pv 4) pa_nil)))) pa_nil)) (by rfl))
      (pss_cons (ps_set (i := 9) sc_law.nd rfl (by first | exact Or.inl rfl | exact Or.inr rfl) (pe_listZip (by rfl) (by rfl) T.b_zip (by rfl) T.b_list (pa_cons (pv 5) (pa_cons (pv 6) pa_nil))))
      (pss_cons (ps_set (i := 10) sc_law.nd rfl (by first | exact Or.inl rfl | exact Or.inr rfl) (pe_lst (pa_cons (pe_call (ok_l_room T) (hr.mono (by decide)) (by rfl) T.g_l_room T.F_l_room.kp T.bd_l_room .nil pass0 (pa_cons (pe_lc (own := [("_law_here", 11), ("_law_there", 12)]) (g := gTup K 2 (gCons (gName 11) (gCons (gName 12) gNil))) (by rfl) sc_law.nd (pi_list (pv 9)) (blkOk_by (own := [("_law_here", 11), ("_law_there", 12)]) (N := n_law) (sc := defScope s_law) (by decide +kernel)) (fun _ _ _ _ _ => (pg_tup rfl (pgs_cons (pg_name (i := 11) sc_law.nd rfl (Or.inl rfl)) (pgs_cons (pg_name (i := 12) sc_law.nd rfl (Or.inl rfl)) pgs_nil)))) (fun _ _ _ _ _ => pts_nil) (fun _ _ _ _ _ => (pe_or (pv 11) (pe_one (pv 12))))) (pa_cons (pv 3) (pa_cons (pv 4) pa_nil)))) pa_nil)))
      (pss_cons (ps_expr (pe_bm PySem.F.plainAttrs_list PySem.F.slot_list_append PySem.F.type_list_append mt_append (pv 10) (pa_cons (pe_call (ok_l_room T) (hr.mono (by decide)) (by rfl) T.g_l_room T.F_l_room.kp T.bd_l_room .nil pass0 (pa_cons (pe_lc (own := [("_law_here", 11), ("_law_there", 12)]) (g := gTup K 2 (gCons (gName 11) (gCons (gName 12) gNil))) (by rfl) sc_law.nd (pi_list (pv 9)) (blkOk_by (own := [("_law_here", 11), ("_law_there", 12)]) (N := n_law) (sc := defScope s_law) (by decide +kernel)) (fun _ _ _ _ _ => (pg_tup rfl (pgs_cons (pg_name (i := 11) sc_law.nd rfl (Or.inl rfl)) (pgs_cons (pg_name (i := 12) sc_law.nd rfl (Or.inl rfl)) pgs_nil)))) (fun _ _ _ _ _ => pts_nil) (fun _ _ _ _ _ => (pe_and (pv 11) (pe_one (pv 12))))) (pa_cons (pv 3) (pa_cons (pv 4) pa_nil)))) pa_nil)))
      (pss_cons (ps_expr (pe_bm PySem.F.plainAttrs_list PySem.F.slot_list_append PySem.F.type_list_append mt_append (pv 10) (pa_cons (pe_call (ok_l_room T) (hr.mono (by decide)) (by rfl) T.g_l_room T.F_l_room.kp T.bd_l_room .nil pass0 (pa_cons (pe_lc (own := [("_law_here", 11), ("_law_there", 12)]) (g := gTup K 2 (gCons (gName 11) (gCons (gName 12) gNil))) (by rfl) sc_law.nd (pi_list (pv 9)) (blkOk_by (own := [("_law_here", 11), ("_law_there", 12)]) (N := n_law) (sc := defScope s_law) (by decide +kernel)) (fun _ _ _ _ _ => (pg_tup rfl (pgs_cons (pg_name (i := 11) sc_law.nd rfl (Or.inl rfl)) (pgs_cons (pg_name (i := 12) sc_law.nd rfl (Or.inl rfl)) pgs_nil)))) (fun _ _ _ _ _ => pts_nil) (fun _ _ _ _ _ => (pe_and (pv 11) (pe_one (pe_not (pv 12)))))) (pa_cons (pv 3) (pa_cons (pv 4) pa_nil)))) pa_nil)))
      (pss_cons (ps_expr (pe_bm PySem.F.plainAttrs_list PySem.F.slot_list_append PySem.F.type_list_append mt_append (pv 10) (pa_cons (pe_call (ok_l_room T) (hr.mono (by decide)) (by rfl) T.g_l_room T.F_l_room.kp T.bd_l_room .nil pass0 (pa_cons (pe_lc (own := [("_law_here", 11), ("_law_there", 12)]) (g := gTup K 2 (gCons (gName 11) (gCons (gName 12) gNil))) (by rfl) sc_law.nd (pi_list (pv 9)) (blkOk_by (own := [("_law_here", 11), ("_law_there", 12)]) (N := n_law) (sc := defScope s_law) (by decide +kernel)) (fun _ _ _ _ _ => (pg_tup rfl (pgs_cons (pg_name (i := 11) sc_law.nd rfl (Or.inl rfl)) (pgs_cons (pg_name (i := 12) sc_law.nd rfl (Or.inl rfl)) pgs_nil)))) (fun _ _ _ _ _ => pts_nil) (fun _ _ _ _ _ => (pe_and (pv 12) (pe_one (pe_not (pv 11)))))) (pa_cons (pv 3) (pa_cons (pv 4) pa_nil)))) pa_nil)))
      (pss_one (ps_for PassesOwn.never rfl (pi_range1 (by rfl) T.b_range (pa_cons pe_int pa_nil)) (pg_name (i := 13) sc_law.nd rfl (Or.inl rfl))
      (pss_cons (ps_set (i := 14) sc_law.nd rfl (by first | exact Or.inl rfl | exact Or.inr rfl) (pe_lst (pa_cons (pe_call (ok_q_union T) (hr.mono (by decide)) (by rfl) T.g_q_union T.F_q_union.kp T.bd_q_union .nil pass0 (pa_cons (pv 7) (pa_cons (pv 8) pa_nil))) (pa_cons (pe_call (ok_q_common T) (hr.mono (by decide)) (by rfl) T.g_q_common T.F_q_common.kp T.bd_q_common .nil pass0 (pa_cons (pv 7) (pa_cons (pv 8) pa_nil))) (pa_cons (pe_call (ok_q_without T) (hr.mono (by decide)) (by rfl) T.g_q_without T.F_q_without.kp T.bd_q_without .nil pass0 (pa_cons (pv 7) (pa_cons (pv 8) pa_nil))) (pa_cons (pe_call (ok_q_without T) (hr.mono (by decide)) (by rfl) T.g_q_without T.F_q_without.kp T.bd_q_without .nil pass0 (pa_cons (pv 8) (pa_cons (pv 7) pa_nil))) pa_nil))))))
      (pss_one (ps_if (PW.pt (pw_or (pt_cmpR op_ne (pe_callB (call_repr hgd hr.units) (by rfl) T.b_repr (by decide +kernel) (pa_cons (pv 14) pa_nil)) (pe_callB (call_repr hgd hr.units) (by rfl) T.b_repr (by decide +kernel) (pa_cons (pv 10) pa_nil)) (nomark _)) (pw_or1 (pt_cmpR op_ne (pe_callB (call_repr hgd hr.units) (by rfl) T.b_repr (by decide +kernel) (pa_cons (pe_lst (pa_cons (pe_call (ok_q_union T) (hr.mono (by decide)) (by rfl) T.g_q_union T.F_q_union.kp T.bd_q_union .nil pass0 (pa_cons (pv 8) (pa_cons (pv 7) pa_nil))) (pa_cons (pe_call (ok_q_common T) (hr.mono (by decide)) (by rfl) T.g_q_common T.F_q_common.kp T.bd_q_common .nil pass0 (pa_cons (pv 8) (pa_cons (pv 7) pa_nil))) pa_nil))) pa_nil)) (pe_callB (call_repr hgd hr.units) (by rfl) T.b_repr (by decide +kernel) (pa_cons (pe_slice sl_listK (pv 10) po_none (po_some pe_int)) pa_nil)) (nomark _)))))
      (pss_one (ps_ret pe_bl))
      pss_nil)))))))))))))))
      (pss_one (ps_ret pe_bl)))), ?_⟩
    refine ⟨_, rfl, a, ns, rfl, hS, hlen, fun H0 s l c S0 sm0 => ?_⟩
    refine ⟨40, rfl, by decide, by decide, for_range (lo := 0) (n := 40) (fun i σ H1 => ∃ (t : Int) (y2 y3 y4 y5 y6 y7 y8 y9 y10 y11 y12 y13 y14 : Option V), σ = [some (.ref a), some (.ref s), y2, y3, y4, y5, y6, y7, y8, y9, y10, y11, y12, y13, y14] ∧ Src H1 s l c t ∧ t ≤ 250 * i)
      ⟨0, none, none, none, none, none, none, none, none, none, none, none, none, none, rfl, S0, by omega⟩ ?_ ?_⟩
    · rintro i σ H1 hi ⟨t, y2, y3, y4, y5, y6, y7, y8, y9, y10, y11, y12, y13, y14, rfl, S, ht⟩
      refine ⟨_, rfl, s, l, c, t, rfl, S, by omega, fun H2 v t2 k mm g2 hk m0 m1 hv => ?_⟩
      have u2 := g2.up
      obtain ⟨aw, rfl, haw⟩ := hv.pair
      refine ⟨aw, _, rfl, SqT.of (hid_some haw).2.2, rfl, _, _, rfl, _, _, rfl, rfl, ?_⟩
      refine ⟨_, rfl, s, l, c, t2, 64, rfl, g2.src, by omega, by decide, by decide, fun H3 po t3 xs g3 _ hpo lx => ?_⟩
      have u3 := g3.up
      refine ⟨_, rfl, _, rfl, s, l, c, po, t3, xs, rfl, g3.src, by omega, hpo, lx, fun H4 pt t4 ys g4 hpt ly => ?_⟩
      have u4 := g4.up
      have hpo4 := (hid_some (g4.keep _ _ hpo)).2.2
      have hpt4 := (hid_some hpt).2.2
      have S4 := g4.src
      obtain ⟨m, rfl⟩ : ∃ m : Nat, mm = (m : Int) := ⟨mm.toNat, by omega⟩
      have eu : (16 * 2 ^ k : Int) = ((2 ^ (k + 4) : Nat) : Int) := by
        rw [Nat.pow_add, Int.natCast_mul, Int.natCast_pow]
        show (16 : Int) * 2 ^ k = 2 ^ k * 16
        exact Int.mul_comm _ _
      have e10 : 2 ^ (k + 10) = 64 * 2 ^ (k + 4) := by
        rw [show k + 10 = 6 + (k + 4) by omega, Nat.pow_add]
      have eF : ((m : Int) * 64 * (16 * 2 ^ k)) = ((m * 2 ^ (k + 10) : Nat) : Int) := by
        rw [eu, e10, Int.mul_assoc]
        simp
      have fit : Fits64 (k + 4) (m * 2 ^ (k + 10)) := by
        refine ⟨Nat.mul_mod_left _ _, ?_⟩
        have h1 : m + 1 ≤ 2 ^ (38 - k) := by
          have e : ((2 ^ (38 - k) : Nat) : Int) = (2 : Int) ^ (38 - k) := by simp
          omega
        have h2 : (m + 1) * 2 ^ (k + 10) ≤ 2 ^ (38 - k) * 2 ^ (k + 10) := Nat.mul_le_mul_right _ h1
        rw [← Nat.pow_add, show 38 - k + (k + 10) = 48 by omega] at h2
        rw [Nat.add_mul, Nat.one_mul] at h2
        rw [← e10]
        exact h2
      rw [eF, eu]
      clear eF eu e10 haw hv m0 m1 hk
      generalize m * 2 ^ (k + 10) = F at fit ⊢
      generalize k + 4 = u at fit ⊢
      have src4 : Src H4 s l c t4 ∧ t4 ≤ 250 * (i : Int) + 250 := ⟨S4, by omega⟩
      clear g2 g3 g4 u2 u3 u4 hpo hpt S ht S4
      -- the two rooms
      refine ⟨_, rfl, _, rfl, _, rfl, po, xs, _, _, rfl, hpo4, by omega, by omega, fun H5 v1 s5 hv1 => ?_⟩
      refine ⟨_, rfl, _, rfl, _, rfl, pt, ys, _, _, rfl, s5 _ _ hpt4, by omega, by omega, fun H6 v2 s6 hv2 => ?_⟩
      refine ⟨_, _, rfl, ?_⟩
      rw [blks_prs] at hv1 hv2
      obtain ⟨a1, rfl, T1⟩ := tup2_of hv1
      obtain ⟨a2, rfl, T2⟩ := tup2_of hv2
      replace T1 := T1.mono s6
      change Tup2 H6 a1 (ruM u F xs) at T1
      change Tup2 H6 a2 (ruM u F ys) at T2
      have hpo6 := s6 _ _ (s5 _ _ hpo4)
      have hpt6 := s6 _ _ (s5 _ _ hpt4)
      have s46 := s5.trans s6
      -- the pairs
      refine ⟨_, rfl, _, rfl, po, pt, _, _, rfl, SqL.of hpo6, SqL.of hpt6, by rw [List.length_map, List.length_map]; omega, by rw [List.length_map]; omega, by rw [List.length_map]; omega, fun H7 pz zs s7 hpz lz hz => ?_⟩
      rw [List.length_map] at lz
      have hz7 : ∀ (i : Nat) (z : V), zs[i]? = some z → ∃ (t : Addr) (x y : Bool), z = .ref t ∧ H7 t = some (.tup [.bl x, .bl y]) ∧ xs[i]? = some x ∧ ys[i]? = some y := fun i z h => by
        obtain ⟨t, x, y, e0, e1, e2, e3⟩ := hz i z h
        obtain ⟨b, rfl, e4⟩ := bools_get e2
        obtain ⟨b2, rfl, e5⟩ := bools_get e3
        exact ⟨t, b, b2, e0, e1, e4, e5⟩
      refine ⟨_, rfl, pz, rfl, ⟨zs, SqL.of hpz⟩, fun D1 n1 => zip_turns (fun x y => x || y) n1 hpz hz7 (by omega) lx ly (fun _ _ => rfl) (fun _ _ => rfl) (fun _ _ => rfl) (fun σ2 H x y Q h1 h2 q => ?_) (fun H8 s8 e8 => ?_)⟩
      · refine ⟨_, h1, x, rfl, ?_⟩
        cases x with
        | true => exact q
        | false => exact ⟨_, h2, q⟩
      refine ⟨_, rfl, _, rfl, D1, _, _, _, rfl, e8, (by rw [List.length_zipWith]; omega), (by rw [List.length_zipWith]; omega), fun H9 v9 s9 hv9 => ?_⟩
      rw [blks_prs] at hv9
      refine ⟨(by show 1 ≤ sizeLine; decide), fun dL nL9 => ?_⟩
      have nL : H7 dL = none := by
        cases e : H7 dL with
        | none => rfl
        | some o =>
          have := s9 _ _ (s8 _ _ e)
          rw [this] at nL9
          cases nL9
      have sC : Same H7 (upd H9 dL (.lst [v9])) := (s8.trans s9).trans (same_new nL9)
      have eC : upd H9 dL (.lst [v9]) dL = some (.lst [v9]) := upd_same
      have dC : DdAll (upd H9 dL (.lst [v9])) [v9] (roomsD [ruM u F (List.zipWith (fun x y => x || y) xs ys)]) := .cons (hv9.mono (same_new nL9)) .nil
      generalize upd H9 dL (.lst [v9]) = HC at sC eC dC ⊢
      have hz8 : ∀ Hc : Hp, Same H7 Hc → ∀ (i : Nat) (z : V), zs[i]? = some z → ∃ (t : Addr) (x y : Bool), z = .ref t ∧ Hc t = some (.tup [.bl x, .bl y]) ∧ xs[i]? = some x ∧ ys[i]? = some y := fun Hc sm i z h => by
        obtain ⟨t, x, y, e0, e1, e2, e3⟩ := hz7 i z h
        exact ⟨t, x, y, e0, sm _ _ e1, e2, e3⟩
      clear hv9 e8 s8 s9 n1 nL9
      refine ⟨_, rfl, .inl ⟨rfl, _, SqL.of eC⟩, ?_⟩
      refine ⟨_, rfl, pz, rfl, ⟨zs, SqL.of (sC _ _ hpz)⟩, fun D1 n1 => zip_turns (fun x y => x && y) n1 (sC _ _ hpz) (hz8 _ sC) (by omega) lx ly (fun _ _ => rfl) (fun _ _ => rfl) (fun _ _ => rfl) (fun σ2 H x y Q h1 h2 q => ?_) (fun H8 s8 e8 => ?_)⟩
      · refine ⟨_, h1, x, rfl, ?_⟩
        cases x with
        | true => exact ⟨_, h2, q⟩
        | false => exact q
      refine ⟨_, rfl, _, rfl, D1, _, _, _, rfl, e8, (by rw [List.length_zipWith]; omega), (by rw [List.length_zipWith]; omega), fun H9 v9 s9 hv9 => ?_⟩
      rw [blks_prs] at hv9
      obtain ⟨lv, eC9, sN, eN, dN⟩ := add_room sC nL (s8.trans s9) dC eC hv9
      refine ⟨dL, _, _, rfl, rfl, eC9, small1000 (by rw [lv]; simp), ?_⟩
      generalize upd H9 dL _ = HN at sN eN dN ⊢
      clear eC dC sC hv9 e8 s8 s9 n1 eC9 lv
      have eC := eN
      have dC := dN
      have sC := sN
      clear eN dN sN
      refine ⟨_, rfl, .inl ⟨rfl, _, SqL.of eC⟩, ?_⟩
      refine ⟨_, rfl, pz, rfl, ⟨zs, SqL.of (sC _ _ hpz)⟩, fun D1 n1 => zip_turns (fun x y => x && !y) n1 (sC _ _ hpz) (hz8 _ sC) (by omega) lx ly (fun _ _ => rfl) (fun _ _ => rfl) (fun _ _ => rfl) (fun σ2 H x y Q h1 h2 q => ?_) (fun H8 s8 e8 => ?_)⟩
      · refine ⟨_, h1, x, rfl, ?_⟩
        cases x with
        | true => exact ⟨_, h2, y, rfl, q⟩
        | false => exact q
      refine ⟨_, rfl, _, rfl, D1, _, _, _, rfl, e8, (by rw [List.length_zipWith]; omega), (by rw [List.length_zipWith]; omega), fun H9 v9 s9 hv9 => ?_⟩
      rw [blks_prs] at hv9
      obtain ⟨lv, eC9, sN, eN, dN⟩ := add_room sC nL (s8.trans s9) dC eC hv9
      refine ⟨dL, _, _, rfl, rfl, eC9, small1000 (by rw [lv]; simp), ?_⟩
      generalize upd H9 dL _ = HN at sN eN dN ⊢
      clear eC dC sC hv9 e8 s8 s9 n1 eC9 lv
      have eC := eN
      have dC := dN
      have sC := sN
      clear eN dN sN
      refine ⟨_, rfl, .inl ⟨rfl, _, SqL.of eC⟩, ?_⟩
      refine ⟨_, rfl, pz, rfl, ⟨zs, SqL.of (sC _ _ hpz)⟩, fun D1 n1 => zip_turns (fun x y => y && !x) n1 (sC _ _ hpz) (hz8 _ sC) (by omega) lx ly (fun _ _ => rfl) (fun _ _ => rfl) (fun _ _ => rfl) (fun σ2 H x y Q h1 h2 q => ?_) (fun H8 s8 e8 => ?_)⟩
      · refine ⟨_, h2, y, rfl, ?_⟩
        cases y with
        | true => exact ⟨_, h1, x, rfl, q⟩
        | false => exact q
      refine ⟨_, rfl, _, rfl, D1, _, _, _, rfl, e8, (by rw [List.length_zipWith]; omega), (by rw [List.length_zipWith]; omega), fun H9 v9 s9 hv9 => ?_⟩
      rw [blks_prs] at hv9
      obtain ⟨lv, eC9, sN, eN, dN⟩ := add_room sC nL (s8.trans s9) dC eC hv9
      refine ⟨dL, _, _, rfl, rfl, eC9, small1000 (by rw [lv]; simp), ?_⟩
      generalize upd H9 dL _ = HN at sN eN dN ⊢
      clear eC dC sC hv9 e8 s8 s9 n1 eC9 lv
      have eC := eN
      have dC := dN
      have sC := sN
      clear eN dN sN
      replace T1 := (T1.mono s7).mono sC
      replace T2 := (T2.mono s7).mono sC
      have sH : Same H4 HN := (s46.trans s7).trans sC
      have dDue : Dd HN (.ref dL) (.list (roomsD [ruM u F (List.zipWith (fun x y => x || y) xs ys), ruM u F (List.zipWith (fun x y => x && y) xs ys), ruM u F (List.zipWith (fun x y => x && !y) xs ys), ruM u F (List.zipWith (fun x y => y && !x) xs ys)])) := .lst eC dC
      have hzl : ∀ f : Bool → Bool → Bool, (List.zipWith f xs ys).length = 64 := fun f => by rw [List.length_zipWith]; omega
      have small4 : ∀ r ∈ [ruM u F (List.zipWith (fun x y => x || y) xs ys), ruM u F (List.zipWith (fun x y => x && y) xs ys), ruM u F (List.zipWith (fun x y => x && !y) xs ys), ruM u F (List.zipWith (fun x y => y && !x) xs ys)], SmallP r ∧ r.length ≤ 64 := by
        intro r hr
        simp only [List.mem_cons, List.not_mem_nil, or_false] at hr
        rcases hr with rfl | rfl | rfl | rfl <;> exact ⟨ru_small fit (hzl _), ru_len u F (hzl _)⟩
      have small2 : ∀ r ∈ [ruM u F (List.zipWith (fun x y => x || y) xs ys), ruM u F (List.zipWith (fun x y => x && y) xs ys)], SmallP r ∧ r.length ≤ 64 := fun r hr => small4 r (by
        simp only [List.mem_cons, List.not_mem_nil, or_false] at hr ⊢
        rcases hr with h | h
        · exact .inl h
        · exact .inr (.inl h))
      obtain ⟨f1, f2, f3, f4⟩ := rep_facts small4 (by show 4 ≤ 16; decide)
      obtain ⟨j1, j2, j3, j4⟩ := rep_facts small2 (by show 2 ≤ 16; decide)
      have lu1 := ru_len u F lx
      have lu2 := ru_len u F ly
      clear eC dC sC hz8 hz7 hz hpz hpo6 hpt6 hv1 hv2 hpo4 hpt4
      refine ⟨2, rfl, by decide, by decide, for_range (lo := 0) (n := 2) (fun j σ H' => ∃ (y11 y12 y13 y14 : Option V), σ = [some (.ref a), some (.ref s), some (.int (0 + (i : Int))), some (.int ((2 ^ u : Nat) : Int)), some (.int (F : Int)), some (.ref po), some (.ref pt), some (.ref a1), some (.ref a2), some (.ref pz), some (.ref dL), y11, y12, y13, y14] ∧ Same HN H')
        ⟨_, _, _, _, rfl, Same.refl _⟩ ?_ ?_⟩
      · rintro j σ H' hj ⟨y11, y12, y13, y14, rfl, sm⟩
        replace T1 := T1.mono sm
        replace T2 := T2.mono sm
        replace dDue := dDue.mono sm
        refine ⟨_, rfl, _, rfl, a1, a2, _, _, rfl, T1, T2, ru_in fit lx, ru_in fit ly, Nat.le_trans lu1 (by decide), Nat.le_trans lu2 (by decide), fun Ha fa bsa pma asca sa ta => ?_⟩
        rw [union_eq fit lx ly pma asca] at ta
        replace T1 := T1.mono sa
        replace T2 := T2.mono sa
        replace dDue := dDue.mono sa
        refine ⟨_, rfl, _, rfl, a1, a2, _, _, rfl, T1, T2, ru_in fit lx, ru_in fit ly, Nat.le_trans lu1 (by decide), Nat.le_trans lu2 (by decide), fun Hb fb sb tb => ?_⟩
        rw [common_eq fit lx ly] at tb
        replace T1 := T1.mono sb
        replace T2 := T2.mono sb
        replace dDue := dDue.mono sb
        refine ⟨_, rfl, _, rfl, a1, a2, _, _, rfl, T1, T2, ru_in fit lx, ru_in fit ly, Nat.le_trans lu1 (by decide), Nat.le_trans lu2 (by decide), fun Hc fc sc tc => ?_⟩
        rw [without_eq fit lx ly] at tc
        replace T1 := T1.mono sc
        replace T2 := T2.mono sc
        replace dDue := dDue.mono sc
        refine ⟨_, rfl, _, rfl, a2, a1, _, _, rfl, T2, T1, ru_in fit ly, ru_in fit lx, Nat.le_trans lu2 (by decide), Nat.le_trans lu1 (by decide), fun Hd fd sd td => ?_⟩
        rw [without_eq fit ly lx, zip_not_comm] at td
        replace T1 := T1.mono sd
        replace T2 := T2.mono sd
        replace dDue := dDue.mono sd
        refine ⟨(by show 4 ≤ sizeLine; decide), fun G nG => ?_⟩
        have sG : Same Hd (upd Hd G (.lst [.ref fa, .ref fb, .ref fc, .ref fd])) := same_new nG
        have dG : Dd (upd Hd G (.lst [.ref fa, .ref fb, .ref fc, .ref fd])) (.ref G) (.list (roomsD [ruM u F (List.zipWith (fun x y => x || y) xs ys), ruM u F (List.zipWith (fun x y => x && y) xs ys), ruM u F (List.zipWith (fun x y => x && !y) xs ys), ruM u F (List.zipWith (fun x y => y && !x) xs ys)])) :=
          .lst upd_same (.cons (((((ta.mono sb).mono sc).mono sd).dd).mono sG) (.cons ((((tb.mono sc).mono sd).dd).mono sG) (.cons (((tc.mono sd).dd).mono sG) (.cons ((td.dd).mono sG) .nil))))
        generalize upd Hd G (.lst [.ref fa, .ref fb, .ref fc, .ref fd]) = HG at sG dG ⊢
        replace T1 := T1.mono sG
        replace T2 := T2.mono sG
        replace dDue := dDue.mono sG
        have smG : Same HN HG := ((((sm.trans sa).trans sb).trans sc).trans sd).trans sG
        refine ⟨_, rfl, G, _, rfl, dG, f1, f2, f3, f4, _, rfl, dL, _, rfl, dDue, f1, f2, f3, f4, rfl, _, rfl, ?_⟩
        refine iteNS rfl ?_
        refine ⟨_, rfl, _, rfl, a2, a1, _, _, rfl, T2, T1, ru_in fit ly, ru_in fit lx, Nat.le_trans lu2 (by decide), Nat.le_trans lu1 (by decide), fun He fe bse pme asce se te => ?_⟩
        rw [union_eq fit ly lx pme asce, zip_or_comm] at te
        replace T1 := T1.mono se
        replace T2 := T2.mono se
        replace dDue := dDue.mono se
        refine ⟨_, rfl, _, rfl, a2, a1, _, _, rfl, T2, T1, ru_in fit ly, ru_in fit lx, Nat.le_trans lu2 (by decide), Nat.le_trans lu1 (by decide), fun Hf ff sf tf => ?_⟩
        rw [common_eq fit ly lx, zip_and_comm] at tf
        replace dDue := dDue.mono sf
        refine ⟨(by show 2 ≤ sizeLine; decide), fun G2 nG2 => ?_⟩
        have sG2 : Same Hf (upd Hf G2 (.lst [.ref fe, .ref ff])) := same_new nG2
        have dG2 : Dd (upd Hf G2 (.lst [.ref fe, .ref ff])) (.ref G2) (.list (roomsD [ruM u F (List.zipWith (fun x y => x || y) xs ys), ruM u F (List.zipWith (fun x y => x && y) xs ys)])) :=
          .lst upd_same (.cons (((te.mono sf).dd).mono sG2) (.cons ((tf.dd).mono sG2) .nil))
        generalize upd Hf G2 (.lst [.ref fe, .ref ff]) = HG2 at sG2 dG2 ⊢
        replace dDue := dDue.mono sG2
        have smG2 : Same HN HG2 := ((smG.trans se).trans sf).trans sG2
        refine ⟨G2, _, rfl, dG2, j1, j2, j3, j4, ?_⟩
        refine ⟨_, rfl, 2, rfl, rd_slice (Same.refl _) dDue (fun p3 xs3 np3 d3 => ?_)⟩
        have d4 : Dd (upd HG2 p3 (.lst xs3)) (.ref p3) (.list (roomsD [ruM u F (List.zipWith (fun x y => x || y) xs ys), ruM u F (List.zipWith (fun x y => x && y) xs ys)])) := .lst upd_same (d3.mono (same_new np3))
        refine ⟨p3, _, rfl, d4, j1, j2, j3, j4, rfl, _, rfl, ?_⟩
        refine iteNS rfl ?_
        exact ⟨_, _, _, _, rfl, smG2.trans (same_new np3)⟩
      · rintro σ H' ⟨y11, y12, y13, y14, rfl, sm⟩
        have gg := (Goes.refl src4.1).same (sH.trans sm)
        exact ⟨t4, _, _, _, _, _, _, _, _, _, _, _, _, _, rfl, gg.src, by have := src4.2; omega⟩
    · rintro σ H1 ⟨t, y2, y3, y4, y5, y6, y7, y8, y9, y10, y11, y12, y13, y14, rfl, S, ht⟩
      exact q H1
end
theorem all_mk {l : PySem.W.OpenLaw} {w : World} {K : PySem.W.Frag} {h : Heap} {mg : Str → Option Value} {fa : Addr} (X : K.In h) (G : h.Ns mainGlobals mg) (hfa : mg "law" = some (.ref fa))
    {f_q_room_of : Addr} {od_q_room_of an_q_room_of : Option Addr} {sl_q_room_of : Array (Option Value)} {oc_q_room_of kV_q_room_of dc_q_room_of pm_q_room_of cd_q_room_of ct_q_room_of : Value}
    (a_q_room_of : PySem.W.nsIn K mainGlobals "room_of" = some (some (.ref f_q_room_of)))
    (l_q_room_of : K.lookup f_q_room_of = some ⟨oc_q_room_of, od_q_room_of, .func (PySem.W.fnOf "room_of" "room_of" (defArgs s_q_room_of) (defBody s_q_room_of) (defScope s_q_room_of) .none kV_q_room_of dc_q_room_of pm_q_room_of an_q_room_of cd_q_room_of ct_q_room_of), sl_q_room_of⟩)
    (c_q_room_of : PySem.W.codeIn K cd_q_room_of "room_of" = true) (k_q_room_of : PySem.W.keepIn K (.ref f_q_room_of) = true)
    {f_q_union : Addr} {od_q_union an_q_union : Option Addr} {sl_q_union : Array (Option Value)} {oc_q_union kV_q_union dc_q_union pm_q_union cd_q_union ct_q_union : Value}
    (a_q_union : PySem.W.nsIn K mainGlobals "union" = some (some (.ref f_q_union)))
    (l_q_union : K.lookup f_q_union = some ⟨oc_q_union, od_q_union, .func (PySem.W.fnOf "union" "union" (defArgs s_q_union) (defBody s_q_union) (defScope s_q_union) .none kV_q_union dc_q_union pm_q_union an_q_union cd_q_union ct_q_union), sl_q_union⟩)
    (c_q_union : PySem.W.codeIn K cd_q_union "union" = true) (k_q_union : PySem.W.keepIn K (.ref f_q_union) = true)
    {f_q_common : Addr} {od_q_common an_q_common : Option Addr} {sl_q_common : Array (Option Value)} {oc_q_common kV_q_common dc_q_common pm_q_common cd_q_common ct_q_common : Value}
    (a_q_common : PySem.W.nsIn K mainGlobals "common" = some (some (.ref f_q_common)))
    (l_q_common : K.lookup f_q_common = some ⟨oc_q_common, od_q_common, .func (PySem.W.fnOf "common" "common" (defArgs s_q_common) (defBody s_q_common) (defScope s_q_common) .none kV_q_common dc_q_common pm_q_common an_q_common cd_q_common ct_q_common), sl_q_common⟩)
    (c_q_common : PySem.W.codeIn K cd_q_common "common" = true) (k_q_common : PySem.W.keepIn K (.ref f_q_common) = true)
    {f_q_without : Addr} {od_q_without an_q_without : Option Addr} {sl_q_without : Array (Option Value)} {oc_q_without kV_q_without dc_q_without pm_q_without cd_q_without ct_q_without : Value}
    (a_q_without : PySem.W.nsIn K mainGlobals "without" = some (some (.ref f_q_without)))
    (l_q_without : K.lookup f_q_without = some ⟨oc_q_without, od_q_without, .func (PySem.W.fnOf "without" "without" (defArgs s_q_without) (defBody s_q_without) (defScope s_q_without) .none kV_q_without dc_q_without pm_q_without an_q_without cd_q_without ct_q_without), sl_q_without⟩)
    (c_q_without : PySem.W.codeIn K cd_q_without "without" = true) (k_q_without : PySem.W.keepIn K (.ref f_q_without) = true)
    {f_p_spans : Addr} {od_p_spans an_p_spans : Option Addr} {sl_p_spans : Array (Option Value)} {oc_p_spans kV_p_spans dc_p_spans pm_p_spans cd_p_spans ct_p_spans : Value}
    (a_p_spans : PySem.W.nsIn K mainGlobals "_spans" = some (some (.ref f_p_spans)))
    (l_p_spans : K.lookup f_p_spans = some ⟨oc_p_spans, od_p_spans, .func (PySem.W.fnOf "_spans" "_spans" (defArgs s_p_spans) (defBody s_p_spans) (defScope s_p_spans) .none kV_p_spans dc_p_spans pm_p_spans an_p_spans cd_p_spans ct_p_spans), sl_p_spans⟩)
    (c_p_spans : PySem.W.codeIn K cd_p_spans "_spans" = true) (k_p_spans : PySem.W.keepIn K (.ref f_p_spans) = true)
    {f_p_shared : Addr} {od_p_shared an_p_shared : Option Addr} {sl_p_shared : Array (Option Value)} {oc_p_shared kV_p_shared dc_p_shared pm_p_shared cd_p_shared ct_p_shared : Value}
    (a_p_shared : PySem.W.nsIn K mainGlobals "_shared" = some (some (.ref f_p_shared)))
    (l_p_shared : K.lookup f_p_shared = some ⟨oc_p_shared, od_p_shared, .func (PySem.W.fnOf "_shared" "_shared" (defArgs s_p_shared) (defBody s_p_shared) (defScope s_p_shared) .none kV_p_shared dc_p_shared pm_p_shared an_p_shared cd_p_shared ct_p_shared), sl_p_shared⟩)
    (c_p_shared : PySem.W.codeIn K cd_p_shared "_shared" = true) (k_p_shared : PySem.W.keepIn K (.ref f_p_shared) = true)
    {f_p_gaps : Addr} {od_p_gaps an_p_gaps : Option Addr} {sl_p_gaps : Array (Option Value)} {oc_p_gaps kV_p_gaps dc_p_gaps pm_p_gaps cd_p_gaps ct_p_gaps : Value}
    (a_p_gaps : PySem.W.nsIn K mainGlobals "_gaps" = some (some (.ref f_p_gaps)))
    (l_p_gaps : K.lookup f_p_gaps = some ⟨oc_p_gaps, od_p_gaps, .func (PySem.W.fnOf "_gaps" "_gaps" (defArgs s_p_gaps) (defBody s_p_gaps) (defScope s_p_gaps) .none kV_p_gaps dc_p_gaps pm_p_gaps an_p_gaps cd_p_gaps ct_p_gaps), sl_p_gaps⟩)
    (c_p_gaps : PySem.W.codeIn K cd_p_gaps "_gaps" = true) (k_p_gaps : PySem.W.keepIn K (.ref f_p_gaps) = true)
    {f_p_room : Addr} {od_p_room an_p_room : Option Addr} {sl_p_room : Array (Option Value)} {oc_p_room kV_p_room dc_p_room pm_p_room cd_p_room ct_p_room : Value}
    (a_p_room : PySem.W.nsIn K mainGlobals "_room" = some (some (.ref f_p_room)))
    (l_p_room : K.lookup f_p_room = some ⟨oc_p_room, od_p_room, .func (PySem.W.fnOf "_room" "_room" (defArgs s_p_room) (defBody s_p_room) (defScope s_p_room) .none kV_p_room dc_p_room pm_p_room an_p_room cd_p_room ct_p_room), sl_p_room⟩)
    (c_p_room : PySem.W.codeIn K cd_p_room "_room" = true) (k_p_room : PySem.W.keepIn K (.ref f_p_room) = true)
    {f_p_greatest : Addr} {od_p_greatest an_p_greatest : Option Addr} {sl_p_greatest : Array (Option Value)} {oc_p_greatest kV_p_greatest dc_p_greatest pm_p_greatest cd_p_greatest ct_p_greatest : Value}
    (a_p_greatest : PySem.W.nsIn K mainGlobals "_greatest" = some (some (.ref f_p_greatest)))
    (l_p_greatest : K.lookup f_p_greatest = some ⟨oc_p_greatest, od_p_greatest, .func (PySem.W.fnOf "_greatest" "_greatest" (defArgs s_p_greatest) (defBody s_p_greatest) (defScope s_p_greatest) .none kV_p_greatest dc_p_greatest pm_p_greatest an_p_greatest cd_p_greatest ct_p_greatest), sl_p_greatest⟩)
    (c_p_greatest : PySem.W.codeIn K cd_p_greatest "_greatest" = true) (k_p_greatest : PySem.W.keepIn K (.ref f_p_greatest) = true)
    {f_l_source : Addr} {od_l_source an_l_source : Option Addr} {sl_l_source : Array (Option Value)} {oc_l_source kV_l_source dc_l_source pm_l_source cd_l_source ct_l_source : Value}
    (a_l_source : PySem.W.nsIn K mainGlobals "_law_source" = some (some (.ref f_l_source)))
    (l_l_source : K.lookup f_l_source = some ⟨oc_l_source, od_l_source, .func (PySem.W.fnOf "_law_source" "_law_source" (defArgs s_l_source) (defBody s_l_source) (defScope s_l_source) .none kV_l_source dc_l_source pm_l_source an_l_source cd_l_source ct_l_source), sl_l_source⟩)
    (c_l_source : PySem.W.codeIn K cd_l_source "_law_source" = true) (k_l_source : PySem.W.keepIn K (.ref f_l_source) = true)
    {f_l_below : Addr} {od_l_below an_l_below : Option Addr} {sl_l_below : Array (Option Value)} {oc_l_below kV_l_below dc_l_below pm_l_below cd_l_below ct_l_below : Value}
    (a_l_below : PySem.W.nsIn K mainGlobals "_law_below" = some (some (.ref f_l_below)))
    (l_l_below : K.lookup f_l_below = some ⟨oc_l_below, od_l_below, .func (PySem.W.fnOf "_law_below" "_law_below" (defArgs s_l_below) (defBody s_l_below) (defScope s_l_below) .none kV_l_below dc_l_below pm_l_below an_l_below cd_l_below ct_l_below), sl_l_below⟩)
    (c_l_below : PySem.W.codeIn K cd_l_below "_law_below" = true) (k_l_below : PySem.W.keepIn K (.ref f_l_below) = true)
    {f_l_pick : Addr} {od_l_pick an_l_pick : Option Addr} {sl_l_pick : Array (Option Value)} {oc_l_pick kV_l_pick dc_l_pick pm_l_pick cd_l_pick ct_l_pick : Value}
    (a_l_pick : PySem.W.nsIn K mainGlobals "_law_pick" = some (some (.ref f_l_pick)))
    (l_l_pick : K.lookup f_l_pick = some ⟨oc_l_pick, od_l_pick, .func (PySem.W.fnOf "_law_pick" "_law_pick" (defArgs s_l_pick) (defBody s_l_pick) (defScope s_l_pick) .none kV_l_pick dc_l_pick pm_l_pick an_l_pick cd_l_pick ct_l_pick), sl_l_pick⟩)
    (c_l_pick : PySem.W.codeIn K cd_l_pick "_law_pick" = true) (k_l_pick : PySem.W.keepIn K (.ref f_l_pick) = true)
    {f_l_world : Addr} {od_l_world an_l_world : Option Addr} {sl_l_world : Array (Option Value)} {oc_l_world kV_l_world dc_l_world pm_l_world cd_l_world ct_l_world : Value}
    (a_l_world : PySem.W.nsIn K mainGlobals "_law_world" = some (some (.ref f_l_world)))
    (l_l_world : K.lookup f_l_world = some ⟨oc_l_world, od_l_world, .func (PySem.W.fnOf "_law_world" "_law_world" (defArgs s_l_world) (defBody s_l_world) (defScope s_l_world) .none kV_l_world dc_l_world pm_l_world an_l_world cd_l_world ct_l_world), sl_l_world⟩)
    (c_l_world : PySem.W.codeIn K cd_l_world "_law_world" = true) (k_l_world : PySem.W.keepIn K (.ref f_l_world) = true)
    {f_l_marks : Addr} {od_l_marks an_l_marks : Option Addr} {sl_l_marks : Array (Option Value)} {oc_l_marks kV_l_marks dc_l_marks pm_l_marks cd_l_marks ct_l_marks : Value}
    (a_l_marks : PySem.W.nsIn K mainGlobals "_law_marks" = some (some (.ref f_l_marks)))
    (l_l_marks : K.lookup f_l_marks = some ⟨oc_l_marks, od_l_marks, .func (PySem.W.fnOf "_law_marks" "_law_marks" (defArgs s_l_marks) (defBody s_l_marks) (defScope s_l_marks) .none kV_l_marks dc_l_marks pm_l_marks an_l_marks cd_l_marks ct_l_marks), sl_l_marks⟩)
    (c_l_marks : PySem.W.codeIn K cd_l_marks "_law_marks" = true) (k_l_marks : PySem.W.keepIn K (.ref f_l_marks) = true)
    {f_l_room : Addr} {od_l_room an_l_room : Option Addr} {sl_l_room : Array (Option Value)} {oc_l_room kV_l_room dc_l_room pm_l_room cd_l_room ct_l_room : Value}
    (a_l_room : PySem.W.nsIn K mainGlobals "_law_room" = some (some (.ref f_l_room)))
    (l_l_room : K.lookup f_l_room = some ⟨oc_l_room, od_l_room, .func (PySem.W.fnOf "_law_room" "_law_room" (defArgs s_l_room) (defBody s_l_room) (defScope s_l_room) .none kV_l_room dc_l_room pm_l_room an_l_room cd_l_room ct_l_room), sl_l_room⟩)
    (c_l_room : PySem.W.codeIn K cd_l_room "_law_room" = true) (k_l_room : PySem.W.keepIn K (.ref f_l_room) = true)
    {f_l_second : Addr} {od_l_second an_l_second : Option Addr} {sl_l_second : Array (Option Value)} {oc_l_second kV_l_second dc_l_second pm_l_second cd_l_second ct_l_second : Value}
    (a_l_second : PySem.W.nsIn K mainGlobals "_law_second" = some (some (.ref f_l_second)))
    (l_l_second : K.lookup f_l_second = some ⟨oc_l_second, od_l_second, .func (PySem.W.fnOf "_law_second" "_law_second" (defArgs s_l_second) (defBody s_l_second) (defScope s_l_second) .none kV_l_second dc_l_second pm_l_second an_l_second cd_l_second ct_l_second), sl_l_second⟩)
    (c_l_second : PySem.W.codeIn K cd_l_second "_law_second" = true) (k_l_second : PySem.W.keepIn K (.ref f_l_second) = true)
    {f_law : Addr} {od_law an_law : Option Addr} {sl_law : Array (Option Value)} {oc_law kV_law dc_law pm_law cd_law ct_law : Value}
    (a_law : PySem.W.nsIn K mainGlobals "law" = some (some (.ref f_law)))
    (l_law : K.lookup f_law = some ⟨oc_law, od_law, .func (PySem.W.fnOf "law" "law" (defArgs s_law) (defBody s_law) (defScope s_law) .none kV_law dc_law pm_law an_law cd_law ct_law), sl_law⟩)
    (c_law : PySem.W.codeIn K cd_law "law" = true) (k_law : PySem.W.keepIn K (.ref f_law) = true)
    {t_SPACE : Tok} (v_SPACE : PySem.W.nsIn K mainGlobals "SPACE" = some (some (.int 281474976710656 t_SPACE)))
    (z_abs : PySem.W.nsIn K mainGlobals "abs" = some none)
    (z_len : PySem.W.nsIn K mainGlobals "len" = some none)
    (z_list : PySem.W.nsIn K mainGlobals "list" = some none)
    (z_max : PySem.W.nsIn K mainGlobals "max" = some none)
    (z_min : PySem.W.nsIn K mainGlobals "min" = some none)
    (z_range : PySem.W.nsIn K mainGlobals "range" = some none)
    (z_repr : PySem.W.nsIn K mainGlobals "repr" = some none)
    (z_sorted : PySem.W.nsIn K mainGlobals "sorted" = some none)
    (z_tuple : PySem.W.nsIn K mainGlobals "tuple" = some none)
    (z_zip : PySem.W.nsIn K mainGlobals "zip" = some none)
    : ∃ fd : FuncData, (∀ (s : Shared) (v : Value), BindsTo s fd ⟨[v], []⟩ [("_law_script", v)]) ∧ ∀ base : Heap, K.In base → base.Ns mainGlobals mg → FnG l.prog w K mg base CX0 5 fa fd ["_law_script"] (sp_law K) := by
  have e := hfa.symm.trans (PySem.W.mg_of X G a_law)
  cases e
  have F_q_room_of := fun_mk (st := s_q_room_of) l_q_room_of c_q_room_of k_q_room_of
  have F_q_union := fun_mk (st := s_q_union) l_q_union c_q_union k_q_union
  have F_q_common := fun_mk (st := s_q_common) l_q_common c_q_common k_q_common
  have F_q_without := fun_mk (st := s_q_without) l_q_without c_q_without k_q_without
  have F_p_spans := fun_mk (st := s_p_spans) l_p_spans c_p_spans k_p_spans
  have F_p_shared := fun_mk (st := s_p_shared) l_p_shared c_p_shared k_p_shared
  have F_p_gaps := fun_mk (st := s_p_gaps) l_p_gaps c_p_gaps k_p_gaps
  have F_p_room := fun_mk (st := s_p_room) l_p_room c_p_room k_p_room
  have F_p_greatest := fun_mk (st := s_p_greatest) l_p_greatest c_p_greatest k_p_greatest
  have F_l_source := fun_mk (st := s_l_source) l_l_source c_l_source k_l_source
  have F_l_below := fun_mk (st := s_l_below) l_l_below c_l_below k_l_below
  have F_l_pick := fun_mk (st := s_l_pick) l_l_pick c_l_pick k_l_pick
  have F_l_world := fun_mk (st := s_l_world) l_l_world c_l_world k_l_world
  have F_l_marks := fun_mk (st := s_l_marks) l_l_marks c_l_marks k_l_marks
  have F_l_room := fun_mk (st := s_l_room) l_l_room c_l_room k_l_room
  have F_l_second := fun_mk (st := s_l_second) l_l_second c_l_second k_l_second
  have F_law := fun_mk (st := s_law) l_law c_law k_law
  let T : Txt K mg := {
    f_q_room_of := _, d_q_room_of := _, F_q_room_of := F_q_room_of, g_q_room_of := PySem.W.mg_of X G a_q_room_of, bd_q_room_of := F_q_room_of.binds (ps := ["blocks"]) fun _ _ _ _ _ _ us hl => match us, hl with | [_], _ => rfl,
    f_q_union := _, d_q_union := _, F_q_union := F_q_union, g_q_union := PySem.W.mg_of X G a_q_union, bd_q_union := F_q_union.binds (ps := ["one", "other"]) fun _ _ _ _ _ _ us hl => match us, hl with | [_, _], _ => rfl,
    f_q_common := _, d_q_common := _, F_q_common := F_q_common, g_q_common := PySem.W.mg_of X G a_q_common, bd_q_common := F_q_common.binds (ps := ["one", "other"]) fun _ _ _ _ _ _ us hl => match us, hl with | [_, _], _ => rfl,
    f_q_without := _, d_q_without := _, F_q_without := F_q_without, g_q_without := PySem.W.mg_of X G a_q_without, bd_q_without := F_q_without.binds (ps := ["one", "other"]) fun _ _ _ _ _ _ us hl => match us, hl with | [_, _], _ => rfl,
    f_p_spans := _, d_p_spans := _, F_p_spans := F_p_spans, g_p_spans := PySem.W.mg_of X G a_p_spans, bd_p_spans := F_p_spans.binds (ps := ["blocks"]) fun _ _ _ _ _ _ us hl => match us, hl with | [_], _ => rfl,
    f_p_shared := _, d_p_shared := _, F_p_shared := F_p_shared, g_p_shared := PySem.W.mg_of X G a_p_shared, bd_p_shared := F_p_shared.binds (ps := ["ones", "others"]) fun _ _ _ _ _ _ us hl => match us, hl with | [_, _], _ => rfl,
    f_p_gaps := _, d_p_gaps := _, F_p_gaps := F_p_gaps, g_p_gaps := PySem.W.mg_of X G a_p_gaps, bd_p_gaps := F_p_gaps.binds (ps := ["spans"]) fun _ _ _ _ _ _ us hl => match us, hl with | [_], _ => rfl,
    f_p_room := _, d_p_room := _, F_p_room := F_p_room, g_p_room := PySem.W.mg_of X G a_p_room, bd_p_room := F_p_room.binds (ps := ["spans"]) fun _ _ _ _ _ _ us hl => match us, hl with | [_], _ => rfl,
    f_p_greatest := _, d_p_greatest := _, F_p_greatest := F_p_greatest, g_p_greatest := PySem.W.mg_of X G a_p_greatest, bd_p_greatest := F_p_greatest.binds (ps := ["low", "high"]) fun _ _ _ _ _ _ us hl => match us, hl with | [_, _], _ => rfl,
    f_l_source := _, d_l_source := _, F_l_source := F_l_source, g_l_source := PySem.W.mg_of X G a_l_source, bd_l_source := F_l_source.binds (ps := ["_law_script"]) fun _ _ _ _ _ _ us hl => match us, hl with | [_], _ => rfl,
    f_l_below := _, d_l_below := _, F_l_below := F_l_below, g_l_below := PySem.W.mg_of X G a_l_below, bd_l_below := F_l_below.binds (ps := ["_law_source_here", "_law_many"]) fun _ _ _ _ _ _ us hl => match us, hl with | [_, _], _ => rfl,
    f_l_pick := _, d_l_pick := _, F_l_pick := F_l_pick, g_l_pick := PySem.W.mg_of X G a_l_pick, bd_l_pick := F_l_pick.binds (ps := ["_law_source_here", "_law_items"]) fun _ _ _ _ _ _ us hl => match us, hl with | [_, _], _ => rfl,
    f_l_world := _, d_l_world := _, F_l_world := F_l_world, g_l_world := PySem.W.mg_of X G a_l_world, bd_l_world := F_l_world.binds (ps := ["_law_source_here"]) fun _ _ _ _ _ _ us hl => match us, hl with | [_], _ => rfl,
    f_l_marks := _, d_l_marks := _, F_l_marks := F_l_marks, g_l_marks := PySem.W.mg_of X G a_l_marks, bd_l_marks := F_l_marks.binds (ps := ["_law_source_here", "_law_many"]) fun _ _ _ _ _ _ us hl => match us, hl with | [_, _], _ => rfl,
    f_l_room := _, d_l_room := _, F_l_room := F_l_room, g_l_room := PySem.W.mg_of X G a_l_room, bd_l_room := F_l_room.binds (ps := ["_law_marks_here", "_law_unit", "_law_first"]) fun _ _ _ _ _ _ us hl => match us, hl with | [_, _, _], _ => rfl,
    f_l_second := _, d_l_second := _, F_l_second := F_l_second, g_l_second := PySem.W.mg_of X G a_l_second, bd_l_second := F_l_second.binds (ps := ["_law_source_here", "_law_marks_here"]) fun _ _ _ _ _ _ us hl => match us, hl with | [_, _], _ => rfl,
    f_law := _, d_law := _, F_law := F_law, g_law := PySem.W.mg_of X G a_law, bd_law := F_law.binds (ps := ["_law_script"]) fun _ _ _ _ _ _ us hl => match us, hl with | [_], _ => rfl,
    t_SPACE := t_SPACE, g_SPACE := PySem.W.mg_of X G v_SPACE,
    b_abs := PySem.W.mg_none_of X G z_abs,
    b_len := PySem.W.mg_none_of X G z_len,
    b_list := PySem.W.mg_none_of X G z_list,
    b_max := PySem.W.mg_none_of X G z_max,
    b_min := PySem.W.mg_none_of X G z_min,
    b_range := PySem.W.mg_none_of X G z_range,
    b_repr := PySem.W.mg_none_of X G z_repr,
    b_sorted := PySem.W.mg_none_of X G z_sorted,
    b_tuple := PySem.W.mg_none_of X G z_tuple,
    b_zip := PySem.W.mg_none_of X G z_zip }
  exact ⟨T.d_law, fun s v => .of_eq rfl, fun base _ _ => ok_law T⟩
end My
open PySem PySem.W PyProof.Rows
set_option maxRecDepth 100000 in
set_option maxHeartbeats 0 in
theorem PySem.Challenge.cw_buswindows_k03_two_rooms_holds : PySem.Challenge.rw_buswindows_k03_two_rooms.Holds := by
  w_on; o_law; k_head; (case hw => w_witness2)
  k_fill
  refine My.walkG (l := PySem.Challenge.rw_buswindows_k03_two_rooms) (n := 63) (k := 5) (x := "_law_script") (sp := My.sp_law) rfl (by decide) rfl ⟨rfl, by decide, by decide⟩ (fun w h Y => PySem.W.kIn_of Y) ?F (fun _ _ a ns hl _ hS => ⟨a, ns, rfl, hS, hl, fun _ => rfl⟩)
  case F =>
    intro w mg fa h KX G hmg
    refine' My.all_mk KX G hmg ?a_q_room_of ?l_q_room_of ?c_q_room_of ?k_q_room_of ?a_q_union ?l_q_union ?c_q_union ?k_q_union ?a_q_common ?l_q_common ?c_q_common ?k_q_common ?a_q_without ?l_q_without ?c_q_without ?k_q_without ?a_p_spans ?l_p_spans ?c_p_spans ?k_p_spans ?a_p_shared ?l_p_shared ?c_p_shared ?k_p_shared ?a_p_gaps ?l_p_gaps ?c_p_gaps ?k_p_gaps ?a_p_room ?l_p_room ?c_p_room ?k_p_room ?a_p_greatest ?l_p_greatest ?c_p_greatest ?k_p_greatest ?a_l_source ?l_l_source ?c_l_source ?k_l_source ?a_l_below ?l_l_below ?c_l_below ?k_l_below ?a_l_pick ?l_l_pick ?c_l_pick ?k_l_pick ?a_l_world ?l_l_world ?c_l_world ?k_l_world ?a_l_marks ?l_l_marks ?c_l_marks ?k_l_marks ?a_l_room ?l_l_room ?c_l_room ?k_l_room ?a_l_second ?l_l_second ?c_l_second ?k_l_second ?a_law ?l_law ?c_law ?k_law ?v_SPACE ?z_abs ?z_len ?z_list ?z_max ?z_min ?z_range ?z_repr ?z_sorted ?z_tuple ?z_zip
    (case a_q_room_of => k_is)
    (case l_q_room_of => k_is)
    (case c_q_room_of => k_is)
    (case k_q_room_of => k_is)
    (case a_q_union => k_is)
    (case l_q_union => k_is)
    (case c_q_union => k_is)
    (case k_q_union => k_is)
    (case a_q_common => k_is)
    (case l_q_common => k_is)
    (case c_q_common => k_is)
    (case k_q_common => k_is)
    (case a_q_without => k_is)
    (case l_q_without => k_is)
    (case c_q_without => k_is)
    (case k_q_without => k_is)
    (case a_p_spans => k_is)
    (case l_p_spans => k_is)
    (case c_p_spans => k_is)
    (case k_p_spans => k_is)
    (case a_p_shared => k_is)
    (case l_p_shared => k_is)
    (case c_p_shared => k_is)
    (case k_p_shared => k_is)
    (case a_p_gaps => k_is)
    (case l_p_gaps => k_is)
    (case c_p_gaps => k_is)
    (case k_p_gaps => k_is)
    (case a_p_room => k_is)
    (case l_p_room => k_is)
    (case c_p_room => k_is)
    (case k_p_room => k_is)
    (case a_p_greatest => k_is)
    (case l_p_greatest => k_is)
    (case c_p_greatest => k_is)
    (case k_p_greatest => k_is)
    (case a_l_source => k_is)
    (case l_l_source => k_is)
    (case c_l_source => k_is)
    (case k_l_source => k_is)
    (case a_l_below => k_is)
    (case l_l_below => k_is)
    (case c_l_below => k_is)
    (case k_l_below => k_is)
    (case a_l_pick => k_is)
    (case l_l_pick => k_is)
    (case c_l_pick => k_is)
    (case k_l_pick => k_is)
    (case a_l_world => k_is)
    (case l_l_world => k_is)
    (case c_l_world => k_is)
    (case k_l_world => k_is)
    (case a_l_marks => k_is)
    (case l_l_marks => k_is)
    (case c_l_marks => k_is)
    (case k_l_marks => k_is)
    (case a_l_room => k_is)
    (case l_l_room => k_is)
    (case c_l_room => k_is)
    (case k_l_room => k_is)
    (case a_l_second => k_is)
    (case l_l_second => k_is)
    (case c_l_second => k_is)
    (case k_l_second => k_is)
    (case a_law => k_is)
    (case l_law => k_is)
    (case c_law => k_is)
    (case k_law => k_is)
    (case v_SPACE => k_is)
    (case z_abs => k_is)
    (case z_len => k_is)
    (case z_list => k_is)
    (case z_max => k_is)
    (case z_min => k_is)
    (case z_range => k_is)
    (case z_repr => k_is)
    (case z_sorted => k_is)
    (case z_tuple => k_is)
    (case z_zip => k_is)
