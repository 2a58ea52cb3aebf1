
import PyProof.Rows.All
import Wide.All
import OpenK.AllK
import Wide.FinOn
import HandS.SortInts
import PySem.Challenge.RW_pagelend_k46_histories_told
import HandS.ForMost
import HandS.Wide
import HandS.Defaults
import HandS.MakeKwOnly
import HandS.IsInst
import HandS.Codes
import HandS.Walk
import HandS.TupAny
import HandS.More
import HandS.Sort
import HandS.Conv
import HandS.HotCalls
import HandS.ExcIs
import KE.KSortTupAny
import HandS.DictComp
import HandS.Deep
import HandS.Rev
import KE.KDictKeyed
import HandS.SetFor
import HandS.Strs
import HandS.SortOrd
import HandS.SortRule
import HandS.Zip
set_option Elab.async false
set_option linter.all false
set_option maxRecDepth 100000
set_option maxHeartbeats 1000000
namespace My
open PySem PySem.Spec PyProof.Rows L2
def topS (i : Nat) : Stmt := PySem.Challenge.pw_pagelend_k46_histories_told.main.body.getD i (.Pass ⟨0, 0, 0, 0⟩)
structure Fre (K : PySem.W.Frag) (mg : Str → Option Value) : Prop where
  abs : mg "abs" = none
  all : mg "all" = none
  bool : mg "bool" = none
  int : mg "int" = none
  isinstance : mg "isinstance" = none
  len : mg "len" = none
  list : mg "list" = none
  max : mg "max" = none
  min : mg "min" = none
  range : mg "range" = none
  set : mg "set" = none
  str : mg "str" = none
  tuple : mg "tuple" = none
  c_GREATEST_VALUE : ∃ t, mg "GREATEST_VALUE" = some (.int 999 t)
  c_MOST_TASKS : ∃ t, mg "MOST_TASKS" = some (.int 60 t)
  c_LAST_TIME : ∃ t, mg "LAST_TIME" = some (.int 1000000 t)
/-! ### calls with keywords, a def kept as its promise -/
structure CalN (P : Program) (w : World) (K : PySem.W.Frag) (mg : Str → Option Value) (base : Heap) (k : Nat) (x : Str) (sp : Sp) (n : Nat) (ks : List Str) (gV : List V → List V → List V) : Prop where
  ex : ∃ (f : Addr) (fd : FuncData) (ps : List Str) (g : List Value → List Value → List Value), FnOk P w K mg base CX0 k f fd ps sp ∧ mg x = some (.ref f) ∧ PySem.W.keepIn K (.ref f) = true ∧ KBn K fd ps n ks g gV
section
variable {X : Cx} {k j n : Nat} {x : Str} {sp : Sp} {ks : List Str} {gV : List V → List V → List V} {p pos : Pos} {e : Expr} {es : List Expr} {kws : List Keyword} {t tk : TA}
theorem pe_cn (c : CalN X.prog X.w X.K X.mg X.base k x sp n ks gV) (hr : Room j X.A) (hk : k ≤ j) (hg : Gl X x) (ha : PA X (e :: es) t) (hkw : PK X kws tk)
    (hall : (backToKw pos (keywordEach kws X.env)).all (·.1.isSome) = true := by rfl) (hks : (backToKw pos (keywordEach kws X.env)).filterMap (·.1) = ks := by rfl)
    (hdb : (x == ("__debug__" : Str)) = false := by decide) (he : starEach (e :: es) X.env = (false, eval e X.env) :: starEach es X.env := by rfl)
    (hpl : ((backTo pos (starEach (e :: es) X.env)).any (·.1) || (backToKw pos (keywordEach kws X.env)).any (·.1.isNone)) = false := by rfl) :
    PE X (.Call (.Name x p) (e :: es) kws pos) (tCallN n ks.length sp gV E0 t tk) := by
  obtain ⟨f, fd, ps, g, F, hm, kp, b⟩ := c.ex
  exact pe_callN F (hr.mono hk) hg hm kp b pass0 ha hkw hall hks hdb he hpl
theorem pe_cn0 (c : CalN X.prog X.w X.K X.mg X.base k x sp 0 ks gV) (hr : Room j X.A) (hk : k ≤ j) (hg : Gl X x) (hkw : PK X kws tk)
    (hall : (backToKw pos (keywordEach kws X.env)).all (·.1.isSome) = true := by rfl) (hks : (backToKw pos (keywordEach kws X.env)).filterMap (·.1) = ks := by rfl)
    (hdb : (x == ("__debug__" : Str)) = false := by decide)
    (hpl : ((backTo pos (starEach [] X.env)).any (·.1) || (backToKw pos (keywordEach kws X.env)).any (·.1.isNone)) = false := by rfl) :
    PE X (.Call (.Name x p) [] kws pos) (tCallN 0 ks.length sp gV E0 tNil tk) := by
  obtain ⟨f, fd, ps, g, F, hm, kp, b⟩ := c.ex
  refine ⟨fun pins s σ H Q I h => ?_⟩
  refine wpAny_Call_Name_kw (ld_glob I hg hm ?_ hdb)
  refine PySem.W.callWith_KW0 (h₀ := X.base) I.ok.mod.kin kp hall ?_ hpl
  refine thn (hkw.run pos pins s σ H _ I h) fun ws s2 ⟨zs, H2, I2, rz, l1, l2, q2⟩ => ⟨I2.kIn, ?_⟩
  rw [hks]
  exact run_fnN (us := []) (vs := []) F (hr.mono hk) b pass0 I2 .nil rz rfl l2 q2
end
section
variable {P : Program} {w : World} {K : PySem.W.Frag} {mg : Str → Option Value} {base : Heap}
theorem mkCal {x : Str} {st : Stmt} {f : Addr} {fd : FuncData} {N ps : List Str} {k : Nat} {sp : Sp} (F : Fun K x x st f fd) (gm : mg x = some (.ref f)) (S : FnScope N ps (defScope st)) (b : Binds K fd ps []) (len : ∀ vs H Q E, sp vs H Q E → vs.length = ps.length)
    (hbody : ∀ (cdv : Value) (A : Around) (outer : List Env) (s : Shared) (H : Hp) (vs : List V) (Q : VK) (E : XK), Room k (A.deeper (envOfC x (defScope st) s.heap.objs.size f cdv)) → sp vs H Q E →
      ∃ t, PSs (cxOf CX0 P w K mg base N x (defScope st) f cdv A outer s H E).nox (defBody st) t ∧ t { nx := fun _ H' => Q .non H', rt := Q } (start N vs) H) : C8.Cal P w K mg base (k + 1) x sp [] :=
  ⟨f, fd, ps, [], F.ok S len hbody, gm, F.kp, b, .nil⟩
end
/-! ### heaps -/
def But (b : Addr) (H H' : Hp) : Prop := ∀ a o, a ≠ b → H a = some o → H' a = some o
theorem But.trans {b : Addr} {H H1 H2 : Hp} (h : But b H H1) (g : But b H1 H2) : But b H H2 := fun a o n e => g a o n (h a o n e)
theorem But.refl (b : Addr) (H : Hp) : But b H H := fun _ _ _ e => e
theorem But.put {b : Addr} {H : Hp} {o : HO} : But b H (L2.upd H b o) := fun a _ n e => by rw [upd_ne n]; exact e
theorem But.new {b p : Addr} {H : Hp} {o : HO} (h : H p = none) : But b H (L2.upd H p o) := fun a _ n e => by rw [upd_ne (ne_of_none e h)]; exact e
theorem same_upd {H : Hp} {p : Addr} {o : HO} (h : H p = none) : Same H (upd H p o) := fun b x e => by
  rw [upd_ne (ne_of_none e h)]
  exact e
def Bag (H : Hp) (b : Addr) : Prop := ∃ x y : Int, H b = some (.lst [.int x, .int y]) ∧ 0 ≤ x ∧ 0 ≤ y ∧ y < 2147483647
theorem Bag.new {H : Hp} {b p : Addr} {o : HO} (g : Bag H b) (h : H p = none) : Bag (L2.upd H p o) b := by
  obtain ⟨x, y, e, r⟩ := g
  exact ⟨x, y, by rw [upd_ne (ne_of_none e h)]; exact e, r⟩
theorem Bag.ne {H : Hp} {b p : Addr} (g : Bag H b) (h : H p = none) : p ≠ b := by
  obtain ⟨x, y, e, r⟩ := g
  exact (ne_of_none e h).symm
theorem Bag.ne_tup {H : Hp} {b p : Addr} {xs : List V} (g : Bag H b) (h : H p = some (.tup xs)) : p ≠ b := by
  obtain ⟨x, y, e, r⟩ := g
  exact ne_of h e (by intro z; cases z)
theorem seqBut {K : PySem.W.Frag} {H H' : Hp} {a b : Addr} {xs : List V} (e : But b H H') (n : a ≠ b) (h : SqL K H a xs) : SqL K H' a xs := by
  rcases h with (h | ⟨o, h⟩) | h
  · exact .inl (.inl (e _ _ n h))
  · exact .inl (.inr ⟨o, e _ _ n h⟩)
  · exact .inr h
theorem dT {a : Bool} {b : Bool} (h : a = b) : decide (V.bl a = V.bl b) = true := by rw [h]; exact decide_eq_true rfl
theorem two_ok (a b : V) : [a, b].length ≤ sizeLine := by show 2 ≤ sizeLine; decide
theorem three_ok (a b c : V) : [a, b, c].length ≤ sizeLine := by show 3 ≤ sizeLine; decide
theorem four_ok (a b c d : V) : [a, b, c, d].length ≤ sizeLine := by show 4 ≤ sizeLine; decide
theorem free_of {b p : Addr} {H H' : Hp} (g : But b H H') (hB : Bag H b) (hB' : Bag H' b) (np : H' p = none) : H p = none := by
  cases e : H p with
  | none => rfl
  | some o =>
    have z := g p o (hB'.ne np) e
    rw [np] at z
    cases z
theorem same_but {b : Addr} {H0 H1 H2 : Hp} (sm : Same H0 H1) (nb : H0 b = none) (g : But b H1 H2) : Same H0 H2 := fun c o e => g c o (ne_of_none e nb) (sm c o e)
theorem iteD {p A B : Prop} [Decidable p] (h : ¬ p) (b : B) : if decide p = true then A else B := by
  rw [if_neg (by rw [decide_eq_false h]; exact Bool.false_ne_true)]
  exact b
theorem iteD' {p A B : Prop} [Decidable p] (h : p) (b : A) : if decide p = true then A else B := by
  rw [if_pos (decide_eq_true h)]
  exact b
theorem vone {vs : List V} {us : List Value} (i : Nat) (r : Vals vs us) : Vals ((vs.drop i).take 1) ((us.drop i).take 1) := by
  exact (r.drop i).take 1
section
variable {P : Program} {w : World} {K : PySem.W.Frag} {mg : Str → Option Value} {base : Heap}

/-! ### data: what stands at a value -/
theorem sqT_same {H H' : Hp} {a : Addr} {xs : List V} (e : Same H H') (h : SqT K H a xs) : SqT K H' a xs := by
  rcases h with (h | ⟨o, h⟩) | h
  · exact .inl (.inl (e _ _ h))
  · exact .inl (.inr ⟨o, e _ _ h⟩)
  · exact .inr h
mutual
theorem dp_same {H H' : Hp} (e : Same H H') : ∀ (d : PyData) (v : V), Dp K H v d → Dp K H' v d
  | .none, _, h => by cases h; exact .non
  | .bool b, _, h => by cases h; exact .bl b
  | .int i, _, h => by cases h; exact .int i
  | .str x, _, h => by cases h; exact .str x
  | .list ds, _, h => by
    cases h with
    | lst hs ha => exact .lst (e.seq hs) (dp_sameAll e ds _ ha)
  | .tuple ds, _, h => by
    cases h with
    | tup hs ha => exact .tup (sqT_same e hs) (dp_sameAll e ds _ ha)
  | .dict _, _, h => by cases h
theorem dp_sameAll {H H' : Hp} (e : Same H H') : ∀ (ds : List PyData) (vs : List V), DpAll K H vs ds → DpAll K H' vs ds
  | [], _, h => by cases h; exact .nil
  | d :: ds, _, h => by
    cases h with
    | cons h1 h2 => exact .cons (dp_same e d _ h1) (dp_sameAll e ds _ h2)
end
theorem dpAll_len {H : Hp} : ∀ {vs : List V} {ds : List PyData}, DpAll K H vs ds → vs.length = ds.length
  | [], _, h => by cases h; rfl
  | _ :: vs, _, h => by
    cases h with
    | cons _ h2 => rw [List.length_cons, List.length_cons, dpAll_len h2]
theorem dpAll_get {H : Hp} : ∀ {vs : List V} {ds : List PyData} {i : Nat} {v : V}, DpAll K H vs ds → vs[i]? = some v → ∃ d, ds[i]? = some d ∧ Dp K H v d
  | _, _, 0, _, .cons h1 _, e => by
    cases e
    exact ⟨_, rfl, h1⟩
  | _, _, i + 1, _, .cons _ h2, e => dpAll_get (i := i) h2 (by simpa using e)
  | _, _, i, _, .nil, e => by simp at e
theorem dpAll_append {H : Hp} : ∀ {vs us : List V} {ds es : List PyData}, DpAll K H vs ds → DpAll K H us es → DpAll K H (vs ++ us) (ds ++ es)
  | _, _, _, _, .nil, h => h
  | _, _, _, _, .cons h1 h2, h => .cons h1 (dpAll_append h2 h)
def tyD : PyData → String
  | .none => "NoneType"
  | .bool _ => "bool"
  | .int _ => "int"
  | .str _ => "str"
  | .list _ => "list"
  | .tuple _ => "tuple"
  | .dict _ => "dict"
theorem dp_ty {H : Hp} {v : V} {d : PyData} (h : Dp K H v d) : TyX K H v (.type (tyD d)) := by
  cases h with
  | non => exact .base .non
  | bl b => exact .base (.bl b)
  | int i => exact .base (.int i)
  | str x => exact .base (.str x)
  | lst hs _ =>
    rcases hs with (h | ⟨o, h⟩) | ⟨o, _, _, h, c, _⟩
    · exact .base (.lst h)
    · exact .base (.frz h)
    · exact .kList h c
  | tup hs _ =>
    rcases hs with (h | ⟨o, h⟩) | ⟨o, _, _, h, c, _⟩
    · exact .base (.tup h)
    · exact .fTuple h
    · exact .kTuple h c
def isTy (t T : String) : Bool := t == T || (T == "int" && t == "bool")
def isT (d : PyData) (T : String) : Bool := isTy (tyD d) T
theorem kit_all : ∀ t ∈ ["NoneType", "bool", "int", "str", "list", "tuple", "dict"], ∀ T ∈ ["int", "bool", "str", "tuple", "list"], kitB t T = some (isTy t T) := by decide +kernel
theorem tyD_mem (d : PyData) : tyD d ∈ ["NoneType", "bool", "int", "str", "list", "tuple", "dict"] := by cases d <;> simp [tyD]
theorem kit_d (d : PyData) {T : String} (hT : T = "int" ∨ T = "bool" ∨ T = "str" ∨ T = "tuple" ∨ T = "list") : PySem.W.kitOne K (.type (tyD d)) (.type T) = some (isT d T) :=
  kit_ty (kit_all _ (tyD_mem d) _ (by simpa using hT))

end
/-! ### rules of our own: a list against an empty one -/
section
variable {X : Cx}
theorem op_eqNil (hu : X.A.units < cLine) : OpR X (compareOp .Eq) (fun x y H Q => ∃ a b xs, x = .ref a ∧ y = .ref b ∧ SqL X.K H a xs ∧ SqL X.K H b [] ∧ Q (.bl xs.isEmpty) H) := by
  intro pins s σ H x y v u Q I rx ry h
  obtain ⟨a, b, xs, rfl, rfl, ha, hb, q⟩ := h
  obtain rfl : v = Value.ref a := rx
  obtain rfl : u = Value.ref b := ry
  obtain ⟨its, rv, p, _⟩ := I.list ha
  obtain ⟨its2, rv2, p2, _⟩ := I.list hb
  cases rv2
  cases xs with
  | nil =>
    cases rv
    exact PySem.EqBoolInt.of_rc (SeqAt.RcAt.lists (e := fun _ => true) p.isList p2.isList rfl hu (fun j h1 => absurd h1 (Nat.not_lt_zero j))) ⟨.bl true, H, I, rfl, q⟩
  | cons z zs =>
    cases rv
    exact PySem.EqBoolInt.of_rc (SeqAt.RcAt.lists_lengths p.isList p2.isList (by simp) hu) ⟨.bl false, H, I, rfl, q⟩
theorem op_neNil (hu : X.A.units < cLine) : OpR X (compareOp .NotEq) (fun x y H Q => ∃ a b xs, x = .ref a ∧ y = .ref b ∧ SqL X.K H a xs ∧ SqL X.K H b [] ∧ Q (.bl (!xs.isEmpty)) H) := by
  intro pins s σ H x y v u Q I rx ry h
  obtain ⟨a, b, xs, rfl, rfl, ha, hb, q⟩ := h
  obtain rfl : v = Value.ref a := rx
  obtain rfl : u = Value.ref b := ry
  obtain ⟨its, rv, p, _⟩ := I.list ha
  obtain ⟨its2, rv2, p2, _⟩ := I.list hb
  cases rv2
  cases xs with
  | nil =>
    cases rv
    exact PySem.EqBoolInt.of_rcne (SeqAt.RcNeAt.lists (e := fun _ => true) p.isList p2.isList rfl hu (fun j h1 => absurd h1 (Nat.not_lt_zero j))) ⟨.bl false, H, I, rfl, q⟩
  | cons z zs =>
    cases rv
    exact PySem.EqBoolInt.of_rcne (SeqAt.RcNeAt.lists_lengths p.isList p2.isList (by simp) hu) ⟨.bl true, H, I, rfl, q⟩
end
theorem hu0 {A : Around} {k : Nat} (hr : Room k A) : A.units < cLine := by have := hr.un; omega
section
variable {P : Program} {w : World} {K : PySem.W.Frag} {mg : Str → Option Value} {base : Heap}

/-! ### data that nothing changes -/
mutual
def imm : PyData → Bool
  | .list _ => false
  | .dict _ => false
  | .tuple ds => immAll ds
  | .none => true
  | .bool _ => true
  | .int _ => true
  | .str _ => true
def immAll : List PyData → Bool
  | [] => true
  | d :: ds => imm d && immAll ds
end
/-- tuples, and what is locked -/
def Fix : HO → Prop
  | .tup _ => True
  | .frz _ _ => True
  | _ => False
def Kt (H H' : Hp) : Prop := ∀ a o, H a = some o → Fix o → H' a = some o
theorem Kt.refl (H : Hp) : Kt H H := fun _ _ e _ => e
theorem Kt.trans {H H1 H2 : Hp} (h : Kt H H1) (g : Kt H1 H2) : Kt H H2 := fun a o e f => g a o (h a o e f) f
theorem Kt.same {H H' : Hp} (h : Same H H') : Kt H H' := fun a o e _ => h a o e
theorem Kt.but {H H' : Hp} {b : Addr} {o : HO} (h : But b H H') (hb : H b = some o) (n : ¬ Fix o) : Kt H H' := fun a o' e f => h a o' (fun z => n (by rw [z, hb] at e; cases e; exact f)) e
theorem Kt.upd {H : Hp} {b : Addr} {o o' : HO} (hb : H b = some o) (n : ¬ Fix o) : Kt H (upd H b o') := fun a o2 e f => by
  rw [upd_ne (fun z => n (by rw [z, hb] at e; cases e; exact f))]
  exact e
theorem Kt.bag {H H' : Hp} {b : Addr} (h : But b H H') (g : Bag H b) : Kt H H' := by
  obtain ⟨x, y, e, _⟩ := g
  exact Kt.but h e (fun z => z)
theorem sqT_kt {H H' : Hp} {a : Addr} {xs : List V} (e : Kt H H') (h : SqT K H a xs) : SqT K H' a xs := by
  rcases h with (h | ⟨o, h⟩) | h
  · exact .inl (.inl (e _ _ h trivial))
  · exact .inl (.inr ⟨o, e _ _ h trivial⟩)
  · exact .inr h
mutual
theorem dp_kt {H H' : Hp} (e : Kt H H') : ∀ (d : PyData) (v : V), imm d = true → Dp K H v d → Dp K H' v d
  | .none, _, _, h => by cases h; exact .non
  | .bool b, _, _, h => by cases h; exact .bl b
  | .int i, _, _, h => by cases h; exact .int i
  | .str x, _, _, h => by cases h; exact .str x
  | .list ds, _, i, h => by simp [imm] at i
  | .tuple ds, _, i, h => by
    cases h with
    | tup hs ha => exact .tup (sqT_kt e hs) (dp_ktAll e ds _ (by simpa [imm] using i) ha)
  | .dict _, _, _, h => by cases h
theorem dp_ktAll {H H' : Hp} (e : Kt H H') : ∀ (ds : List PyData) (vs : List V), immAll ds = true → DpAll K H vs ds → DpAll K H' vs ds
  | [], _, _, h => by cases h; exact .nil
  | d :: ds, _, i, h => by
    cases h with
    | cons h1 h2 =>
      have i2 : imm d = true ∧ immAll ds = true := by simpa [immAll] using i
      exact .cons (dp_kt e d _ i2.1 h1) (dp_ktAll e ds _ i2.2 h2)
end
theorem immAll_iff : ∀ {ds : List PyData}, immAll ds = true ↔ ∀ d ∈ ds, imm d = true
  | [] => by simp [immAll]
  | d :: ds => by simp [immAll, immAll_iff (ds := ds)]
theorem dpAll_getD {H : Hp} {vs : List V} {ds : List PyData} {i : Nat} {d : PyData} (h : DpAll K H vs ds) (e : ds[i]? = some d) : ∃ v, vs[i]? = some v ∧ Dp K H v d := by
  have hl := dpAll_len h
  have hi : i < vs.length := by
    rw [hl]
    exact (List.getElem?_eq_some_iff.mp e).1
  obtain ⟨d', e', p⟩ := dpAll_get h (List.getElem?_eq_getElem hi)
  rw [e] at e'
  cases e'
  exact ⟨_, List.getElem?_eq_getElem hi, p⟩
theorem dp_list {H : Hp} {v : V} {ds : List PyData} (h : Dp K H v (.list ds)) : ∃ a vs, v = .ref a ∧ SqL K H a vs ∧ DpAll K H vs ds := by
  cases h with
  | lst hs ha => exact ⟨_, _, rfl, hs, ha⟩
theorem dp_tuple {H : Hp} {v : V} {ds : List PyData} (h : Dp K H v (.tuple ds)) : ∃ a vs, v = .ref a ∧ SqT K H a vs ∧ DpAll K H vs ds := by
  cases h with
  | tup hs ha => exact ⟨_, _, rfl, hs, ha⟩
theorem take_fm {α β : Type} (f : α → Option β) (ds : List α) (i : Nat) (d : α) (h : ds[i]? = some d) : (ds.take (i + 1)).filterMap f = (ds.take i).filterMap f ++ (f d).toList := by
  rw [List.take_add_one, h, List.filterMap_append]
  cases e : f d <;> simp [e]
theorem fm_take_le {α β : Type} (f : α → Option β) (ds : List α) (i : Nat) : ((ds.take i).filterMap f).length ≤ i :=
  Nat.le_trans (List.length_filterMap_le _ _) (by rw [List.length_take]; exact Nat.min_le_left _ _)
/-- a list made of a list of data, by a function of it -/
theorem lc_ty {α β : Type} {a D : Addr} {vs : List V} {xs : List α} {H1 : Hp} {σ : L2.St} {g : TG} {tt : TT} {te : TE} {ws : List Nat} {Qd : Hp → Prop} (ea : α → PyData) (eb : β → PyData) (f : α → Option β)
    (hS : SqL K H1 a vs) (hA : DpAll K H1 vs (xs.map ea)) (hn : H1 D = none) (hlen : xs.length ≤ 1000000) (him : ∀ y, imm (eb y) = true)
    (step : ∀ (i : Nat) (v : V) (x : α) (H : Hp) (k : V → Hp → Prop) (kf : Hp → Prop), xs[i]? = some x → Same H1 H → Dp K H v (ea x) → (∀ y, f x = some y → ∀ v' H4, Same H H4 → Dp K H4 v' (eb y) → k v' H4) → (f x = none → ∀ H3, Same H H3 → kf H3) →
      g v (wipe σ ws) H fun σ2 H2 => wipe σ2 ws = wipe σ ws ∧ tt σ2 H2 fun b H3 => if b = true then te σ2 H3 k else kf H3)
    (hd : ∀ H ys, Same H1 H → H D = some (.lst ys) → DpAll K H ys ((xs.filterMap f).map eb) → Qd H) :
    ∃ W : Nat → Nat → Hp → Prop, (∃ m, W 0 m (upd H1 D (.lst []))) ∧ ∀ i m H, W i m H →
      ((Itl K a).stop i H ∧ Qd H) ∨ ((Itl K a).go i H ∧ ∃ Nx : Hp → Prop, (∀ H', Nx H' → ∃ m', m' < m ∧ W (i + 1) m' H') ∧ ∀ x H', (Itl K a).yld i H x H' → g x (wipe σ ws) H' fun σ2 H2 => wipe σ2 ws = wipe σ ws ∧ tt σ2 H2 fun b H3 =>
        if b = true then te σ2 H3 fun y H4 => ∃ acc, H4 D = some (.lst acc) ∧ acc.length < sizeLine ∧ Nx (upd H4 D (.lst (acc ++ [y]))) else Nx H3) := by
  have hl := dpAll_len hA
  rw [List.length_map] at hl
  have imA : ∀ zs : List β, immAll (zs.map eb) = true := fun zs => immAll_iff.mpr fun e he => by
    obtain ⟨y, _, rfl⟩ := List.mem_map.mp he
    exact him y
  refine lc_it (walk_list (K := K) (a := a) (xs := vs)) (fun i H => Same H1 H ∧ ∃ acc, H D = some (.lst acc) ∧ DpAll K H acc (((xs.take i).filterMap f).map eb)) ⟨same_upd hn, [], upd_same, .nil⟩ (fun i H _ z => z.1.seq hS) ?_ ?_
  · rintro i v H H' hi ⟨s1, acc, hD, hacc⟩ ⟨rfl, hv⟩
    obtain ⟨d, ed, pd⟩ := dpAll_get hA hv
    rw [List.getElem?_map] at ed
    obtain ⟨x, ex, rfl⟩ := Option.map_eq_some_iff.mp ed
    refine step i v x H' _ _ ex s1 (dp_same s1 _ _ pd) ?_ ?_
    · intro e fe y H4 s4 py
      have hD4 := s4 _ _ hD
      have kt : Kt H' (upd H4 D (.lst (acc ++ [y]))) := (Kt.same s4).trans (Kt.upd hD4 (fun z => z))
      refine ⟨acc, hD4, ?_, ?_, acc ++ [y], upd_same, ?_⟩
      · have := dpAll_len hacc
        rw [List.length_map] at this
        have h2 := fm_take_le f xs i
        rw [sizeLine_eq]
        omega
      · intro c o ec
        rw [upd_ne (ne_of_none ec hn)]
        exact s4 _ _ (s1 _ _ ec)
      · rw [take_fm f xs i x ex, fe, List.map_append]
        exact dpAll_append (dp_ktAll kt _ _ (imA _) hacc) (.cons (dp_kt (Kt.upd hD4 (fun z => z)) _ _ (him e) py) .nil)
    · intro fe H3 s3
      refine ⟨s1.trans s3, acc, s3 _ _ hD, ?_⟩
      rw [take_fm f xs i x ex, fe]
      have := dp_sameAll s3 _ _ hacc
      simpa using this
  · rintro H ⟨s1, acc, hD, hacc⟩
    refine hd H acc s1 hD ?_
    rw [hl, List.take_of_length_le (Nat.le_refl _)] at hacc
    exact hacc
/-- the same, with no test -/
theorem lc_map {α β : Type} {a D : Addr} {vs : List V} {xs : List α} {H1 : Hp} {σ : L2.St} {g : TG} {te : TE} {ws : List Nat} {Qd : Hp → Prop} (ea : α → PyData) (eb : β → PyData) (f : α → β)
    (hS : SqL K H1 a vs) (hA : DpAll K H1 vs (xs.map ea)) (hn : H1 D = none) (hlen : xs.length ≤ 1000000) (him : ∀ y, imm (eb y) = true)
    (step : ∀ (i : Nat) (v : V) (x : α) (H : Hp) (k : V → Hp → Prop), xs[i]? = some x → Same H1 H → Dp K H v (ea x) → (∀ v' H4, Same H H4 → Dp K H4 v' (eb (f x)) → k v' H4) →
      g v (wipe σ ws) H fun σ2 H2 => wipe σ2 ws = wipe σ ws ∧ te σ2 H2 k)
    (hd : ∀ H ys, Same H1 H → H D = some (.lst ys) → DpAll K H ys ((xs.map f).map eb) → Qd H) :
    ∃ W : Nat → Nat → Hp → Prop, (∃ m, W 0 m (upd H1 D (.lst []))) ∧ ∀ i m H, W i m H →
      ((Itl K a).stop i H ∧ Qd H) ∨ ((Itl K a).go i H ∧ ∃ Nx : Hp → Prop, (∀ H', Nx H' → ∃ m', m' < m ∧ W (i + 1) m' H') ∧ ∀ x H', (Itl K a).yld i H x H' → g x (wipe σ ws) H' fun σ2 H2 => wipe σ2 ws = wipe σ ws ∧ tYes σ2 H2 fun b H3 =>
        if b = true then te σ2 H3 fun y H4 => ∃ acc, H4 D = some (.lst acc) ∧ acc.length < sizeLine ∧ Nx (upd H4 D (.lst (acc ++ [y]))) else Nx H3) := by
  refine lc_ty (tt := tYes) ea eb (fun x => some (f x)) hS hA hn hlen him (fun i v x H k kf ex s1 px hk _ => ?_) (fun H ys s1 hD hy => hd H ys s1 hD ?_)
  · have := step i v x H k ex s1 px (fun v' H4 s4 p4 => hk _ rfl v' H4 s4 p4)
    simpa only [tYes, if_true] using this
  · rw [List.filterMap_eq_map'] at hy
    exact hy
/-- a dict made by a walk -/
theorem dc_it {J : It} {n : Nat} {G : Hp → Prop} {Y : Nat → Hp → V → Hp → Prop} (w : Walk J n G Y) {g : TG} {tt : TT} {tk tv : TE} {vs : List Nat} {σ : L2.St} {H1 : Hp} {D : Addr} {Qd : Hp → Prop} (Pv : Nat → Hp → Prop) (h0 : Pv 0 (upd H1 D (.dK []))) (hG : ∀ i H, i ≤ n → Pv i H → G H)
    (hs : ∀ i x H H', i < n → Pv i H → Y i H x H' → g x (wipe σ vs) H' fun σ2 H2 => wipe σ2 vs = wipe σ vs ∧ tt σ2 H2 fun b H3 =>
      if b = true then tk σ2 H3 fun y H4 => tv σ2 H4 fun z H5 => ∃ kvs k, y = kV k ∧ H5 D = some (.dK kvs) ∧ kvs.length < sizeLine ∧ Pv (i + 1) (upd H5 D (.dK (putK kvs k z))) else Pv (i + 1) H3) (hd : ∀ H, Pv n H → Qd H) :
    ∃ W : Nat → Nat → Hp → Prop, (∃ m, W 0 m (upd H1 D (.dK []))) ∧ ∀ i m H, W i m H →
      (J.stop i H ∧ Qd H) ∨ (J.go i H ∧ ∃ Nx : Hp → Prop, (∀ H', Nx H' → ∃ m', m' < m ∧ W (i + 1) m' H') ∧ ∀ x H', J.yld i H x H' → g x (wipe σ vs) H' fun σ2 H2 => wipe σ2 vs = wipe σ vs ∧ tt σ2 H2 fun b H3 =>
        if b = true then tk σ2 H3 fun y H4 => tv σ2 H4 fun z H5 => ∃ kvs k, y = kV k ∧ H5 D = some (.dK kvs) ∧ kvs.length < sizeLine ∧ Nx (upd H5 D (.dK (putK kvs k z))) else Nx H3) := by
  refine ⟨fun i m H => m = n - i ∧ i ≤ n ∧ Pv i H, ⟨n, by simp, Nat.zero_le _, h0⟩, ?_⟩
  rintro i m H ⟨rfl, hi, p⟩
  have gh := hG i H hi p
  by_cases lt : i < n
  · exact .inr ⟨w.goes i H lt gh, Pv (i + 1), fun H' p' => ⟨n - (i + 1), by omega, rfl, lt, p'⟩, fun x H' y => hs i x H H' lt p (w.yields i H x H' lt gh y)⟩
  · obtain rfl : i = n := by omega
    exact .inl ⟨w.stops H gh, hd H p⟩

theorem hu65 {A : Around} {k : Nat} (hr : Room k A) : A.units + 65 < cLine := by
  have := hr.un
  omega

/-! ### mirrors: values, the store, results -/
inductive A where
  | non | bl (b : Bool) | int (i : Int) | str (x : Str) | tup (xs : List A) | lit (xs : List A) | ref (n : Nat) | adr (a : Addr) | ty (n : String)
inductive AO where
  | lst (xs : List A) | dK (kvs : List (Key × A)) | dT (kvs : List (List Key × A)) | set (ns : List Int) | ins (C : Addr) (fs : List (Str × A)) | xd (fs : List (Str × A))
abbrev Sto := List AO
abbrev AEnv := List (Option A)
inductive Res (α : Type) where
  | ok (a : α) (s : Sto) | ex (c : Addr) (d : Option Nat) (s : Sto) | no
def Res.bind {α β : Type} (r : Res α) (k : α → Sto → Res β) : Res β := match r with
  | .ok a s => k a s
  | .ex c d s => .ex c d s
  | .no => .no
inductive Fl where
  | nx (e : AEnv) | rt (a : A) | bk (e : AEnv) | ct (e : AEnv)
inductive RF where
  | fl (f : Fl) (s : Sto) | ex (c : Addr) (d : Option Nat) (e : AEnv) (s : Sto) | no
/-- a result's use in a statement -/
def Res.thenS {α : Type} (r : Res α) (e : AEnv) (k : α → Sto → RF) : RF := match r with
  | .ok a s => k a s
  | .ex c d s => .ex c d e s
  | .no => .no
def RF.next (r : RF) (k : AEnv → Sto → RF) : RF := match r with
  | .fl (.nx e) s => k e s
  | r => r
def lift {α : Type} (o : Option α) (s : Sto) : Res α := match o with
  | some a => .ok a s
  | none => .no
/-! ### how the mirror stands to the heap -/
mutual
inductive Rv (K : PySem.W.Frag) (H : Hp) (ρ : List Addr) : V → A → Prop where
  | non : Rv K H ρ .non .non
  | bl (b : Bool) : Rv K H ρ (.bl b) (.bl b)
  | int (i : Int) : Rv K H ρ (.int i) (.int i)
  | str (x : Str) : Rv K H ρ (.str x) (.str x)
  | tup {p : Addr} {vs : List V} {xs : List A} : SqT K H p vs → Rvs K H ρ vs xs → Rv K H ρ (.ref p) (.tup xs)
  | lit {p : Addr} {vs : List V} {xs : List A} : ((∃ o, H p = some (.frz o (.lst vs))) ∨ SqL K (fun _ => none) p vs) → Rvs K H ρ vs xs → Rv K H ρ (.ref p) (.lit xs)
  | ref {n : Nat} {a : Addr} : ρ[n]? = some a → Rv K H ρ (.ref a) (.ref n)
  | adr (a : Addr) : Rv K H ρ (.ref a) (.adr a)
  | ty (n : String) : Rv K H ρ (.ty n) (.ty n)
inductive Rvs (K : PySem.W.Frag) (H : Hp) (ρ : List Addr) : List V → List A → Prop where
  | nil : Rvs K H ρ [] []
  | cons {v : V} {a : A} {vs : List V} {xs : List A} : Rv K H ρ v a → Rvs K H ρ vs xs → Rvs K H ρ (v :: vs) (a :: xs)
end
theorem lit_sq {H : Hp} {p : Addr} {vs : List V} (h : (∃ o, H p = some (.frz o (.lst vs))) ∨ SqL K (fun _ => none) p vs) : SqL K H p vs := by
  rcases h with ⟨o, h⟩ | (h | ⟨o, h⟩) | h
  · exact .inl (.inr ⟨o, h⟩)
  · cases h
  · cases h
  · exact .inr h
structure Ext (ρ ρ' : List Addr) (H H' : Hp) : Prop where
  pre : ∃ l, ρ' = ρ ++ l
  kt : Kt H H'
theorem Ext.refl (ρ : List Addr) (H : Hp) : Ext ρ ρ H H := ⟨⟨[], by simp⟩, Kt.refl H⟩
theorem Ext.trans {ρ ρ1 ρ2 : List Addr} {H H1 H2 : Hp} (a : Ext ρ ρ1 H H1) (b : Ext ρ1 ρ2 H1 H2) : Ext ρ ρ2 H H2 := by
  obtain ⟨⟨l, rfl⟩, k⟩ := a
  obtain ⟨⟨m, rfl⟩, k2⟩ := b
  exact ⟨⟨l ++ m, by simp⟩, k.trans k2⟩
theorem Ext.get {ρ ρ' : List Addr} {H H' : Hp} (e : Ext ρ ρ' H H') {n : Nat} {a : Addr} (h : ρ[n]? = some a) : ρ'[n]? = some a := by
  obtain ⟨⟨l, rfl⟩, _⟩ := e
  have hn := (List.getElem?_eq_some_iff.mp h).1
  rw [List.getElem?_append_left hn]
  exact h
theorem Ext.same {ρ : List Addr} {H H' : Hp} (s : Same H H') : Ext ρ ρ H H' := ⟨⟨[], by simp⟩, Kt.same s⟩
mutual
theorem rv_ext {ρ ρ' : List Addr} {H H' : Hp} (e : Ext ρ ρ' H H') : ∀ {v : V} {a : A}, Rv K H ρ v a → Rv K H' ρ' v a
  | _, _, .non => .non
  | _, _, .bl b => .bl b
  | _, _, .int i => .int i
  | _, _, .str x => .str x
  | _, _, .tup h hs => .tup (sqT_kt e.kt h) (rvs_ext e hs)
  | _, _, .lit h hs => .lit (h.imp (fun ⟨o, h⟩ => ⟨o, e.kt _ _ h trivial⟩) id) (rvs_ext e hs)
  | _, _, .ref h => .ref (e.get h)
  | _, _, .adr a => .adr a
  | _, _, .ty a => .ty a
theorem rvs_ext {ρ ρ' : List Addr} {H H' : Hp} (e : Ext ρ ρ' H H') : ∀ {vs : List V} {xs : List A}, Rvs K H ρ vs xs → Rvs K H' ρ' vs xs
  | _, _, .nil => .nil
  | _, _, .cons h hs => .cons (rv_ext e h) (rvs_ext e hs)
end
section
variable {H : Hp} {ρ : List Addr}
theorem Rvs.length : ∀ {vs : List V} {xs : List A}, Rvs K H ρ vs xs → vs.length = xs.length
  | _, _, .nil => rfl
  | _, _, .cons _ hs => by rw [List.length_cons, List.length_cons, Rvs.length hs]
theorem Rvs.get : ∀ {vs : List V} {xs : List A} {i : Nat} {a : A}, Rvs K H ρ vs xs → xs[i]? = some a → ∃ v, vs[i]? = some v ∧ Rv K H ρ v a
  | _, _, 0, _, .cons h _, e => by cases e; exact ⟨_, rfl, h⟩
  | _, _, i + 1, _, .cons _ hs, e => by
    obtain ⟨v, e1, e2⟩ := Rvs.get (i := i) hs (by simpa using e)
    exact ⟨v, by simpa using e1, e2⟩
  | _, _, i, _, .nil, e => by simp at e
theorem Rvs.getV : ∀ {vs : List V} {xs : List A} {i : Nat} {v : V}, Rvs K H ρ vs xs → vs[i]? = some v → ∃ a, xs[i]? = some a ∧ Rv K H ρ v a
  | _, _, 0, _, .cons h _, e => by cases e; exact ⟨_, rfl, h⟩
  | _, _, i + 1, _, .cons _ hs, e => by
    obtain ⟨v, e1, e2⟩ := Rvs.getV (i := i) hs (by simpa using e)
    exact ⟨v, by simpa using e1, e2⟩
  | _, _, i, _, .nil, e => by simp at e
theorem Rvs.append : ∀ {vs us : List V} {xs ys : List A}, Rvs K H ρ vs xs → Rvs K H ρ us ys → Rvs K H ρ (vs ++ us) (xs ++ ys)
  | _, _, _, _, .nil, h => h
  | _, _, _, _, .cons h hs, g => .cons h (Rvs.append hs g)
theorem Rvs.take : ∀ {vs : List V} {xs : List A} (n : Nat), Rvs K H ρ vs xs → Rvs K H ρ (vs.take n) (xs.take n)
  | _, _, 0, _ => by rw [List.take_zero, List.take_zero]; exact .nil
  | _, _, n + 1, .nil => by rw [List.take_nil, List.take_nil]; exact .nil
  | _, _, n + 1, .cons h hs => .cons h (Rvs.take n hs)
theorem Rvs.drop : ∀ {vs : List V} {xs : List A} (n : Nat), Rvs K H ρ vs xs → Rvs K H ρ (vs.drop n) (xs.drop n)
  | _, _, 0, h => h
  | _, _, n + 1, .nil => by rw [List.drop_nil, List.drop_nil]; exact .nil
  | _, _, n + 1, .cons _ hs => Rvs.drop n hs
theorem Rvs.set {v : V} {a : A} (r : Rv K H ρ v a) : ∀ {vs : List V} {xs : List A} (n : Nat), Rvs K H ρ vs xs → Rvs K H ρ (vs.set n v) (xs.set n a)
  | _, _, _, .nil => .nil
  | _, _, 0, .cons _ hs => .cons r hs
  | _, _, n + 1, .cons h hs => .cons h (Rvs.set r n hs)
theorem Rvs.erase : ∀ {vs : List V} {xs : List A} (n : Nat), Rvs K H ρ vs xs → Rvs K H ρ (vs.eraseIdx n) (xs.eraseIdx n)
  | _, _, _, .nil => .nil
  | _, _, 0, .cons _ hs => hs
  | _, _, n + 1, .cons h hs => .cons h (Rvs.erase n hs)
theorem Rvs.ints : ∀ (ns : List Int), Rvs K H ρ (ns.map V.int) (ns.map A.int)
  | [] => .nil
  | n :: ns => .cons (.int n) (Rvs.ints ns)
theorem Rvs.of_ints : ∀ {ns : List Int} {vs : List V}, Rvs K H ρ vs (ns.map A.int) → vs = ns.map V.int
  | [], _, h => by cases h; rfl
  | n :: ns, _, h => by
    cases h with
    | cons h1 h2 =>
      cases h1
      rw [Rvs.of_ints h2]
      rfl
theorem Rvs.strs : ∀ (ns : List Str), Rvs K H ρ (ns.map V.str) (ns.map A.str)
  | [] => .nil
  | n :: ns => .cons (.str n) (Rvs.strs ns)
theorem Rvs.of_strs : ∀ {ns : List Str} {vs : List V}, Rvs K H ρ vs (ns.map A.str) → vs = ns.map V.str
  | [], _, h => by cases h; rfl
  | n :: ns, _, h => by
    cases h with
    | cons h1 h2 =>
      cases h1
      rw [Rvs.of_strs h2]
      rfl
end
def Rkv {κ : Type} (K : PySem.W.Frag) (H : Hp) (ρ : List Addr) : List (κ × V) → List (κ × A) → Prop := Paired fun p q => p.1 = q.1 ∧ Rv K H ρ p.2 q.2
def Ro (K : PySem.W.Frag) (w : World) (H : Hp) (ρ : List Addr) (a : Addr) : AO → Prop
  | .lst xs => ∃ vs, H a = some (.lst vs) ∧ Rvs K H ρ vs xs
  | .dK kvs => ∃ kv, H a = some (.dK kv) ∧ Rkv K H ρ kv kvs
  | .dT kvs => ∃ kv, H a = some (.dT kv) ∧ Rkv K H ρ kv kvs
  | .set ns => ns.Nodup ∧ H a = some (SetO w a (fun j => decide (j ∈ ns)) ns.length)
  | .ins C fs => ∃ dx fv, H a = some (.ins C dx fv) ∧ Rkv K H ρ fv fs
  | .xd fs => ∃ fv, H a = some (.xd fv) ∧ Rkv K H ρ fv fs
structure Rel (K : PySem.W.Frag) (w : World) (ρ : List Addr) (H : Hp) (st : Sto) : Prop where
  len : ρ.length = st.length
  nd : ρ.Nodup
  obj : ∀ (n : Nat) (a : Addr) (o : AO), ρ[n]? = some a → st[n]? = some o → Ro K w H ρ a o
theorem Ro.here {w : World} {H : Hp} {ρ : List Addr} {a : Addr} {o : AO} (h : Ro K w H ρ a o) : ∃ u, H a = some u ∧ ¬ Fix u := by
  cases o with
  | lst xs => obtain ⟨_, h, _⟩ := h; exact ⟨_, h, fun z => z⟩
  | dK xs => obtain ⟨_, h, _⟩ := h; exact ⟨_, h, fun z => z⟩
  | dT xs => obtain ⟨_, h, _⟩ := h; exact ⟨_, h, fun z => z⟩
  | set ns => exact ⟨_, h.2, fun z => z⟩
  | ins C fs => obtain ⟨_, _, h, _⟩ := h; exact ⟨_, h, fun z => z⟩
  | xd fs => obtain ⟨_, h, _⟩ := h; exact ⟨_, h, fun z => z⟩
theorem rkv_ext {κ : Type} {ρ ρ' : List Addr} {H H' : Hp} (e : Ext ρ ρ' H H') {kv : List (κ × V)} {kvs : List (κ × A)} (h : Rkv K H ρ kv kvs) : Rkv K H' ρ' kv kvs := Paired.mapP h fun _ _ z => ⟨z.1, rv_ext e z.2⟩
/-- an object that stands as it was -/
theorem Ro.ext {w : World} {ρ ρ' : List Addr} {H H' : Hp} (e : Ext ρ ρ' H H') {a : Addr} {o : AO} (h : Ro K w H ρ a o) (s : ∀ u, H a = some u → H' a = some u) : Ro K w H' ρ' a o := by
  cases o with
  | lst xs => obtain ⟨_, h, r⟩ := h; exact ⟨_, s _ h, rvs_ext e r⟩
  | dK xs => obtain ⟨_, h, r⟩ := h; exact ⟨_, s _ h, rkv_ext e r⟩
  | dT xs => obtain ⟨_, h, r⟩ := h; exact ⟨_, s _ h, rkv_ext e r⟩
  | set ns => exact ⟨h.1, s _ h.2⟩
  | ins C fs => obtain ⟨_, _, h, r⟩ := h; exact ⟨_, _, s _ h, rkv_ext e r⟩
  | xd fs => obtain ⟨_, h, r⟩ := h; exact ⟨_, s _ h, rkv_ext e r⟩
section
variable {w : World} {ρ : List Addr} {H : Hp} {st : Sto}
theorem Rel.at (r : Rel K w ρ H st) {n : Nat} {o : AO} (e : st[n]? = some o) : ∃ a, ρ[n]? = some a ∧ Ro K w H ρ a o := by
  have hn := (List.getElem?_eq_some_iff.mp e).1
  have hn' : n < ρ.length := by rw [r.len]; exact hn
  exact ⟨ρ[n], List.getElem?_eq_getElem hn', r.obj n _ o (List.getElem?_eq_getElem hn') e⟩
theorem Rel.get (r : Rel K w ρ H st) {n : Nat} {a : Addr} {o : AO} (h : ρ[n]? = some a) (e : st[n]? = some o) : Ro K w H ρ a o := r.obj n a o h e
theorem Rel.is (r : Rel K w ρ H st) {n : Nat} {a : Addr} (h : ρ[n]? = some a) : ∃ u, H a = some u ∧ ¬ Fix u := by
  have hn := (List.getElem?_eq_some_iff.mp h).1
  have hn' : n < st.length := by rw [← r.len]; exact hn
  exact (r.obj n a _ h (List.getElem?_eq_getElem hn')).here
theorem Rel.fresh (r : Rel K w ρ H st) {p : Addr} (np : H p = none) : p ∉ ρ := fun hp => by
  obtain ⟨n, hn⟩ := List.mem_iff_getElem?.mp hp
  obtain ⟨u, hu, _⟩ := r.is hn
  rw [np] at hu
  cases hu
/-- a heap that grew -/
theorem Rel.same (r : Rel K w ρ H st) {H' : Hp} (s : Same H H') : Rel K w ρ H' st :=
  ⟨r.len, r.nd, fun n a o h e => (r.obj n a o h e).ext (Ext.same s) fun u hu => s _ _ hu⟩
theorem inj_at (nd : ρ.Nodup) {n m : Nat} {a : Addr} (h : ρ[n]? = some a) (g : ρ[m]? = some a) : n = m :=
  (List.getElem?_inj (List.getElem?_eq_some_iff.mp h).1 nd).mp (by rw [h, g])
/-- an object is changed -/
theorem Rel.put (r : Rel K w ρ H st) {n : Nat} {a : Addr} {o : AO} {u : HO} (h : ρ[n]? = some a) (new : ∀ H', Ext ρ ρ H H' → H' a = some u → Ro K w H' ρ a o) : Ext ρ ρ H (upd H a u) ∧ Rel K w ρ (upd H a u) (st.set n o) := by
  obtain ⟨u0, hu, nf⟩ := r.is h
  have e : Ext ρ ρ H (upd H a u) := ⟨⟨[], by simp⟩, Kt.upd hu nf⟩
  refine ⟨e, ⟨by rw [List.length_set]; exact r.len, r.nd, fun m b o' hb e' => ?_⟩⟩
  by_cases hm : m = n
  · subst hm
    rw [h] at hb
    cases hb
    have hl : m < st.length := by
      have := (List.getElem?_eq_some_iff.mp e').1
      simpa using this
    rw [List.getElem?_set_self hl] at e'
    cases e'
    exact new _ e upd_same
  · rw [List.getElem?_set_ne (fun z => hm z.symm)] at e'
    have nb : b ≠ a := fun z => by
      subst z
      exact hm (inj_at r.nd hb h)
    exact (r.obj m b o' hb e').ext e fun u hu => by rw [upd_ne nb]; exact hu
/-- an object is new -/
theorem Rel.new (r : Rel K w ρ H st) {p : Addr} {o : AO} {u : HO} (np : H p = none) (new : ∀ H', Ext ρ (ρ ++ [p]) H H' → H' p = some u → Ro K w H' (ρ ++ [p]) p o) : Ext ρ (ρ ++ [p]) H (upd H p u) ∧ Rel K w (ρ ++ [p]) (upd H p u) (st ++ [o]) := by
  have e : Ext ρ (ρ ++ [p]) H (upd H p u) := ⟨⟨[p], rfl⟩, Kt.same (same_upd np)⟩
  refine ⟨e, ⟨by rw [List.length_append, List.length_append, r.len]; rfl, ?_, fun m b o' hb e' => ?_⟩⟩
  · refine List.nodup_append.mpr ⟨r.nd, by simp, fun x hx y hy z => ?_⟩
    rw [List.mem_singleton.mp hy] at z
    exact r.fresh np (z ▸ hx)
  · by_cases hm : m < st.length
    · rw [List.getElem?_append_left hm] at e'
      rw [List.getElem?_append_left (by rw [r.len]; exact hm)] at hb
      exact (r.obj m b o' hb e').ext e fun u hu => by rw [upd_ne (ne_of_none hu np)]; exact hu
    · have e2 : m = st.length := by
        have := (List.getElem?_eq_some_iff.mp e').1
        rw [List.length_append, List.length_singleton] at this
        omega
      subst e2
      rw [List.getElem?_append_right (Nat.le_refl _), Nat.sub_self] at e'
      rw [← r.len, List.getElem?_append_right (Nat.le_refl _), Nat.sub_self] at hb
      cases e'
      cases hb
      exact new _ e upd_same
theorem Rel.last (r : Rel K w ρ H st) (p : Addr) : (ρ ++ [p])[st.length]? = some p := by
  rw [← r.len, List.getElem?_append_right (Nat.le_refl _), Nat.sub_self]
  rfl
end
/-- the slots -/
structure Renv (K : PySem.W.Frag) (H : Hp) (ρ : List Addr) (σ : L2.St) (env : AEnv) : Prop where
  len : σ.length = env.length
  val : ∀ (i : Nat) (a : A), env[i]? = some (some a) → ∃ v, σ[i]? = some (some v) ∧ Rv K H ρ v a
theorem Renv.ext {ρ ρ' : List Addr} {H H' : Hp} {σ : L2.St} {env : AEnv} (r : Renv K H ρ σ env) (e : Ext ρ ρ' H H') : Renv K H' ρ' σ env :=
  ⟨r.len, fun i a h => by obtain ⟨v, e1, e2⟩ := r.val i a h; exact ⟨v, e1, rv_ext e e2⟩⟩
theorem Renv.set {ρ : List Addr} {H : Hp} {σ : L2.St} {env : AEnv} (r : Renv K H ρ σ env) (i : Nat) {v : V} {a : A} (h : Rv K H ρ v a) : Renv K H ρ (σ.set i (some v)) (env.set i (some a)) := by
  refine ⟨by rw [List.length_set, List.length_set]; exact r.len, fun j b e => ?_⟩
  by_cases hj : j = i
  · subst hj
    have hl : j < env.length := by
      have := (List.getElem?_eq_some_iff.mp e).1
      simpa using this
    rw [List.getElem?_set_self hl] at e
    cases e
    exact ⟨v, by rw [List.getElem?_set_self (by rw [r.len]; exact hl)], h⟩
  · rw [List.getElem?_set_ne (fun z => hj z.symm)] at e
    obtain ⟨u, e1, e2⟩ := r.val j b e
    exact ⟨u, by rw [List.getElem?_set_ne (fun z => hj z.symm)]; exact e1, e2⟩
def wipeA (env : AEnv) : List Nat → AEnv
  | [] => env
  | v :: vs => (wipeA env vs).set v none
theorem Renv.off {ρ : List Addr} {H : Hp} {σ : L2.St} {env : AEnv} (r : Renv K H ρ σ env) (i : Nat) : Renv K H ρ (σ.set i none) (env.set i none) := by
  refine ⟨by rw [List.length_set, List.length_set]; exact r.len, fun j b e => ?_⟩
  by_cases hj : j = i
  · subst hj
    have hl : j < env.length := by
      have := (List.getElem?_eq_some_iff.mp e).1
      simpa using this
    rw [List.getElem?_set_self hl] at e
    cases e
  · rw [List.getElem?_set_ne (fun z => hj z.symm)] at e
    obtain ⟨u, e1, e2⟩ := r.val j b e
    exact ⟨u, by rw [List.getElem?_set_ne (fun z => hj z.symm)]; exact e1, e2⟩
theorem Renv.wipe {ρ : List Addr} {H : Hp} {σ : L2.St} {env : AEnv} (r : Renv K H ρ σ env) : ∀ vs : List Nat, Renv K H ρ (L2.wipe σ vs) (wipeA env vs)
  | [] => r
  | v :: vs => (Renv.wipe r vs).off v
/-! ### what is wanted of a result -/
abbrev WishX := Value → Option Addr → L2.St → Hp → Prop
def RD (ρ : List Addr) : Option Nat → Option Addr → Prop
  | none, none => True
  | some n, some a => ρ[n]? = some a
  | _, _ => False
def Post {α : Type} (K : PySem.W.Frag) (w : World) (ρ : List Addr) (H : Hp) (r : Res α) (R : α → Sto → List Addr → Hp → Prop) (X : Value → Option Addr → Hp → Prop) : Prop := match r with
  | .ok a st => ∀ ρ' H', Ext ρ ρ' H H' → Rel K w ρ' H' st → R a st ρ' H'
  | .ex c d st => ∀ ρ' H' dx, Ext ρ ρ' H H' → Rel K w ρ' H' st → RD ρ' d dx → X (.ref c) dx H'
  | .no => False
theorem Post.ext {α : Type} {w : World} {ρ ρ1 : List Addr} {H H1 : Hp} {r : Res α} {R : α → Sto → List Addr → Hp → Prop} {X : Value → Option Addr → Hp → Prop} (p : Post K w ρ H r R X) (e : Ext ρ ρ1 H H1) : Post K w ρ1 H1 r R X := by
  cases r with
  | ok a st => exact fun ρ' H' e' r' => p ρ' H' (e.trans e') r'
  | ex c d st => exact fun ρ' H' dx e' r' => p ρ' H' dx (e.trans e') r'
  | no => exact p
abbrev ME := AEnv → Sto → Res A
abbrev MT := AEnv → Sto → Res Bool
abbrev MA := AEnv → Sto → Res (List A)
def RE (K : PySem.W.Frag) (w : World) (W : WishX) (t : TE) (f : ME) : Prop := ∀ ρ H st σ env Q, Rel K w ρ H st → Renv K H ρ σ env → Post K w ρ H (f env st) (fun a _ ρ' H' => ∀ v, Rv K H' ρ' v a → Q v H') (W · · σ ·) → t σ H Q
def RT (K : PySem.W.Frag) (w : World) (W : WishX) (t : TT) (f : MT) : Prop := ∀ ρ H st σ env Q, Rel K w ρ H st → Renv K H ρ σ env → Post K w ρ H (f env st) (fun b _ _ H' => Q b H') (W · · σ ·) → t σ H Q
def RA (K : PySem.W.Frag) (w : World) (W : WishX) (t : TA) (f : MA) : Prop := ∀ ρ H st σ env Q, Rel K w ρ H st → Renv K H ρ σ env → Post K w ρ H (f env st) (fun xs _ ρ' H' => ∀ vs, Rvs K H' ρ' vs xs → Q vs H') (W · · σ ·) → t σ H Q
section
variable {w : World} {W : WishX} {ρ : List Addr} {H : Hp} {st : Sto} {σ : L2.St} {env : AEnv} {β : Type} {R : β → Sto → List Addr → Hp → Prop}
theorem RE.use {ta : TE} {f : ME} {k : A → Sto → Res β} {Q : VK} (h : RE K w W ta f) (rel : Rel K w ρ H st) (re : Renv K H ρ σ env) (p : Post K w ρ H ((f env st).bind k) R (W · · σ ·))
    (go : ∀ a s1 ρ1 H1 v, Ext ρ ρ1 H H1 → Rel K w ρ1 H1 s1 → Rv K H1 ρ1 v a → Post K w ρ1 H1 (k a s1) R (W · · σ ·) → Q v H1) : ta σ H Q := by
  refine h ρ H st σ env Q rel re ?_
  cases e : f env st with
  | ok a s1 =>
    rw [e] at p
    exact fun ρ1 H1 e1 r1 v hv => go a s1 ρ1 H1 v e1 r1 hv (Post.ext p e1)
  | ex c d s1 => rw [e] at p; exact p
  | no => rw [e] at p; exact p
theorem RT.use {ta : TT} {f : MT} {k : Bool → Sto → Res β} {Q : Bool → Hp → Prop} (h : RT K w W ta f) (rel : Rel K w ρ H st) (re : Renv K H ρ σ env) (p : Post K w ρ H ((f env st).bind k) R (W · · σ ·))
    (go : ∀ a s1 ρ1 H1, Ext ρ ρ1 H H1 → Rel K w ρ1 H1 s1 → Post K w ρ1 H1 (k a s1) R (W · · σ ·) → Q a H1) : ta σ H Q := by
  refine h ρ H st σ env Q rel re ?_
  cases e : f env st with
  | ok a s1 =>
    rw [e] at p
    exact fun ρ1 H1 e1 r1 => go a s1 ρ1 H1 e1 r1 (Post.ext p e1)
  | ex c d s1 => rw [e] at p; exact p
  | no => rw [e] at p; exact p
theorem RA.use {ta : TA} {f : MA} {k : List A → Sto → Res β} {Q : List V → Hp → Prop} (h : RA K w W ta f) (rel : Rel K w ρ H st) (re : Renv K H ρ σ env) (p : Post K w ρ H ((f env st).bind k) R (W · · σ ·))
    (go : ∀ a s1 ρ1 H1 v, Ext ρ ρ1 H H1 → Rel K w ρ1 H1 s1 → Rvs K H1 ρ1 v a → Post K w ρ1 H1 (k a s1) R (W · · σ ·) → Q v H1) : ta σ H Q := by
  refine h ρ H st σ env Q rel re ?_
  cases e : f env st with
  | ok a s1 =>
    rw [e] at p
    exact fun ρ1 H1 e1 r1 v hv => go a s1 ρ1 H1 v e1 r1 hv (Post.ext p e1)
  | ex c d s1 => rw [e] at p; exact p
  | no => rw [e] at p; exact p
/-- a result at last -/
theorem Post.give {a : A} {Q : VK} {v : V} {X : Value → Option Addr → Hp → Prop} (p : Post K w ρ H (.ok a st) (fun a _ ρ' H' => ∀ v, Rv K H' ρ' v a → Q v H') X) (rel : Rel K w ρ H st) (h : Rv K H ρ v a) : Q v H := p ρ H (Ext.refl ρ H) rel v h
/-- .. at another heap -/
theorem Post.giveAt {a : A} {Q : VK} {v : V} {X : Value → Option Addr → Hp → Prop} {ρ1 : List Addr} {H1 : Hp} {s1 : Sto} (p : Post K w ρ H (.ok a s1) (fun a _ ρ' H' => ∀ v, Rv K H' ρ' v a → Q v H') X) (e : Ext ρ ρ1 H H1) (rel : Rel K w ρ1 H1 s1) (h : Rv K H1 ρ1 v a) : Q v H1 := p ρ1 H1 e rel v h
end

/-! ### mirrors of expressions -/
def mVar (i : Nat) : ME := fun env st => match env[i]? with
  | some (some a) => .ok a st
  | _ => .no
def mC (a : A) : ME := fun _ st => .ok a st
def mOp (op : A → A → Sto → Res A) (f g : ME) : ME := fun env st => (f env st).bind fun x s1 => (g env s1).bind fun y s2 => op x y s2
def mUn (op : A → Sto → Res A) (f : ME) : ME := fun env st => (f env st).bind fun x s1 => op x s1
section
variable {w : World} {W : WishX}
theorem re_var {i : Nat} : RE K w W (tVar i) (mVar i) := fun ρ H st σ env Q rel re p => by
  unfold mVar at p
  split at p
  · rename_i a e
    obtain ⟨v, e1, e2⟩ := re.val i a e
    exact ⟨v, e1, p.give rel e2⟩
  · exact p.elim
theorem re_c {v : V} {a : A} (h : ∀ ρ H, Rv K H ρ v a) : RE K w W (tC v) (mC a) := fun ρ H st σ env Q rel re p => p.give rel (h ρ H)
theorem re_int {i : Int} : RE K w W (tC (.int i)) (mC (.int i)) := re_c fun _ _ => .int i
theorem re_str {i : Str} : RE K w W (tC (.str i)) (mC (.str i)) := re_c fun _ _ => .str i
theorem re_bl {i : Bool} : RE K w W (tC (.bl i)) (mC (.bl i)) := re_c fun _ _ => .bl i
theorem re_non : RE K w W (tC .non) (mC .non) := re_c fun _ _ => .non
def R2ok (K : PySem.W.Frag) (w : World) (r : R2) (op : A → A → Sto → Res A) : Prop := ∀ ρ H st x y a b Q X, Rel K w ρ H st → Rv K H ρ x a → Rv K H ρ y b → Post K w ρ H (op a b st) (fun a _ ρ' H' => ∀ v, Rv K H' ρ' v a → Q v H') X → r x y H Q
def R1ok (K : PySem.W.Frag) (w : World) (r : V → Hp → VK → Prop) (op : A → Sto → Res A) : Prop := ∀ ρ H st x a Q X, Rel K w ρ H st → Rv K H ρ x a → Post K w ρ H (op a st) (fun a _ ρ' H' => ∀ v, Rv K H' ρ' v a → Q v H') X → r x H Q
theorem re_op {r : R2} {op : A → A → Sto → Res A} {ta tb : TE} {f g : ME} (ho : R2ok K w r op) (hf : RE K w W ta f) (hg : RE K w W tb g) : RE K w W (tOp r ta tb) (mOp op f g) := fun ρ H st σ env Q rel re p =>
  hf.use rel re p fun a s1 ρ1 H1 x e1 r1 v1 p1 => hg.use r1 (re.ext e1) p1 fun b s2 ρ2 H2 y e2 r2 v2 p2 => ho ρ2 H2 s2 x y a b Q _ r2 (rv_ext e2 v1) v2 p2
theorem re_un {r : V → Hp → VK → Prop} {op : A → Sto → Res A} {ta : TE} {f : ME} (ho : R1ok K w r op) (hf : RE K w W ta f) : RE K w W (tUn r ta) (mUn op f) := fun ρ H st σ env Q rel re p =>
  hf.use rel re p fun a s1 ρ1 H1 x e1 r1 v1 p1 => ho ρ1 H1 s1 x a Q _ r1 v1 p1
/-! ### operators of whole numbers -/
def oI (C : Int → Int → Bool) (g : Int → Int → A) : A → A → Sto → Res A := fun a b st => match a, b with
  | .int i, .int j => if C i j = true then .ok (g i j) st else .no
  | _, _ => .no
def oI0 (g : Int → Int → A) : A → A → Sto → Res A := fun a b st => match a, b with
  | .int i, .int j => .ok (g i j) st
  | _, _ => .no
theorem r2_I0 {g : Int → Int → V} {g' : Int → Int → A} (hg : ∀ i j ρ H, Rv K H ρ (g i j) (g' i j)) : R2ok K w (rI0 g) (oI0 g') := fun ρ H st x y a b Q X rel ra rb p => by
  unfold oI0 at p
  split at p
  · cases ra
    cases rb
    exact ⟨_, _, rfl, rfl, p.give rel (hg _ _ _ _)⟩
  · exact p.elim
theorem r2_I {C : Int → Int → Prop} {C' : Int → Int → Bool} {g : Int → Int → V} {g' : Int → Int → A} (hC : ∀ i j, C' i j = true → C i j) (hg : ∀ i j ρ H, Rv K H ρ (g i j) (g' i j)) : R2ok K w (rI C g) (oI C' g') := fun ρ H st x y a b Q X rel ra rb p => by
  unfold oI at p
  split at p
  · cases ra
    cases rb
    split at p
    · rename_i hc
      exact ⟨_, _, rfl, rfl, hC _ _ hc, p.give rel (hg _ _ _ _)⟩
    · exact p.elim
  · exact p.elim
/-- two ways of one operator -/
def rOr (r r' : R2) : R2 := fun x y H Q => r x y H Q ∨ r' x y H Q
theorem OpR.or {X : Cx} {f : Value → Value → Sem Value} {r r' : R2} (h : OpR X f r) (h' : OpR X f r') : OpR X f (rOr r r') := fun pins s σ H x y v u Q I rx ry z => z.elim (fun z => h pins s σ H x y v u Q I rx ry z) (fun z => h' pins s σ H x y v u Q I rx ry z)
def oOr (c : A → A → Bool) (op op' : A → A → Sto → Res A) : A → A → Sto → Res A := fun a b st => if c a b = true then op a b st else op' a b st
theorem r2_or {r r' : R2} {c : A → A → Bool} {op op' : A → A → Sto → Res A} (h : R2ok K w r op) (h' : R2ok K w r' op') : R2ok K w (rOr r r') (oOr c op op') := fun ρ H st x y a b Q X rel ra rb p => by
  unfold oOr at p
  split at p
  · exact .inl (h ρ H st x y a b Q X rel ra rb p)
  · exact .inr (h' ρ H st x y a b Q X rel ra rb p)
def isInt : A → Bool
  | .int _ => true
  | _ => false
def isStr : A → Bool
  | .str _ => true
  | _ => false
def isTup : A → Bool
  | .tup _ => true
  | _ => false
def isRef : A → Bool
  | .ref _ => true
  | _ => false
/-! ### texts -/
def oS (C : Str → Str → Bool) (g : Str → Str → A) : A → A → Sto → Res A := fun a b st => match a, b with
  | .str i, .str j => if C i j = true then .ok (g i j) st else .no
  | _, _ => .no
theorem r2_addS : R2ok K w (fun x y H Q => ∃ i j, x = .str i ∧ y = .str j ∧ i.length + j.length ≤ sizeLine ∧ Q (.str (i ++ j)) H) (oS (fun i j => decide (i.length + j.length ≤ sizeLine)) fun i j => .str (i ++ j)) := fun ρ H st x y a b Q X rel ra rb p => by
  unfold oS at p
  split at p
  · cases ra
    cases rb
    split at p
    · rename_i hc
      exact ⟨_, _, rfl, rfl, of_decide_eq_true hc, p.give rel (.str _)⟩
    · exact p.elim
  · exact p.elim
theorem r2_cmpS {g : Str → Str → Bool} : R2ok K w (fun x y H Q => ∃ i j, x = .str i ∧ y = .str j ∧ Q (.bl (g i j)) H) (oS (fun _ _ => true) fun i j => .bl (g i j)) := fun ρ H st x y a b Q X rel ra rb p => by
  unfold oS at p
  split at p
  · cases ra
    cases rb
    exact ⟨_, _, rfl, rfl, p.give rel (.bl _)⟩
  · exact p.elim
/-! ### new objects -/
def newO (o : AO) (st : Sto) : Res A := .ok (.ref st.length) (st ++ [o])
theorem post_newL {ρ : List Addr} {H : Hp} {st : Sto} {vs : List V} {xs : List A} {Q : VK} {X : Value → Option Addr → Hp → Prop} (rel : Rel K w ρ H st) (rv : Rvs K H ρ vs xs) (p : Post K w ρ H (newO (.lst xs) st) (fun a _ ρ' H' => ∀ v, Rv K H' ρ' v a → Q v H') X) (q : Addr) (nq : H q = none) : Q (.ref q) (upd H q (.lst vs)) := by
  obtain ⟨e, r⟩ := rel.new (o := .lst xs) (u := .lst vs) nq fun H' e' h' => ⟨vs, h', rvs_ext e' rv⟩
  exact p.giveAt e r (.ref (rel.last q))
theorem post_newT {ρ : List Addr} {H : Hp} {st : Sto} {vs : List V} {xs : List A} {Q : VK} {X : Value → Option Addr → Hp → Prop} (rel : Rel K w ρ H st) (rv : Rvs K H ρ vs xs) (p : Post K w ρ H (.ok (.tup xs) st) (fun a _ ρ' H' => ∀ v, Rv K H' ρ' v a → Q v H') X) (q : Addr) (nq : H q = none) : Q (.ref q) (upd H q (.tup vs)) := by
  have s := same_upd (o := .tup vs) nq
  exact p.giveAt (Ext.same s) (rel.same s) (.tup (SqT.of upd_same) (rvs_ext (Ext.same s) rv))
/-- what a list holds -/
def getL (st : Sto) : A → Option (List A)
  | .lit xs => some xs
  | .ref n => match st[n]? with
    | some (.lst xs) => some xs
    | _ => none
  | _ => none
theorem getL_sq {ρ : List Addr} {H : Hp} {st : Sto} {v : V} {a : A} {xs : List A} (rel : Rel K w ρ H st) (h : Rv K H ρ v a) (e : getL st a = some xs) : ∃ p vs, v = .ref p ∧ SqL K H p vs ∧ Rvs K H ρ vs xs := by
  cases h with
  | lit h hs =>
    cases e
    exact ⟨_, _, rfl, lit_sq h, hs⟩
  | ref h =>
    unfold getL at e
    simp only at e
    split at e
    · rename_i ys e1
      cases e
      obtain ⟨vs, h1, h2⟩ := rel.get h e1
      exact ⟨_, _, rfl, SqL.of h1, h2⟩
    · cases e
  | _ => cases e
def getM (st : Sto) : A → Option (Nat × List A)
  | .ref n => match st[n]? with
    | some (.lst xs) => some (n, xs)
    | _ => none
  | _ => none
theorem getM_is {ρ : List Addr} {H : Hp} {st : Sto} {v : V} {a : A} {n : Nat} {xs : List A} (rel : Rel K w ρ H st) (h : Rv K H ρ v a) (e : getM st a = some (n, xs)) : ∃ p vs, v = .ref p ∧ ρ[n]? = some p ∧ H p = some (.lst vs) ∧ Rvs K H ρ vs xs := by
  cases h with
  | ref h =>
    unfold getM at e
    simp only at e
    split at e
    · rename_i ys e1
      cases e
      obtain ⟨vs, h1, h2⟩ := rel.get h e1
      exact ⟨_, _, rfl, h, h1, h2⟩
    · cases e
  | _ => cases e
def getT : A → Option (List A)
  | .tup xs => some xs
  | _ => none
theorem getT_sq {ρ : List Addr} {H : Hp} {v : V} {a : A} {xs : List A} (h : Rv K H ρ v a) (e : getT a = some xs) : ∃ p vs, v = .ref p ∧ SqT K H p vs ∧ Rvs K H ρ vs xs := by
  cases h with
  | tup h hs =>
    cases e
    exact ⟨_, _, rfl, h, hs⟩
  | _ => cases e
/-! ### + of lists and tuples, * of a list -/
def oCat : A → A → Sto → Res A := fun a b st => match getM st a, getM st b with
  | some (_, xs), some (_, ys) => if xs.length + ys.length ≤ sizeLine then newO (.lst (xs ++ ys)) st else .no
  | _, _ => .no
theorem r2_cat : R2ok K w rCat oCat := fun ρ H st x y a b Q X rel ra rb p => by
  unfold oCat at p
  split at p
  · rename_i n xs m ys e1 e2
    obtain ⟨q, vs, rfl, _, h1, h2⟩ := getM_is rel ra e1
    obtain ⟨q', us, rfl, _, h3, h4⟩ := getM_is rel rb e2
    split at p
    · rename_i hl
      exact ⟨_, _, _, _, rfl, rfl, h1, h3, by rw [h2.length, h4.length]; exact hl, fun z nz => post_newL rel (h2.append h4) p z nz⟩
    · exact p.elim
  · exact p.elim
def oCatT : A → A → Sto → Res A := fun a b st => match a, b with
  | .tup xs, .tup ys => if xs.length + ys.length ≤ sizeLine then .ok (.tup (xs ++ ys)) st else .no
  | _, _ => .no
theorem r2_catT : R2ok K w (rCatA K) oCatT := fun ρ H st x y a b Q X rel ra rb p => by
  unfold oCatT at p
  split at p
  · rename_i xs ys
    obtain ⟨q, vs, rfl, h1, h2⟩ := getT_sq ra rfl
    obtain ⟨q', us, rfl, h3, h4⟩ := getT_sq rb rfl
    split at p
    · rename_i hl
      refine ⟨_, _, _, _, rfl, rfl, h1, h3, by rw [h2.length, h4.length]; exact hl, fun z => ?_, fun _ z => ?_, fun _ _ z nz => post_newT rel (h2.append h4) p z nz⟩
      · subst z
        cases h2
        exact p.give rel rb
      · subst z
        cases h4
        rw [List.append_nil] at p
        exact p.give rel ra
    · exact p.elim
  · exact p.elim
def oRep : A → A → Sto → Res A := fun a b st => match getM st a, b with
  | some (_, xs), .int k => if -(2 ^ 63) ≤ k ∧ k < 2 ^ 63 ∧ xs.length * k.toNat ≤ sizeLine then newO (.lst (List.replicate k.toNat xs).flatten) st else .no
  | _, _ => .no
theorem rvs_rep {ρ : List Addr} {H : Hp} {vs : List V} {xs : List A} (h : Rvs K H ρ vs xs) : ∀ n : Nat, Rvs K H ρ (List.replicate n vs).flatten (List.replicate n xs).flatten
  | 0 => .nil
  | n + 1 => by
    rw [List.replicate_succ, List.replicate_succ, List.flatten_cons, List.flatten_cons]
    exact h.append (rvs_rep h n)
theorem r2_rep : R2ok K w rRep oRep := fun ρ H st x y a b Q X rel ra rb p => by
  unfold oRep at p
  split at p
  · rename_i n xs k e1
    obtain ⟨q, vs, rfl, _, h1, h2⟩ := getM_is rel ra e1
    cases rb
    split at p
    · rename_i hl
      exact ⟨_, _, _, rfl, rfl, h1, hl.1, hl.2.1, by rw [h2.length]; exact hl.2.2, fun z nz => post_newL rel (rvs_rep h2 _) p z nz⟩
    · exact p.elim
  · exact p.elim
/-! ### an item -/
theorem rvs_atI {ρ : List Addr} {H : Hp} {vs : List V} {xs : List A} {i : Int} {a : A} (h : Rvs K H ρ vs xs) (e : atI xs i = some a) : ∃ v, atI vs i = some v ∧ Rv K H ρ v a := by
  unfold atI at e ⊢
  rw [h.length]
  cases hj : ixN xs.length i with
  | none => rw [hj] at e; cases e
  | some j =>
    rw [hj] at e
    exact h.get e
def oIx : A → A → Sto → Res A := fun a b st => match b with
  | .int i => match getL st a with
    | some xs => lift (atI xs i) st
    | none => .no
  | _ => .no
def oIxT : A → A → Sto → Res A := fun a b st => match a, b with
  | .tup xs, .int i => lift (atI xs i) st
  | _, _ => .no
def oIxS : A → A → Sto → Res A := fun a b st => match a, b with
  | .str z, .int i => if z.length ≤ sizeLine then lift ((atI z.cps.toList i).map fun c => A.str ⟨#[c]⟩) st else .no
  | _, _ => .no
theorem r2_ix : R2ok K w (rIxL K) oIx := fun ρ H st x y a b Q X rel ra rb p => by
  unfold oIx at p
  split at p
  · rename_i i
    cases rb
    split at p
    · rename_i xs e1
      obtain ⟨q, vs, rfl, h1, h2⟩ := getL_sq rel ra e1
      cases e : atI xs i with
      | none => rw [e] at p; exact p.elim
      | some c =>
        rw [e] at p
        obtain ⟨v, e2, e3⟩ := rvs_atI h2 e
        exact ⟨_, _, _, _, rfl, rfl, h1, e2, p.give rel e3⟩
    · exact p.elim
  · exact p.elim
theorem r2_ixT : R2ok K w (rIxT K) oIxT := fun ρ H st x y a b Q X rel ra rb p => by
  unfold oIxT at p
  split at p
  · rename_i xs i
    cases rb
    obtain ⟨q, vs, rfl, h1, h2⟩ := getT_sq ra rfl
    cases e : atI xs i with
    | none => rw [e] at p; exact p.elim
    | some c =>
      rw [e] at p
      obtain ⟨v, e2, e3⟩ := rvs_atI h2 e
      exact ⟨_, _, _, _, rfl, rfl, h1, e2, p.give rel e3⟩
  · exact p.elim
theorem r2_ixS : R2ok K w rIxS oIxS := fun ρ H st x y a b Q X rel ra rb p => by
  unfold oIxS at p
  split at p
  · rename_i z i
    cases ra
    cases rb
    split at p
    · rename_i hl
      cases e : atI z.cps.toList i with
      | none => rw [e] at p; exact p.elim
      | some c =>
        rw [e] at p
        exact ⟨_, _, _, rfl, rfl, hl, e, p.give rel (.str _)⟩
    · exact p.elim
  · exact p.elim
theorem IxR.or {X : Cx} {r r' : R2} (h : IxR X r) (h' : IxR X r') : IxR X (rOr r r') := fun value slice pins s σ H x y v u Q I rx ry z hs => z.elim (fun z => h value slice pins s σ H x y v u Q I rx ry z hs) (fun z => h' value slice pins s σ H x y v u Q I rx ry z hs)
end

/-! ### mirrors: data, equality -/
def allD (f : A → Option PyData) : List A → Option (List PyData)
  | [] => some []
  | x :: xs => match f x, allD f xs with
    | some d, some ds => some (d :: ds)
    | _, _ => none
def dat (st : Sto) : Nat → A → Option PyData
  | _, .non => some .none
  | _, .bl b => some (.bool b)
  | _, .int i => some (.int i)
  | _, .str x => some (.str x)
  | n + 1, .tup xs => (allD (dat st n) xs).map .tuple
  | n + 1, .lit xs => (allD (dat st n) xs).map .list
  | n + 1, .ref m => match st[m]? with
    | some (.lst xs) => (allD (dat st n) xs).map .list
    | _ => none
  | _, _ => none
section
variable {w : World} {W : WishX}
theorem allD_dp {ρ : List Addr} {H : Hp} {f : A → Option PyData} (hf : ∀ v a d, Rv K H ρ v a → f a = some d → Dp K H v d) : ∀ {vs : List V} {xs : List A} {ds : List PyData}, Rvs K H ρ vs xs → allD f xs = some ds → DpAll K H vs ds
  | _, _, _, .nil, e => by cases e; exact .nil
  | _, _, _, .cons (xs := xs) h hs, e => by
    unfold allD at e
    split at e
    · rename_i d ds e1 e2
      cases e
      exact .cons (hf _ _ _ h e1) (allD_dp hf hs e2)
    · cases e
theorem dat_dp {ρ : List Addr} {H : Hp} {st : Sto} (rel : Rel K w ρ H st) : ∀ (n : Nat) (v : V) (a : A) (d : PyData), Rv K H ρ v a → dat st n a = some d → Dp K H v d
  | n, _, .non, _, h, e => by cases h; cases n <;> (cases e; exact .non)
  | n, _, .bl b, _, h, e => by cases h; cases n <;> (cases e; exact .bl b)
  | n, _, .int b, _, h, e => by cases h; cases n <;> (cases e; exact .int b)
  | n, _, .str b, _, h, e => by cases h; cases n <;> (cases e; exact .str b)
  | 0, _, .tup _, _, _, e => by cases e
  | 0, _, .lit _, _, _, e => by cases e
  | 0, _, .ref _, _, _, e => by cases e
  | n, _, .adr _, _, _, e => by cases n <;> cases e
  | n, _, .ty _, _, _, e => by cases n <;> cases e
  | n + 1, _, .tup xs, _, h, e => by
    cases h with
    | tup h hs =>
      obtain ⟨ds, e1, rfl⟩ := Option.map_eq_some_iff.mp (show (allD (dat st n) xs).map PyData.tuple = some _ from e)
      exact .tup h (allD_dp (dat_dp rel n) hs e1)
  | n + 1, _, .lit xs, _, h, e => by
    cases h with
    | lit h hs =>
      obtain ⟨ds, e1, rfl⟩ := Option.map_eq_some_iff.mp (show (allD (dat st n) xs).map PyData.list = some _ from e)
      exact .lst (lit_sq h) (allD_dp (dat_dp rel n) hs e1)
  | n + 1, _, .ref m, _, h, e => by
    cases h with
    | ref h =>
      unfold dat at e
      split at e
      · rename_i xs e0
        obtain ⟨ds, e1, rfl⟩ := Option.map_eq_some_iff.mp e
        obtain ⟨vs, h1, h2⟩ := rel.get h e0
        exact .lst (SqL.of h1) (allD_dp (dat_dp rel n) h2 e1)
      · cases e
/-- == of two scalars -/
def eqS : A → A → Option Bool
  | .non, .non => some true
  | .non, .int _ => some false
  | .int _, .non => some false
  | .non, .bl _ => some false
  | .bl _, .non => some false
  | .non, .str _ => some false
  | .str _, .non => some false
  | .int i, .int j => some (decide (i = j))
  | .bl i, .bl j => some (decide (i = j))
  | .str i, .str j => some (decide (i = j))
  | .int _, .str _ => some false
  | .str _, .int _ => some false
  | .bl _, .str _ => some false
  | .str _, .bl _ => some false
  | _, _ => none
theorem eqS_scal {ρ : List Addr} {H : Hp} {x y : V} {a b : A} {c : Bool} (ra : Rv K H ρ x a) (rb : Rv K H ρ y b) (e : eqS a b = some c) : scal x y = true ∧ decide (x = y) = c := by
  cases ra <;> cases rb <;> first
    | (cases e; exact ⟨rfl, rfl⟩)
    | (cases e; exact ⟨rfl, by simp⟩)
    | (cases e)
def deep : Nat := 30
def eqA (st : Sto) (a b : A) : Option Bool := match eqS a b with
  | some c => some c
  | none => match dat st deep a, dat st deep b with
    | some d, some e => if SeqAt.shaped d = true ∧ SeqAt.shaped e = true then some (PyData.eqv d e) else none
    | _, _ => none
def oEq : A → A → Sto → Res A := fun a b st => lift ((eqA st a b).map A.bl) st
def oNe : A → A → Sto → Res A := fun a b st => lift ((eqA st a b).map fun c => A.bl (!c)) st
theorem r2_eq : R2ok K w (rOr rEq (rEqD K)) oEq := fun ρ H st x y a b Q X rel ra rb p => by
  unfold oEq eqA at p
  cases e : eqS a b with
  | some c =>
    rw [e] at p
    obtain ⟨h1, h2⟩ := eqS_scal ra rb e
    exact .inl ⟨h1, p.give rel (by rw [h2]; exact .bl c)⟩
  | none =>
    rw [e] at p
    simp only at p
    split at p
    · rename_i d d' e1 e2
      split at p
      · rename_i hs
        exact .inr ⟨d, d', dat_dp rel _ _ _ _ ra e1, dat_dp rel _ _ _ _ rb e2, hs.1, hs.2, p.give rel (.bl _)⟩
      · exact p.elim
    · exact p.elim
theorem r2_ne : R2ok K w (rOr rNe (rNeD K)) oNe := fun ρ H st x y a b Q X rel ra rb p => by
  unfold oNe eqA at p
  cases e : eqS a b with
  | some c =>
    rw [e] at p
    obtain ⟨h1, h2⟩ := eqS_scal ra rb e
    exact .inl ⟨h1, p.give rel (by rw [h2]; exact .bl _)⟩
  | none =>
    rw [e] at p
    simp only at p
    split at p
    · rename_i d d' e1 e2
      split at p
      · rename_i hs
        exact .inr ⟨d, d', dat_dp rel _ _ _ _ ra e1, dat_dp rel _ _ _ _ rb e2, hs.1, hs.2, p.give rel (.bl _)⟩
      · exact p.elim
    · exact p.elim
/-- is None -/
def isNon : A → Bool
  | .non => true
  | _ => false
theorem isNon_rv {ρ : List Addr} {H : Hp} {x : V} {a : A} (h : Rv K H ρ x a) : decide (x = .non) = isNon a := by
  cases h <;> simp [isNon]
def oIs : A → A → Sto → Res A := fun a b st => match b with
  | .non => .ok (.bl (isNon a)) st
  | _ => .no
def oIsNot : A → A → Sto → Res A := fun a b st => match b with
  | .non => .ok (.bl (!isNon a)) st
  | _ => .no
theorem r2_is : R2ok K w (fun x y H Q => y = .non ∧ Q (.bl (decide (x = .non))) H) oIs := fun ρ H st x y a b Q X rel ra rb p => by
  unfold oIs at p
  split at p
  · cases rb
    exact ⟨rfl, p.give rel (by rw [isNon_rv ra]; exact .bl _)⟩
  · exact p.elim
theorem r2_isnot : R2ok K w (fun x y H Q => y = .non ∧ Q (.bl (!decide (x = .non))) H) oIsNot := fun ρ H st x y a b Q X rel ra rb p => by
  unfold oIsNot at p
  split at p
  · cases rb
    exact ⟨rfl, p.give rel (by rw [isNon_rv ra]; exact .bl _)⟩
  · exact p.elim
/-- in, of a list or tuple -/
def getS (st : Sto) (a : A) : Option (List A) := match getT a with
  | some xs => some xs
  | none => getL st a
theorem getS_sq {ρ : List Addr} {H : Hp} {st : Sto} {v : V} {a : A} {xs : List A} (rel : Rel K w ρ H st) (h : Rv K H ρ v a) (e : getS st a = some xs) : ∃ p vs, v = .ref p ∧ (SqL K H p vs ∨ SqT K H p vs) ∧ Rvs K H ρ vs xs := by
  unfold getS at e
  split at e
  · rename_i ys e1
    cases e
    obtain ⟨p, vs, e2, h1, h2⟩ := getT_sq h e1
    exact ⟨p, vs, e2, .inr h1, h2⟩
  · obtain ⟨p, vs, e2, h1, h2⟩ := getL_sq rel h e
    exact ⟨p, vs, e2, .inl h1, h2⟩
def flatA : A → Bool
  | .non => true
  | .bl _ => true
  | .int _ => true
  | .str _ => true
  | _ => false
def eqF : A → A → Bool
  | .non, .non => true
  | .bl a, .bl b => a == b
  | .bl a, .int b => (if a then 1 else 0) == b
  | .int a, .bl b => a == (if b then 1 else 0)
  | .int a, .int b => a == b
  | .str a, .str b => a == b
  | _, _ => false
theorem flat_rv {ρ : List Addr} {H : Hp} {x : V} {a : A} (h : Rv K H ρ x a) (f : flatA a = true) : flatV x = true := by
  cases h <;> first | rfl | (cases f)
theorem eqF_rv {ρ : List Addr} {H : Hp} {x y : V} {a b : A} (ha : Rv K H ρ x a) (hb : Rv K H ρ y b) (fa : flatA a = true) (fb : flatA b = true) : eqV x y = eqF a b := by
  cases ha <;> cases hb <;> first | rfl | (cases fa) | (cases fb)
theorem flats_rv {ρ : List Addr} {H : Hp} : ∀ {vs : List V} {xs : List A}, Rvs K H ρ vs xs → xs.all flatA = true → vs.all flatV = true
  | _, _, .nil, _ => rfl
  | _, _, .cons h hs, f => by
    rw [List.all_cons, Bool.and_eq_true] at f
    rw [List.all_cons, flat_rv h f.1, flats_rv hs f.2]
    rfl
theorem inF_rv {ρ : List Addr} {H : Hp} {x : V} {a : A} (ha : Rv K H ρ x a) (fa : flatA a = true) : ∀ {vs : List V} {xs : List A}, Rvs K H ρ vs xs → xs.all flatA = true → inV x vs = xs.any fun y => eqF y a
  | _, _, .nil, _ => rfl
  | _, _, .cons h hs, f => by
    rw [List.all_cons, Bool.and_eq_true] at f
    unfold inV
    rw [List.any_cons, List.any_cons, eqF_rv h ha f.1 fa]
    have := inF_rv ha fa hs f.2
    unfold inV at this
    rw [this]
def inA (st : Sto) (a b : A) : Option Bool := match getS st b with
  | some xs => if flatA a = true ∧ xs.all flatA = true then some (xs.any fun y => eqF y a) else none
  | none => none
def oInF : A → A → Sto → Res A := fun a b st => lift ((inA st a b).map A.bl) st
def oNotInF : A → A → Sto → Res A := fun a b st => lift ((inA st a b).map fun c => A.bl (!c)) st
theorem r2_inF : R2ok K w (rIn K false) oInF := fun ρ H st x y a b Q X rel ra rb p => by
  unfold oInF inA at p
  split at p
  · rename_i xs e
    obtain ⟨q, vs, rfl, h1, h2⟩ := getS_sq rel rb e
    split at p
    · rename_i hf
      exact ⟨q, vs, rfl, h1, flat_rv ra hf.1, flats_rv h2 hf.2, p.give rel (by rw [inF_rv ra hf.1 h2 hf.2]; exact .bl _)⟩
    · exact p.elim
  · exact p.elim
theorem r2_notInF : R2ok K w (rIn K true) oNotInF := fun ρ H st x y a b Q X rel ra rb p => by
  unfold oNotInF inA at p
  split at p
  · rename_i xs e
    obtain ⟨q, vs, rfl, h1, h2⟩ := getS_sq rel rb e
    split at p
    · rename_i hf
      exact ⟨q, vs, rfl, h1, flat_rv ra hf.1, flats_rv h2 hf.2, p.give rel (by rw [inF_rv ra hf.1 h2 hf.2]; exact .bl _)⟩
    · exact p.elim
  · exact p.elim
/-- in, of a list of data -/
def inD (st : Sto) (a b : A) : Option Bool := match dat st deep a, dat st deep b with
  | some d, some (.list ds) => if SeqAt.shaped d = true ∧ SeqAt.shaped (.list ds) = true then some (ds.any fun z => PyData.eqv z d) else none
  | _, _ => none
def oInD : A → A → Sto → Res A := fun a b st => lift ((inD st a b).map A.bl) st
def oNotInD : A → A → Sto → Res A := fun a b st => lift ((inD st a b).map fun c => A.bl (!c)) st
theorem r2_inD : R2ok K w (rInD K) oInD := fun ρ H st x y a b Q X rel ra rb p => by
  unfold oInD inD at p
  split at p
  · rename_i d ds e1 e2
    split at p
    · rename_i hs
      exact ⟨_, _, dat_dp rel _ _ _ _ ra e1, dat_dp rel _ _ _ _ rb e2, hs.1, hs.2, p.give rel (.bl _)⟩
    · exact p.elim
  · exact p.elim
theorem r2_notInD : R2ok K w (rNotInD K) oNotInD := fun ρ H st x y a b Q X rel ra rb p => by
  unfold oNotInD inD at p
  split at p
  · rename_i d ds e1 e2
    split at p
    · rename_i hs
      exact ⟨_, _, dat_dp rel _ _ _ _ ra e1, dat_dp rel _ _ _ _ rb e2, hs.1, hs.2, p.give rel (.bl _)⟩
    · exact p.elim
  · exact p.elim
/-- a sign in a text -/
def oInS (neg : Bool) : A → A → Sto → Res A := fun a b st => match a, b with
  | .str x, .str z => match x.cps.toList with
    | [c] => .ok (.bl (if neg then !decide (c ∈ z.cps.toList) else decide (c ∈ z.cps.toList))) st
    | _ => .no
  | _, _ => .no
theorem one_sign {x : Str} {c : Nat} (h : x.cps.toList = [c]) : x = ⟨#[c]⟩ := by
  obtain ⟨a⟩ := x
  have : a = #[c] := by
    apply Array.ext'
    simpa using h
  rw [this]
theorem r2_inS : R2ok K w (fun x y H Q => ∃ (c : Nat) (z : Str), x = .str ⟨#[c]⟩ ∧ y = .str z ∧ Q (.bl (decide (c ∈ z.cps.toList))) H) (oInS false) := fun ρ H st x y a b Q X rel ra rb p => by
  unfold oInS at p
  split at p
  · split at p
    · rename_i c hc
      cases ra
      cases rb
      exact ⟨c, _, by rw [one_sign hc], rfl, p.give rel (.bl _)⟩
    · exact p.elim
  · exact p.elim
theorem r2_notInS : R2ok K w (fun x y H Q => ∃ (c : Nat) (z : Str), x = .str ⟨#[c]⟩ ∧ y = .str z ∧ Q (.bl (!decide (c ∈ z.cps.toList))) H) (oInS true) := fun ρ H st x y a b Q X rel ra rb p => by
  unfold oInS at p
  split at p
  · split at p
    · rename_i c hc
      cases ra
      cases rb
      exact ⟨c, _, by rw [one_sign hc], rfl, p.give rel (.bl _)⟩
    · exact p.elim
  · exact p.elim
/-! ### tests, and, or, not, a if t else b -/
def mTest (f : ME) : MT := fun env st => (f env st).bind fun a s => match a with
  | .bl b => .ok b s
  | _ => .no
def mNotT (f : MT) : MT := fun env st => (f env st).bind fun b s => .ok (!b) s
def mAndT (f g : MT) : MT := fun env st => (f env st).bind fun b s => if b = true then g env s else .ok false s
def mOrT (f g : MT) : MT := fun env st => (f env st).bind fun b s => if b = true then .ok true s else g env s
def mIfE (c : MT) (f g : ME) : ME := fun env st => (c env st).bind fun b s => if b = true then f env s else g env s
def mNot (f : ME) : ME := fun env st => (f env st).bind fun a s => match a with
  | .bl b => .ok (.bl (!b)) s
  | _ => .no
def mAnd (f g : ME) : ME := fun env st => (f env st).bind fun a s => match a with
  | .bl b => if b = true then g env s else .ok (.bl false) s
  | _ => .no
def mOr (f g : ME) : ME := fun env st => (f env st).bind fun a s => match a with
  | .bl b => if b = true then .ok (.bl true) s else g env s
  | _ => .no
theorem Post.giveB {ρ : List Addr} {H : Hp} {st : Sto} {b : Bool} {Q : Bool → Hp → Prop} {X : Value → Option Addr → Hp → Prop} (p : Post K w ρ H (.ok b st) (fun b _ _ H' => Q b H') X) (rel : Rel K w ρ H st) : Q b H := p ρ H (Ext.refl ρ H) rel
theorem rt_test {t : TE} {f : ME} (hf : RE K w W t f) : RT K w W (tTest t) (mTest f) := fun ρ H st σ env Q rel re p =>
  hf.use rel re p fun a s1 ρ1 H1 x e1 r1 v1 p1 => by
    split at p1
    · cases v1
      exact ⟨_, rfl, p1.giveB r1⟩
    · exact p1.elim
theorem rt_val {t : TE} {f : ME} (hf : RE K w W t f) : RT K w W (tB t) (mTest f) := rt_test hf
theorem rt_not {t : TT} {f : MT} (hf : RT K w W t f) : RT K w W (tNot t) (mNotT f) := fun ρ H st σ env Q rel re p =>
  hf.use rel re p fun a s1 ρ1 H1 e1 r1 p1 => p1.giveB r1
theorem rt_and {t u : TT} {f g : MT} (hf : RT K w W t f) (hg : RT K w W u g) : RT K w W (tAnd t u) (mAndT f g) := fun ρ H st σ env Q rel re p =>
  hf.use rel re p fun a s1 ρ1 H1 e1 r1 p1 => by
    cases a with
    | true => exact iteT (hg ρ1 H1 s1 σ env Q r1 (re.ext e1) p1)
    | false => exact iteF (p1.giveB r1)
theorem rt_or {t u : TT} {f g : MT} (hf : RT K w W t f) (hg : RT K w W u g) : RT K w W (tOr t u) (mOrT f g) := fun ρ H st σ env Q rel re p =>
  hf.use rel re p fun a s1 ρ1 H1 e1 r1 p1 => by
    cases a with
    | true => exact iteT (p1.giveB r1)
    | false => exact iteF (hg ρ1 H1 s1 σ env Q r1 (re.ext e1) p1)
theorem re_if {c : TT} {t u : TE} {m : MT} {f g : ME} (hc : RT K w W c m) (hf : RE K w W t f) (hg : RE K w W u g) : RE K w W (tIf c t u) (mIfE m f g) := fun ρ H st σ env Q rel re p =>
  hc.use rel re p fun a s1 ρ1 H1 e1 r1 p1 => by
    cases a with
    | true => exact iteT (hf ρ1 H1 s1 σ env Q r1 (re.ext e1) p1)
    | false => exact iteF (hg ρ1 H1 s1 σ env Q r1 (re.ext e1) p1)
theorem re_not {t : TE} {f : ME} (hf : RE K w W t f) : RE K w W (tNotV t) (mNot f) := fun ρ H st σ env Q rel re p =>
  hf.use rel re p fun a s1 ρ1 H1 x e1 r1 v1 p1 => by
    split at p1
    · cases v1
      exact ⟨_, rfl, p1.give r1 (.bl _)⟩
    · exact p1.elim
theorem re_and {t u : TE} {f g : ME} (hf : RE K w W t f) (hg : RE K w W u g) : RE K w W (tAndV t u) (mAnd f g) := fun ρ H st σ env Q rel re p =>
  hf.use rel re p fun a s1 ρ1 H1 x e1 r1 v1 p1 => by
    split at p1
    · rename_i b
      cases v1
      cases b with
      | true => exact ⟨_, rfl, iteT (hg ρ1 H1 s1 σ env Q r1 (re.ext e1) p1)⟩
      | false => exact ⟨_, rfl, iteF (p1.give r1 (.bl _))⟩
    · exact p1.elim
theorem re_or {t u : TE} {f g : ME} (hf : RE K w W t f) (hg : RE K w W u g) : RE K w W (tOrV t u) (mOr f g) := fun ρ H st σ env Q rel re p =>
  hf.use rel re p fun a s1 ρ1 H1 x e1 r1 v1 p1 => by
    split at p1
    · rename_i b
      cases v1
      cases b with
      | true => exact ⟨_, rfl, iteT (p1.give r1 (.bl _))⟩
      | false => exact ⟨_, rfl, iteF (hg ρ1 H1 s1 σ env Q r1 (re.ext e1) p1)⟩
    · exact p1.elim
/-- a < b < c -/
def mChain (o o' : A → A → Sto → Res A) (f g h : ME) : ME := fun env st => (f env st).bind fun x s1 => (g env s1).bind fun y s2 => (o x y s2).bind fun z s3 => match z with
  | .bl true => (h env s3).bind fun u s4 => o' y u s4
  | .bl false => .ok (.bl false) s3
  | _ => .no
/-! ### arguments, displays -/
def mNil : MA := fun _ st => .ok [] st
def mCons (f : ME) (g : MA) : MA := fun env st => (f env st).bind fun x s1 => (g env s1).bind fun xs s2 => .ok (x :: xs) s2
theorem ra_nil : RA K w W tNil mNil := fun ρ H st σ env Q rel re p => p ρ H (Ext.refl ρ H) rel [] .nil
theorem ra_cons {t : TE} {u : TA} {f : ME} {g : MA} (hf : RE K w W t f) (hg : RA K w W u g) : RA K w W (tCons t u) (mCons f g) := fun ρ H st σ env Q rel re p =>
  hf.use rel re p fun a s1 ρ1 H1 x e1 r1 v1 p1 => hg.use r1 (re.ext e1) p1 fun as s2 ρ2 H2 xs e2 r2 v2 p2 => p2 ρ2 H2 (Ext.refl _ _) r2 _ (.cons (rv_ext e2 v1) v2)
def mTup (f : MA) : ME := fun env st => (f env st).bind fun xs s => if xs.length ≤ sizeLine then .ok (.tup xs) s else .no
def mLst (f : MA) : ME := fun env st => (f env st).bind fun xs s => if xs.length ≤ sizeLine then newO (.lst xs) s else .no
theorem re_tup {t : TA} {f : MA} (hf : RA K w W t f) : RE K w W (tTup t) (mTup f) := fun ρ H st σ env Q rel re p =>
  hf.use rel re p fun a s1 ρ1 H1 x e1 r1 v1 p1 => by
    split at p1
    · rename_i hl
      exact ⟨by rw [v1.length]; exact hl, fun q nq => post_newT r1 v1 p1 q nq⟩
    · exact p1.elim
theorem re_lst {t : TA} {f : MA} (hf : RA K w W t f) : RE K w W (tLst t) (mLst f) := fun ρ H st σ env Q rel re p =>
  hf.use rel re p fun a s1 ρ1 H1 x e1 r1 v1 p1 => by
    split at p1
    · rename_i hl
      exact ⟨by rw [v1.length]; exact hl, fun q nq => post_newL r1 v1 p1 q nq⟩
    · exact p1.elim
end

/-! ### mirrors: chains, slices, built-ins -/
section
variable {w : World} {W : WishX}
theorem R2ok.use {r : R2} {op : A → A → Sto → Res A} {ρ : List Addr} {H : Hp} {st : Sto} {x y : V} {a b : A} {β : Type} {R : β → Sto → List Addr → Hp → Prop} {X : Value → Option Addr → Hp → Prop} {k : A → Sto → Res β} {Q : VK} (h : R2ok K w r op) (rel : Rel K w ρ H st) (ra : Rv K H ρ x a) (rb : Rv K H ρ y b) (p : Post K w ρ H ((op a b st).bind k) R X)
    (go : ∀ c s1 ρ1 H1 v, Ext ρ ρ1 H H1 → Rel K w ρ1 H1 s1 → Rv K H1 ρ1 v c → Post K w ρ1 H1 (k c s1) R X → Q v H1) : r x y H Q := by
  refine h ρ H st x y a b Q X rel ra rb ?_
  cases e : op a b st with
  | ok c s1 =>
    rw [e] at p
    exact fun ρ1 H1 e1 r1 v hv => go c s1 ρ1 H1 v e1 r1 hv (Post.ext p e1)
  | ex c d s1 => rw [e] at p; exact p
  | no => rw [e] at p; exact p
theorem re_chain {r r' : R2} {o o' : A → A → Sto → Res A} {ta tb tc : TE} {f g h : ME} (ho : R2ok K w r o) (ho' : R2ok K w r' o') (hf : RE K w W ta f) (hg : RE K w W tb g) (hh : RE K w W tc h) : RE K w W (tChain r r' ta tb tc) (mChain o o' f g h) := fun ρ H st σ env Q rel re p =>
  hf.use rel re p fun a s1 ρ1 H1 x e1 r1 v1 p1 => hg.use r1 (re.ext e1) p1 fun b s2 ρ2 H2 y e2 r2 v2 p2 => ho.use r2 (rv_ext e2 v1) v2 p2 fun c s3 ρ3 H3 z e3 r3 v3 p3 => by
    split at p3
    · cases v3
      exact ⟨true, rfl, iteT (hh.use r3 (re.ext (e1.trans (e2.trans e3))) p3 fun d s4 ρ4 H4 u e4 r4 v4 p4 => ho' ρ4 H4 s4 y u b d Q _ r4 (rv_ext (e3.trans e4) v2) v4 p4)⟩
    · cases v3
      exact ⟨false, rfl, iteF (p3.give r3 (.bl _))⟩
    · exact p3.elim
/-! ### slices -/
abbrev MO := AEnv → Sto → Res (Option Int)
def RO (K : PySem.W.Frag) (w : World) (W : WishX) (t : TO) (f : MO) : Prop := ∀ ρ H st σ env Q, Rel K w ρ H st → Renv K H ρ σ env → Post K w ρ H (f env st) (fun o _ _ H' => Q o H') (W · · σ ·) → t σ H Q
def mNoPart : MO := fun _ st => .ok none st
def mPart (f : ME) : MO := fun env st => (f env st).bind fun a s => match a with
  | .int i => .ok (some i) s
  | _ => .no
theorem ro_none : RO K w W tNoPart mNoPart := fun ρ H st σ env Q rel re p => p ρ H (Ext.refl ρ H) rel
theorem ro_some {t : TE} {f : ME} (hf : RE K w W t f) : RO K w W (tPart t) (mPart f) := fun ρ H st σ env Q rel re p =>
  hf.use rel re p fun a s1 ρ1 H1 x e1 r1 v1 p1 => by
    split at p1
    · cases v1
      exact ⟨_, rfl, p1 ρ1 H1 (Ext.refl _ _) r1⟩
    · exact p1.elim
theorem RO.use {ta : TO} {f : MO} {ρ : List Addr} {H : Hp} {st : Sto} {σ : L2.St} {env : AEnv} {β : Type} {R : β → Sto → List Addr → Hp → Prop} {k : Option Int → Sto → Res β} {Q : Option Int → Hp → Prop} (h : RO K w W ta f) (rel : Rel K w ρ H st) (re : Renv K H ρ σ env) (p : Post K w ρ H ((f env st).bind k) R (W · · σ ·))
    (go : ∀ a s1 ρ1 H1, Ext ρ ρ1 H H1 → Rel K w ρ1 H1 s1 → Post K w ρ1 H1 (k a s1) R (W · · σ ·) → Q a H1) : ta σ H Q := by
  refine h ρ H st σ env Q rel re ?_
  cases e : f env st with
  | ok a s1 =>
    rw [e] at p
    exact fun ρ1 H1 e1 r1 => go a s1 ρ1 H1 e1 r1 (Post.ext p e1)
  | ex c d s1 => rw [e] at p; exact p
  | no => rw [e] at p; exact p
abbrev RSl := V → Option Int → Option Int → Hp → VK → Prop
def RSlok (K : PySem.W.Frag) (w : World) (r : RSl) (op : A → Option Int → Option Int → Sto → Res A) : Prop := ∀ ρ H st x a lo hi Q X, Rel K w ρ H st → Rv K H ρ x a → Post K w ρ H (op a lo hi st) (fun a _ ρ' H' => ∀ v, Rv K H' ρ' v a → Q v H') X → r x lo hi H Q
def mSl (op : A → Option Int → Option Int → Sto → Res A) (f : ME) (l h : MO) : ME := fun env st => (f env st).bind fun x s1 => (l env s1).bind fun lo s2 => (h env s2).bind fun hi s3 => op x lo hi s3
theorem re_sl {r : RSl} {op : A → Option Int → Option Int → Sto → Res A} {t : TE} {tl th : TO} {f : ME} {l h : MO} (ho : RSlok K w r op) (hf : RE K w W t f) (hl : RO K w W tl l) (hh : RO K w W th h) : RE K w W (tSl r t tl th) (mSl op f l h) := fun ρ H st σ env Q rel re p =>
  hf.use rel re p fun a s1 ρ1 H1 x e1 r1 v1 p1 => hl.use r1 (re.ext e1) p1 fun lo s2 ρ2 H2 e2 r2 p2 => hh.use r2 (re.ext (e1.trans e2)) p2 fun hi s3 ρ3 H3 e3 r3 p3 => ho ρ3 H3 s3 x a lo hi Q _ r3 (rv_ext (e2.trans e3) v1) p3
def cutA (xs : List A) (lo hi : Option Int) : List A := (xs.drop (HT.sIx xs.length 0 lo)).take (HT.sIx xs.length xs.length hi - HT.sIx xs.length 0 lo)
theorem rvs_cut {ρ : List Addr} {H : Hp} {vs : List V} {xs : List A} (h : Rvs K H ρ vs xs) (lo hi : Option Int) : Rvs K H ρ (cutV vs lo hi) (cutA xs lo hi) := by
  unfold cutV cutA
  rw [h.length]
  exact (h.drop _).take _
theorem cut_whole {xs : List A} {lo hi : Option Int} (h : HT.sIx xs.length 0 lo = 0 ∧ HT.sIx xs.length xs.length hi = xs.length) : cutA xs lo hi = xs := by
  unfold cutA
  rw [h.1, h.2, List.drop_zero, Nat.sub_zero, List.take_length]
/-- a list's, a tuple's, a text's slice -/
def oSl : A → Option Int → Option Int → Sto → Res A := fun a lo hi st => match a with
  | .tup xs => .ok (.tup (cutA xs lo hi)) st
  | .str z => if z.length ≤ sizeLine then .ok (.str (cutS z lo hi)) st else .no
  | a => match getL st a with
    | some xs => newO (.lst (cutA xs lo hi)) st
    | none => .no
def rSlAny (K : PySem.W.Frag) : RSl := fun x lo hi H Q => (rSlL K x lo hi H Q ∨ rSlA K x lo hi H Q) ∨ rSlS x lo hi H Q
theorem sl_any {X : Cx} : SlR X (rSlAny X.K) := SlR.or (SlR.or sl_list sl_tupA) sl_str
theorem rsl_any : RSlok K w (rSlAny K) oSl := fun ρ H st x a lo hi Q X rel ra p => by
  unfold oSl at p
  split at p
  · rename_i xs
    obtain ⟨q, vs, rfl, h1, h2⟩ := getT_sq ra rfl
    refine .inl (.inr ⟨q, vs, rfl, h1, fun hw => ?_, fun _ z nz => post_newT rel (rvs_cut h2 lo hi) p z nz⟩)
    rw [cut_whole (by rw [← h2.length]; exact hw)] at p
    exact p.give rel ra
  · split at p
    · rename_i hl
      cases ra
      exact .inr ⟨_, rfl, hl, p.give rel (.str _)⟩
    · exact p.elim
  · split at p
    · rename_i xs e
      obtain ⟨q, vs, rfl, h1, h2⟩ := getL_sq rel ra e
      exact .inl (.inl ⟨q, vs, rfl, h1, fun z nz => post_newL rel (rvs_cut h2 lo hi) p z nz⟩)
    · exact p.elim
/-! ### built-ins called -/
abbrev RL := List V → Hp → VK → Prop
def RLok (K : PySem.W.Frag) (w : World) (r : RL) (op : List A → Sto → Res A) : Prop := ∀ ρ H st vs as Q X, Rel K w ρ H st → Rvs K H ρ vs as → Post K w ρ H (op as st) (fun a _ ρ' H' => ∀ v, Rv K H' ρ' v a → Q v H') X → r vs H Q
def mCB (op : List A → Sto → Res A) (f : MA) : ME := fun env st => (f env st).bind op
theorem re_cb {r : RL} {op : List A → Sto → Res A} {t : TA} {f : MA} (ho : RLok K w r op) (hf : RA K w W t f) : RE K w W (tCB r t) (mCB op f) := fun ρ H st σ env Q rel re p =>
  hf.use rel re p fun a s1 ρ1 H1 x e1 r1 v1 p1 => ho ρ1 H1 s1 x a Q _ r1 v1 p1
def lOr (r r' : RL) : RL := fun vs H Q => r vs H Q ∨ r' vs H Q
theorem CallR.or {X : Cx} {f : Value} {r r' : RL} (h : CallR X f r) (h' : CallR X f r') : CallR X f (lOr r r') := fun pins s σ H xs us Q I rv z => z.elim (fun z => h pins s σ H xs us Q I rv z) (fun z => h' pins s σ H xs us Q I rv z)
def oLen : List A → Sto → Res A := fun as st => match as with
  | [.str z] => if z.length ≤ sizeLine then .ok (.int z.length) st else .no
  | [.ref n] => match st[n]? with
    | some (.lst xs) => .ok (.int xs.length) st
    | some (.dK kvs) => .ok (.int kvs.length) st
    | _ => .no
  | [a] => match getS st a with
    | some xs => .ok (.int xs.length) st
    | none => .no
  | _ => .no
def rLenAny (K : PySem.W.Frag) : RL := lOr (fun xs H Q => ∃ p ys, xs = [.ref p] ∧ (SqL K H p ys ∨ SqT K H p ys) ∧ Q (.int ys.length) H) (lOr (fun xs H Q => ∃ z, xs = [.str z] ∧ z.length ≤ sizeLine ∧ Q (.int z.length) H) (fun xs H Q => ∃ a kvs, xs = [V.ref a] ∧ H a = some (.dK kvs) ∧ Q (.int kvs.length) H))
theorem call_lenAny {X : Cx} : CallR X (.builtin "len") (rLenAny X.K) := CallR.or call_len_seq (CallR.or call_len_str call_lenD)
theorem rvs1 {ρ : List Addr} {H : Hp} {vs : List V} {a : A} (h : Rvs K H ρ vs [a]) : ∃ v, vs = [v] ∧ Rv K H ρ v a := by
  cases h with
  | cons h hs =>
    cases hs
    exact ⟨_, rfl, h⟩
theorem rvs2 {ρ : List Addr} {H : Hp} {vs : List V} {a b : A} (h : Rvs K H ρ vs [a, b]) : ∃ v u, vs = [v, u] ∧ Rv K H ρ v a ∧ Rv K H ρ u b := by
  cases h with
  | cons h hs =>
    obtain ⟨u, rfl, h2⟩ := rvs1 hs
    exact ⟨_, _, rfl, h, h2⟩
theorem rkv_len {κ : Type} {ρ : List Addr} {H : Hp} : ∀ {kv : List (κ × V)} {kvs : List (κ × A)}, Rkv K H ρ kv kvs → kv.length = kvs.length := fun h => Paired.length h
theorem rl_len : RLok K w (rLenAny K) oLen := fun ρ H st vs as Q X rel rv p => by
  unfold oLen at p
  split at p
  · obtain ⟨v, rfl, h⟩ := rvs1 rv
    cases h
    split at p
    · rename_i hl
      exact .inr (.inl ⟨_, rfl, hl, p.give rel (.int _)⟩)
    · exact p.elim
  · obtain ⟨v, rfl, h⟩ := rvs1 rv
    cases h with
    | ref h =>
      split at p
      · rename_i xs e
        obtain ⟨us, h1, h2⟩ := rel.get h e
        exact .inl ⟨_, us, rfl, .inl (SqL.of h1), p.give rel (by rw [h2.length]; exact .int _)⟩
      · rename_i kvs e
        obtain ⟨kv, h1, h2⟩ := rel.get h e
        exact .inr (.inr ⟨_, kv, rfl, h1, p.give rel (by rw [rkv_len h2]; exact .int _)⟩)
      · exact p.elim
  · split at p
    · rename_i e
      obtain ⟨v, rfl, h⟩ := rvs1 rv
      obtain ⟨q, us, rfl, h1, h2⟩ := getS_sq rel h e
      exact .inl ⟨_, us, rfl, h1, p.give rel (by rw [h2.length]; exact .int _)⟩
    · exact p.elim
  · exact p.elim
def oAbs : List A → Sto → Res A := fun as st => match as with
  | [.int i] => .ok (.int (if i < 0 then -i else i)) st
  | _ => .no
theorem rl_abs : RLok K w (fun xs H Q => ∃ i, xs = [.int i] ∧ Q (.int (if i < 0 then -i else i)) H) oAbs := fun ρ H st vs as Q X rel rv p => by
  unfold oAbs at p
  split at p
  · obtain ⟨v, rfl, h⟩ := rvs1 rv
    cases h
    exact ⟨_, rfl, p.give rel (.int _)⟩
  · exact p.elim
def oMin2 : List A → Sto → Res A := fun as st => match as with
  | [.int i, .int j] => .ok (.int (if j < i then j else i)) st
  | _ => .no
def oMax2 : List A → Sto → Res A := fun as st => match as with
  | [.int i, .int j] => .ok (.int (if j > i then j else i)) st
  | _ => .no
theorem rl_min2 : RLok K w (fun xs H Q => ∃ i j, xs = [.int i, .int j] ∧ Q (.int (if j < i then j else i)) H) oMin2 := fun ρ H st vs as Q X rel rv p => by
  unfold oMin2 at p
  split at p
  · obtain ⟨v, u, rfl, h, h'⟩ := rvs2 rv
    cases h
    cases h'
    exact ⟨_, _, rfl, p.give rel (.int _)⟩
  · exact p.elim
theorem rl_max2 : RLok K w (fun xs H Q => ∃ i j, xs = [.int i, .int j] ∧ Q (.int (if j > i then j else i)) H) oMax2 := fun ρ H st vs as Q X rel rv p => by
  unfold oMax2 at p
  split at p
  · obtain ⟨v, u, rfl, h, h'⟩ := rvs2 rv
    cases h
    cases h'
    exact ⟨_, _, rfl, p.give rel (.int _)⟩
  · exact p.elim
/-- int(x) of a number or truth; of a text -/
def oInt : List A → Sto → Res A := fun as st => match as with
  | [.int i] => .ok (.int i) st
  | [.bl b] => .ok (.int (if b then 1 else 0)) st
  | [.str z] => match PySem.intText? z with
    | some n => if z.length ≤ 640 then .ok (.int n) st else .no
    | none => .no
  | _ => .no
def rIntAny : RL := lOr (fun xs H Q => (∃ i, xs = [.int i] ∧ Q (.int i) H) ∨ ∃ k, xs = [.bl k] ∧ Q (.int (if k then 1 else 0)) H) (fun xs H Q => ∃ a n, xs = [.str a] ∧ PySem.intText? a = some n ∧ a.length ≤ 640 ∧ Q (.int n) H)
theorem call_intAny {X : Cx} : CallR X (.type "int") rIntAny := CallR.or call_int1 call_int_str
theorem rl_int : RLok K w rIntAny oInt := fun ρ H st vs as Q X rel rv p => by
  unfold oInt at p
  split at p
  · obtain ⟨v, rfl, h⟩ := rvs1 rv
    cases h
    exact .inl (.inl ⟨_, rfl, p.give rel (.int _)⟩)
  · obtain ⟨v, rfl, h⟩ := rvs1 rv
    cases h
    exact .inl (.inr ⟨_, rfl, p.give rel (.int _)⟩)
  · obtain ⟨v, rfl, h⟩ := rvs1 rv
    cases h
    split at p
    · rename_i n e
      split at p
      · rename_i hl
        exact .inr ⟨_, n, rfl, e, hl, p.give rel (.int _)⟩
      · exact p.elim
    · exact p.elim
  · exact p.elim
def oStr : List A → Sto → Res A := fun as st => match as with
  | [.int i] => if i.natAbs.log2 < 1920 then .ok (.str (toString i)) st else .no
  | _ => .no
theorem rl_str : RLok K w (fun xs H Q => ∃ i, xs = [.int i] ∧ i.natAbs.log2 < 1920 ∧ Q (.str (toString i)) H) oStr := fun ρ H st vs as Q X rel rv p => by
  unfold oStr at p
  split at p
  · obtain ⟨v, rfl, h⟩ := rvs1 rv
    cases h
    split at p
    · rename_i hl
      exact ⟨_, rfl, hl, p.give rel (.str _)⟩
    · exact p.elim
  · exact p.elim
def oList : List A → Sto → Res A := fun as st => match as with
  | [a] => match getS st a with
    | some xs => newO (.lst xs) st
    | none => .no
  | _ => .no
theorem rl_list : RLok K w (fun xs H Q => ∃ p ys, xs = [.ref p] ∧ (SqL K H p ys ∨ SqT K H p ys) ∧ ∀ l, H l = none → Q (.ref l) (upd H l (.lst ys))) oList := fun ρ H st vs as Q X rel rv p => by
  unfold oList at p
  split at p
  · split at p
    · rename_i xs e
      obtain ⟨v, rfl, h⟩ := rvs1 rv
      obtain ⟨q, us, rfl, h1, h2⟩ := getS_sq rel h e
      exact ⟨_, us, rfl, h1, fun z nz => post_newL rel h2 p z nz⟩
    · exact p.elim
  · exact p.elim
def oTuple : List A → Sto → Res A := fun as st => match as with
  | [a] => match getS st a with
    | some xs => .ok (.tup xs) st
    | none => .no
  | _ => .no
theorem rl_tuple : RLok K w (fun xs H Q => ∃ p ys, xs = [.ref p] ∧ ((SqL K H p ys ∧ ∀ l, H l = none → Q (.ref l) (upd H l (.tup ys))) ∨ (SqT K H p ys ∧ Q (.ref p) H))) oTuple := fun ρ H st vs as Q X rel rv p => by
  unfold oTuple at p
  split at p
  · split at p
    · rename_i xs e
      obtain ⟨v, rfl, h⟩ := rvs1 rv
      obtain ⟨q, us, rfl, h1, h2⟩ := getS_sq rel h e
      rcases h1 with h1 | h1
      · exact ⟨_, us, rfl, .inl ⟨h1, fun z nz => post_newT rel h2 p z nz⟩⟩
      · exact ⟨_, us, rfl, .inr ⟨h1, p.give rel (.tup h1 h2)⟩⟩
    · exact p.elim
  · exact p.elim
/-- isinstance of data -/
def tyA (st : Sto) : A → Option String
  | .non => some "NoneType"
  | .bl _ => some "bool"
  | .int _ => some "int"
  | .str _ => some "str"
  | .tup _ => some "tuple"
  | .lit _ => some "list"
  | .ref n => match st[n]? with
    | some (.lst _) => some "list"
    | _ => none
  | _ => none
theorem tyA_x {ρ : List Addr} {H : Hp} {st : Sto} {v : V} {a : A} {t : String} (rel : Rel K w ρ H st) (h : Rv K H ρ v a) (e : tyA st a = some t) : TyX K H v (.type t) ∧ t ∈ ["NoneType", "bool", "int", "str", "list", "tuple", "dict"] := by
  cases h with
  | non => cases e; exact ⟨.base .non, by decide⟩
  | bl b => cases e; exact ⟨.base (.bl b), by decide⟩
  | int b => cases e; exact ⟨.base (.int b), by decide⟩
  | str b => cases e; exact ⟨.base (.str b), by decide⟩
  | tup h hs =>
    cases e
    rcases h with (h | ⟨o, h⟩) | ⟨o, _, _, h, c, _⟩
    · exact ⟨.base (.tup h), by decide⟩
    · exact ⟨.fTuple h, by decide⟩
    · exact ⟨.kTuple h c, by decide⟩
  | lit h hs =>
    cases e
    rcases lit_sq h with (h | ⟨o, h⟩) | ⟨o, _, _, h, c, _⟩
    · exact ⟨.base (.lst h), by decide⟩
    · exact ⟨.base (.frz h), by decide⟩
    · exact ⟨.kList h c, by decide⟩
  | ref h =>
    simp only [tyA] at e
    split at e
    · rename_i xs e1
      cases e
      obtain ⟨vs, h1, _⟩ := rel.get h e1
      exact ⟨.base (.lst h1), by decide⟩
    · cases e
  | adr a => cases e
  | ty a => cases e
def oIsi : List A → Sto → Res A := fun as st => match as with
  | [a, .ty T] => match tyA st a with
    | some t => if T ∈ ["int", "bool", "str", "tuple", "list"] then .ok (.bl (isTy t T)) st else .no
    | none => .no
  | _ => .no
theorem rl_isi : RLok K w (rIsi K) oIsi := fun ρ H st vs as Q X rel rv p => by
  unfold oIsi at p
  split at p
  · split at p
    · rename_i T t e
      obtain ⟨v, u, rfl, h, h'⟩ := rvs2 rv
      cases h'
      split at p
      · rename_i hT
        obtain ⟨h1, h2⟩ := tyA_x rel h e
        exact ⟨_, _, _, _, _, rfl, .ty _, h1, kit_ty (kit_all _ h2 _ hT), p.give rel (.bl _)⟩
      · exact p.elim
    · exact p.elim
  · exact p.elim
end

/-! ### mirrors: methods of lists, targets, statements, loops -/
section
variable {w : World} {W : WishX}
theorem set_put {ρ : List Addr} {H : Hp} {st : Sto} {n : Nat} {p : Addr} {us : List V} {ys : List A} (rel : Rel K w ρ H st) (h : ρ[n]? = some p) (r : Rvs K H ρ us ys) : Ext ρ ρ H (upd H p (.lst us)) ∧ Rel K w ρ (upd H p (.lst us)) (st.set n (.lst ys)) :=
  rel.put (o := .lst ys) (u := .lst us) h fun H' e' h' => ⟨us, h', rvs_ext e' r⟩
/-- x.m(..) of a list: f tells what it gives and the list behind it -/
def mMeth (op : List A → List A → Option (A × List A)) (f : ME) (g : MA) : ME := fun env st => (f env st).bind fun x s1 => match getM s1 x with
  | none => .no
  | some _ => (g env s1).bind fun as s2 => match getM s2 x with
    | some (n, xs) => match op xs as with
      | some (a, ys) => .ok a (s2.set n (.lst ys))
      | none => .no
    | none => .no
abbrev RM := V → List V → Hp → VK → Prop
/-- .. by values -/
def RMok (K : PySem.W.Frag) (r : RM) (op : List A → List A → Option (A × List A)) : Prop := ∀ ρ H l xs as vs us a ys Q, H l = some (.lst vs) → Rvs K H ρ vs xs → Rvs K H ρ us as → op xs as = some (a, ys) → (∀ v ws, Rv K H ρ v a → Rvs K H ρ ws ys → Q v (upd H l (.lst ws))) → r (.ref l) us H Q
theorem re_meth {r : RM} {op : List A → List A → Option (A × List A)} {to : TE} {t : TA} {f : ME} {g : MA} (ho : RMok K r op) (hf : RE K w W to f) (hg : RA K w W t g) : RE K w W (tBM K "list" r to t) (mMeth op f g) := fun ρ H st σ env Q rel re p =>
  hf.use rel re p fun a s1 ρ1 H1 x e1 r1 v1 p1 => by
    split at p1
    · exact p1.elim
    · rename_i nx em
      obtain ⟨n, xs⟩ := nx
      obtain ⟨l, vs, rfl, hl, h1, h2⟩ := getM_is r1 v1 em
      refine ⟨.inl ⟨rfl, _, SqL.of h1⟩, hg.use r1 (re.ext e1) p1 fun as s2 ρ2 H2 us e2 r2 v2 p2 => ?_⟩
      have v1' := rv_ext e2 v1
      split at p2
      · rename_i m ys em2
        obtain ⟨l', vs2, e3, hl2, h3, h4⟩ := getM_is r2 v1' em2
        cases e3
        split at p2
        · rename_i c zs eo
          refine ho ρ2 H2 l ys as vs2 us c zs Q h3 h4 v2 eo fun v ws hv hws => ?_
          obtain ⟨e4, r4⟩ := set_put r2 hl2 hws
          exact p2.giveAt e4 r4 (rv_ext e4 hv)
        · exact p2.elim
      · exact p2.elim
def mMeth0 (op : List A → List A → Option (A × List A)) (f : ME) : ME := mMeth op f mNil
theorem re_meth0 {r : RM} {op : List A → List A → Option (A × List A)} {to : TE} {f : ME} (ho : RMok K r op) (hf : RE K w W to f) : RE K w W (tBM0 K "list" r to) (mMeth0 op f) := re_meth (t := tNil) ho hf ra_nil
def oAppend : List A → List A → Option (A × List A) := fun xs as => match as with
  | [a] => if xs.length < sizeLine then some (.non, xs ++ [a]) else none
  | _ => none
theorem rm_append : RMok K rAppend oAppend := fun ρ H l xs as vs us a ys Q h1 h2 h3 e q => by
  unfold oAppend at e
  split at e
  · split at e
    · rename_i hl
      cases e
      obtain ⟨u, rfl, h4⟩ := rvs1 h3
      exact ⟨l, vs, u, rfl, rfl, h1, by rw [h2.length]; exact hl, q _ _ .non (h2.append (.cons h4 .nil))⟩
    · cases e
  · cases e
def oPop : List A → List A → Option (A × List A) := fun xs as => match as with
  | [] => (xs[xs.length - 1]?).map fun a => (a, xs.dropLast)
  | _ => none
theorem rvs_dropLast {ρ : List Addr} {H : Hp} {vs : List V} {xs : List A} (h : Rvs K H ρ vs xs) : Rvs K H ρ vs.dropLast xs.dropLast := by
  rw [List.dropLast_eq_take, List.dropLast_eq_take, h.length]
  exact h.take _
theorem rm_pop : RMok K rPop oPop := fun ρ H l xs as vs us a ys Q h1 h2 h3 e q => by
  unfold oPop at e
  split at e
  · obtain ⟨b, e1, e2⟩ := Option.map_eq_some_iff.mp e
    cases e2
    cases h3
    obtain ⟨v, e3, e4⟩ := h2.get e1
    exact ⟨l, vs, v, rfl, rfl, h1, by rw [h2.length]; exact e3, q _ _ e4 (rvs_dropLast h2)⟩
  · cases e
def oPopAt : List A → List A → Option (A × List A) := fun xs as => match as with
  | [.int i] => if -(2 ^ 63) ≤ i ∧ i < 2 ^ 63 then match seqIndex? i xs.length with
    | some k => (xs[k]?).map fun a => (a, xs.eraseIdx k)
    | none => none else none
  | _ => none
theorem rm_popAt : RMok K rPopAt oPopAt := fun ρ H l xs as vs us a ys Q h1 h2 h3 e q => by
  unfold oPopAt at e
  split at e
  · split at e
    · rename_i hi
      split at e
      · rename_i k ek
        obtain ⟨b, e1, e2⟩ := Option.map_eq_some_iff.mp e
        cases e2
        obtain ⟨u, rfl, h4⟩ := rvs1 h3
        cases h4
        obtain ⟨v, e3, e4⟩ := h2.get e1
        exact ⟨l, vs, _, k, v, rfl, rfl, h1, hi.1, hi.2, by rw [h2.length]; exact ek, e3, q _ _ e4 (h2.erase k)⟩
      · cases e
    · cases e
  · cases e
/-! ### targets that are names -/
abbrev MG := A → AEnv → Option AEnv
abbrev MGs := List A → AEnv → Option AEnv
def RGn (K : PySem.W.Frag) (g : TG) (m : MG) (vs : List Nat) : Prop := ∀ H ρ σ env v a k, Renv K H ρ σ env → Rv K H ρ v a → (match m a env with
  | some env' => ∀ σ', Renv K H ρ σ' env' → L2.wipe σ' vs = L2.wipe σ vs → k σ' H
  | none => False) → g v σ H k
def RGns (K : PySem.W.Frag) (g : TGs) (m : MGs) (vs : List Nat) : Prop := ∀ H ρ σ env us as k, Renv K H ρ σ env → Rvs K H ρ us as → (match m as env with
  | some env' => ∀ σ', Renv K H ρ σ' env' → L2.wipe σ' vs = L2.wipe σ vs → k σ' H
  | none => False) → g us σ H k
def mgName (i : Nat) : MG := fun a env => some (env.set i (some a))
def mgNil : MGs := fun as env => match as with
  | [] => some env
  | _ => none
def mgCons (f : MG) (g : MGs) : MGs := fun as env => match as with
  | a :: as => match f a env with
    | some e => g as e
    | none => none
  | [] => none
def mgTup (g : MGs) : MG := fun a env => match a with
  | .tup xs => g xs env
  | _ => none
theorem wipe_set {σ : L2.St} {i : Nat} {x : Option V} : ∀ {vs : List Nat}, i ∈ vs → L2.wipe (σ.set i x) vs = L2.wipe σ vs
  | v :: vs, h => by
    show (L2.wipe (σ.set i x) vs).set v none = (L2.wipe σ vs).set v none
    by_cases hv : i ∈ vs
    · rw [wipe_set hv]
    · have e : i = v := (List.mem_cons.mp h).resolve_right hv
      subst e
      have : ∀ us : List Nat, i ∉ us → L2.wipe (σ.set i x) us = (L2.wipe σ us).set i x := fun us => by
        induction us with
        | nil => intro _; rfl
        | cons u us ih =>
          intro hn
          rw [List.mem_cons, not_or] at hn
          show (L2.wipe (σ.set i x) us).set u none = ((L2.wipe σ us).set u none).set i x
          rw [ih hn.2, List.set_comm _ _ (fun z => hn.1 z.symm)]
      rw [this vs hv, List.set_set]
theorem rg_name {i : Nat} {vs : List Nat} (hi : i ∈ vs) : RGn K (gName i) (mgName i) vs := fun H ρ σ env v a k re hv h => h _ (re.set i hv) (wipe_set hi)
theorem rgs_nil {vs : List Nat} : RGns K gNil mgNil vs := fun H ρ σ env us as k re hv h => by
  cases hv with
  | nil => exact ⟨rfl, h _ re rfl⟩
  | cons _ _ => exact h.elim
theorem rgs_cons {g : TG} {gs : TGs} {m : MG} {ms : MGs} {vs : List Nat} (hg : RGn K g m vs) (hgs : RGns K gs ms vs) : RGns K (gCons g gs) (mgCons m ms) vs := fun H ρ σ env us as k re hv h => by
  cases hv with
  | nil => exact h.elim
  | cons h1 h2 =>
    rename_i v a us as
    refine ⟨_, _, rfl, hg H ρ σ env v a _ re h1 ?_⟩
    have h' : (match (match m a env with
      | some e => ms as e
      | none => none) with
      | some env' => ∀ σ', Renv K H ρ σ' env' → L2.wipe σ' vs = L2.wipe σ vs → k σ' H
      | none => False) := h
    cases em : m a env with
    | none => rw [em] at h'; exact h'
    | some e1 =>
      rw [em] at h'
      intro σ1 re1 w1
      refine hgs H ρ σ1 e1 us as k re1 h2 ?_
      simp only at h'
      cases em2 : ms as e1 with
      | none => rw [em2] at h'; exact h'
      | some e2 =>
        rw [em2] at h'
        exact fun σ2 re2 w2 => h' σ2 re2 (w2.trans w1)
theorem RGns.len {gs : TGs} {ms : MGs} {vs : List Nat} : True := trivial
theorem rg_tup {gs : TGs} {ms : MGs} {vs : List Nat} {n : Nat} (hl : ∀ as env e, ms as env = some e → as.length = n) (hg : RGns K gs ms vs) : RGn K (gTup K n gs) (mgTup ms) vs := fun H ρ σ env v a k re hv h => by
  unfold mgTup at h
  cases hv with
  | tup h1 h2 =>
    refine ⟨_, _, rfl, h1, ?_, hg H ρ σ env _ _ k re h2 h⟩
    rw [h2.length]
    simp only at h
    rename_i p us xs
    cases em : ms xs env with
    | none => rw [em] at h; exact h.elim
    | some e => exact hl _ _ _ em
  | _ => exact h.elim
theorem mgs_len0 : ∀ as env e, mgNil as env = some e → as.length = 0 := fun as env e h => by
  cases as with
  | nil => rfl
  | cons _ _ => cases h
theorem mgs_lenS {m : MG} {ms : MGs} {n : Nat} (hn : ∀ as env e, ms as env = some e → as.length = n) : ∀ as env e, mgCons m ms as env = some e → as.length = n + 1 := fun as env e h => by
  cases as with
  | nil => cases h
  | cons a as =>
    unfold mgCons at h
    simp only at h
    split at h
    · rw [List.length_cons, hn _ _ _ h]
    · cases h
/-! ### statements -/
abbrev MS := AEnv → Sto → RF
def PostS (K : PySem.W.Frag) (w : World) (ρ : List Addr) (H : Hp) (r : RF) (D : Ends) (W : WishX) : Prop := match r with
  | .fl (.nx e) st => ∀ ρ' H' σ', Ext ρ ρ' H H' → Rel K w ρ' H' st → Renv K H' ρ' σ' e → D.nx σ' H'
  | .fl (.bk e) st => ∀ ρ' H' σ', Ext ρ ρ' H H' → Rel K w ρ' H' st → Renv K H' ρ' σ' e → D.bk σ' H'
  | .fl (.ct e) st => ∀ ρ' H' σ', Ext ρ ρ' H H' → Rel K w ρ' H' st → Renv K H' ρ' σ' e → D.ct σ' H'
  | .fl (.rt a) st => ∀ ρ' H' v, Ext ρ ρ' H H' → Rel K w ρ' H' st → Rv K H' ρ' v a → D.rt v H'
  | .ex c d e st => ∀ ρ' H' σ' dx, Ext ρ ρ' H H' → Rel K w ρ' H' st → Renv K H' ρ' σ' e → RD ρ' d dx → W (.ref c) dx σ' H'
  | .no => False
theorem PostS.ext {ρ ρ1 : List Addr} {H H1 : Hp} {r : RF} {D : Ends} (p : PostS K w ρ H r D W) (e : Ext ρ ρ1 H H1) : PostS K w ρ1 H1 r D W := by
  cases r with
  | fl f st =>
    cases f with
    | nx _ => exact fun ρ' H' σ' e' => p ρ' H' σ' (e.trans e')
    | bk _ => exact fun ρ' H' σ' e' => p ρ' H' σ' (e.trans e')
    | ct _ => exact fun ρ' H' σ' e' => p ρ' H' σ' (e.trans e')
    | rt _ => exact fun ρ' H' σ' e' => p ρ' H' σ' (e.trans e')
  | ex c d en st => exact fun ρ' H' σ' dx e' => p ρ' H' σ' dx (e.trans e')
  | no => exact p
def RS (K : PySem.W.Frag) (w : World) (W : WishX) (t : TS) (f : MS) : Prop := ∀ ρ H st σ env D, Rel K w ρ H st → Renv K H ρ σ env → PostS K w ρ H (f env st) D W → t D σ H
theorem RE.useS {ta : TE} {f : ME} {k : A → Sto → RF} {ρ : List Addr} {H : Hp} {st : Sto} {σ : L2.St} {env : AEnv} {D : Ends} {Q : VK} (h : RE K w W ta f) (rel : Rel K w ρ H st) (re : Renv K H ρ σ env) (p : PostS K w ρ H ((f env st).thenS env k) D W)
    (go : ∀ a s1 ρ1 H1 v, Ext ρ ρ1 H H1 → Rel K w ρ1 H1 s1 → Rv K H1 ρ1 v a → PostS K w ρ1 H1 (k a s1) D W → Q v H1) : ta σ H Q := by
  refine h ρ H st σ env Q rel re ?_
  cases e : f env st with
  | ok a s1 =>
    rw [e] at p
    exact fun ρ1 H1 e1 r1 v hv => go a s1 ρ1 H1 v e1 r1 hv (PostS.ext p e1)
  | ex c d s1 =>
    rw [e] at p
    exact fun ρ1 H1 dx e1 r1 hd => p ρ1 H1 σ dx e1 r1 (re.ext e1) hd
  | no => rw [e] at p; exact p
theorem RT.useS {ta : TT} {f : MT} {k : Bool → Sto → RF} {ρ : List Addr} {H : Hp} {st : Sto} {σ : L2.St} {env : AEnv} {D : Ends} {Q : Bool → Hp → Prop} (h : RT K w W ta f) (rel : Rel K w ρ H st) (re : Renv K H ρ σ env) (p : PostS K w ρ H ((f env st).thenS env k) D W)
    (go : ∀ a s1 ρ1 H1, Ext ρ ρ1 H H1 → Rel K w ρ1 H1 s1 → PostS K w ρ1 H1 (k a s1) D W → Q a H1) : ta σ H Q := by
  refine h ρ H st σ env Q rel re ?_
  cases e : f env st with
  | ok a s1 =>
    rw [e] at p
    exact fun ρ1 H1 e1 r1 => go a s1 ρ1 H1 e1 r1 (PostS.ext p e1)
  | ex c d s1 =>
    rw [e] at p
    exact fun ρ1 H1 dx e1 r1 hd => p ρ1 H1 σ dx e1 r1 (re.ext e1) hd
  | no => rw [e] at p; exact p
def sNext : MS := fun env st => .fl (.nx env) st
def sSeq (f g : MS) : MS := fun env st => (f env st).next g
def sIf (c : MT) (f g : MS) : MS := fun env st => (c env st).thenS env fun b s => if b = true then f env s else g env s
def sRet (f : ME) : MS := fun env st => (f env st).thenS env fun a s => .fl (.rt a) s
def sRetN : MS := fun _ st => .fl (.rt .non) st
def sDrop (f : ME) : MS := fun env st => (f env st).thenS env fun _ s => .fl (.nx env) s
def sBreak : MS := fun env st => .fl (.bk env) st
def sCont : MS := fun env st => .fl (.ct env) st
def sAsg (f : ME) (g : MG) : MS := fun env st => (f env st).thenS env fun a s => match g a env with
  | some e => .fl (.nx e) s
  | none => .no
theorem rs_next : RS K w W tNext sNext := fun ρ H st σ env D rel re p => p ρ H σ (Ext.refl _ _) rel re
theorem rs_break : RS K w W tBreak sBreak := fun ρ H st σ env D rel re p => p ρ H σ (Ext.refl _ _) rel re
theorem rs_cont : RS K w W tCont sCont := fun ρ H st σ env D rel re p => p ρ H σ (Ext.refl _ _) rel re
theorem rs_seq {t u : TS} {f g : MS} (hf : RS K w W t f) (hg : RS K w W u g) : RS K w W (tSeq t u) (sSeq f g) := fun ρ H st σ env D rel re p => by
  refine hf ρ H st σ env _ rel re ?_
  have p : PostS K w ρ H ((f env st).next g) D W := p
  cases e : f env st with
  | fl fl s1 =>
    rw [e] at p
    cases fl with
    | nx e1 => exact fun ρ1 H1 σ1 x1 r1 re1 => hg ρ1 H1 s1 σ1 e1 D r1 re1 (PostS.ext p x1)
    | bk e1 => exact p
    | ct e1 => exact p
    | rt e1 => exact p
  | ex c d e1 s1 => rw [e] at p; exact p
  | no => rw [e] at p; exact p
theorem rs_if {c : TT} {t u : TS} {m : MT} {f g : MS} (hc : RT K w W c m) (hf : RS K w W t f) (hg : RS K w W u g) : RS K w W (tIfS c t u) (sIf m f g) := fun ρ H st σ env D rel re p =>
  hc.useS rel re p fun b s1 ρ1 H1 e1 r1 p1 => by
    cases b with
    | true => exact iteT (hf ρ1 H1 s1 σ env D r1 (re.ext e1) p1)
    | false => exact iteF (hg ρ1 H1 s1 σ env D r1 (re.ext e1) p1)
theorem rs_ret {t : TE} {f : ME} (hf : RE K w W t f) : RS K w W (tRet t) (sRet f) := fun ρ H st σ env D rel re p =>
  hf.useS rel re p fun a s1 ρ1 H1 x e1 r1 v1 p1 => p1 ρ1 H1 x (Ext.refl _ _) r1 v1
theorem rs_retN : RS K w W tRetN sRetN := fun ρ H st σ env D rel re p => p ρ H .non (Ext.refl _ _) rel .non
theorem rs_drop {t : TE} {f : ME} (hf : RE K w W t f) : RS K w W (tDrop t) (sDrop f) := fun ρ H st σ env D rel re p =>
  hf.useS rel re p fun a s1 ρ1 H1 x e1 r1 v1 p1 => p1 ρ1 H1 σ (Ext.refl _ _) r1 (re.ext e1)
theorem rs_asg {t : TE} {g : TG} {f : ME} {m : MG} {vs : List Nat} (hf : RE K w W t f) (hg : RGn K g m vs) : RS K w W (tAsg t g) (sAsg f m) := fun ρ H st σ env D rel re p =>
  hf.useS rel re p fun a s1 ρ1 H1 x e1 r1 v1 p1 => by
    refine hg H1 ρ1 σ env x a _ (re.ext e1) v1 ?_
    cases em : m a env with
    | none => rw [em] at p1; exact p1
    | some e2 =>
      rw [em] at p1
      exact fun σ' re' _ => p1 ρ1 H1 σ' (Ext.refl _ _) r1 re'
/-- xs[i] = e -/
def sPutL (f o i : ME) : MS := fun env st => (f env st).thenS env fun a s1 => (o env s1).thenS env fun x s2 => (i env s2).thenS env fun y s3 => match y, getM s3 x with
  | .int k, some (n, xs) => match ixN xs.length k with
    | some j => .fl (.nx env) (s3.set n (.lst (xs.set j a)))
    | none => .no
  | _, _ => .no
/-! ### what is walked -/
structure RIt (K : PySem.W.Frag) (w : World) (ρ : List Addr) (H : Hp) (J : It) (xs : List A) (ok : Sto → Prop) : Prop where
  go : ∀ (i : Nat) (a : A) ρ' H' st', Ext ρ ρ' H H' → Rel K w ρ' H' st' → ok st' → xs[i]? = some a → J.go i H' ∧ ∀ x H2, J.yld i H' x H2 → Same H' H2 ∧ Rv K H2 ρ' x a
  stop : ∀ ρ' H' st', Ext ρ ρ' H H' → Rel K w ρ' H' st' → ok st' → J.stop xs.length H'
theorem RIt.ext {ρ ρ1 : List Addr} {H H1 : Hp} {J : It} {xs : List A} {ok : Sto → Prop} (r : RIt K w ρ H J xs ok) (e : Ext ρ ρ1 H H1) : RIt K w ρ1 H1 J xs ok :=
  ⟨fun i a ρ' H' st' e' => r.go i a ρ' H' st' (e.trans e'), fun ρ' H' st' e' => r.stop ρ' H' st' (e.trans e')⟩
abbrev MI := AEnv → Sto → Res (List A × (Sto → Prop))
def RI (K : PySem.W.Frag) (w : World) (W : WishX) (wi : TI) (mi : MI) : Prop := ∀ ρ H st σ env R, Rel K w ρ H st → Renv K H ρ σ env → Post K w ρ H (mi env st) (fun xo _ ρ' H' => ∀ J, RIt K w ρ' H' J xo.1 xo.2 → R J H') (W · · σ ·) → wi σ H R
def miL (f : ME) : MI := fun env st => (f env st).bind fun a s => match getL s a with
  | some xs => .ok (xs, fun s' => getL s' a = some xs) s
  | none => .no
theorem ri_list {t : TE} {f : ME} (hf : RE K w W t f) : RI K w W (iList K t) (miL f) := fun ρ H st σ env R rel re p =>
  hf.use rel re p fun a s1 ρ1 H1 x e1 r1 v1 p1 => by
    split at p1
    · rename_i xs e
      obtain ⟨q, vs, rfl, h1, h2⟩ := getL_sq r1 v1 e
      refine ⟨q, rfl, ⟨_, h1⟩, p1 ρ1 H1 (Ext.refl _ _) r1 _ ⟨fun i b ρ' H' st' e' r' ok eb => ?_, fun ρ' H' st' e' r' ok => ?_⟩⟩
      · obtain ⟨q', vs', ee, h3, h4⟩ := getL_sq r' (rv_ext e' v1) ok
        cases ee
        obtain ⟨v, e5, e6⟩ := h4.get eb
        refine ⟨(walk_list (K := K) (a := q) (xs := vs')).goes i H' (by rw [h4.length]; exact (List.getElem?_eq_some_iff.mp eb).1) h3, fun x H2 y => ?_⟩
        obtain ⟨rfl, hx⟩ := (walk_list (K := K) (a := q) (xs := vs')).yields i H' x H2 (by rw [h4.length]; exact (List.getElem?_eq_some_iff.mp eb).1) h3 y
        rw [e5] at hx
        cases hx
        exact ⟨Same.refl _, e6⟩
      · obtain ⟨q', vs', ee, h3, h4⟩ := getL_sq r' (rv_ext e' v1) ok
        cases ee
        have := (walk_list (K := K) (a := q) (xs := vs')).stops H' h3
        rw [h4.length] at this
        exact this
    · exact p1.elim
def miT (f : ME) : MI := fun env st => (f env st).bind fun a s => match a with
  | .tup xs => .ok (xs, fun _ => True) s
  | _ => .no
theorem ri_tup {t : TE} {f : ME} (hf : RE K w W t f) : RI K w W (iTup K t) (miT f) := fun ρ H st σ env R rel re p =>
  hf.use rel re p fun a s1 ρ1 H1 x e1 r1 v1 p1 => by
    split at p1
    · rename_i xs
      obtain ⟨q, vs, rfl, h1, h2⟩ := getT_sq v1 rfl
      refine ⟨q, rfl, ⟨_, h1⟩, p1 ρ1 H1 (Ext.refl _ _) r1 _ ⟨fun i b ρ' H' st' e' r' _ eb => ?_, fun ρ' H' st' e' r' _ => ?_⟩⟩
      · have h3 := sqT_kt e'.kt h1
        obtain ⟨v, e5, e6⟩ := (rvs_ext e' h2).get eb
        have hi : i < vs.length := by rw [h2.length]; exact (List.getElem?_eq_some_iff.mp eb).1
        refine ⟨(walk_tup (K := K) (a := q) (xs := vs)).goes i H' hi h3, fun x H2 y => ?_⟩
        obtain ⟨rfl, hx⟩ := (walk_tup (K := K) (a := q) (xs := vs)).yields i H' x H2 hi h3 y
        rw [e5] at hx
        cases hx
        exact ⟨Same.refl _, e6⟩
      · have := (walk_tup (K := K) (a := q) (xs := vs)).stops H' (sqT_kt e'.kt h1)
        rw [h2.length] at this
        exact this
    · exact p1.elim
def rngA (lo : Int) (n : Nat) : List A := (List.range n).map fun i : Nat => A.int (lo + (i : Int))
theorem rit_range {ρ : List Addr} {H : Hp} {lo : Int} {n : Nat} : RIt K w ρ H (Itr lo n) (rngA lo n) fun _ => True := by
  refine ⟨fun i a ρ' H' st' e' r' _ ea => ?_, fun ρ' H' st' e' r' _ => ?_⟩
  · unfold rngA at ea
    rw [List.getElem?_map] at ea
    obtain ⟨j, ej, rfl⟩ := Option.map_eq_some_iff.mp ea
    obtain ⟨hj, rfl⟩ := List.getElem?_eq_some_iff.mp ej
    rw [List.length_range] at hj
    rw [List.getElem_range]
    refine ⟨hj, fun x H2 y => ?_⟩
    obtain ⟨rfl, rfl⟩ := y
    exact ⟨Same.refl _, .int _⟩
  · show n ≤ (rngA lo n).length
    unfold rngA
    rw [List.length_map, List.length_range]
    exact Nat.le_refl _
def miR1 (f : MA) : MI := fun env st => (f env st).bind fun as s => match as with
  | [.int j] => if -(2 ^ 62) ≤ j ∧ j < 2 ^ 62 then .ok (rngA 0 j.toNat, fun _ => True) s else .no
  | _ => .no
def miR2 (f : MA) : MI := fun env st => (f env st).bind fun as s => match as with
  | [.int i, .int j] => if -(2 ^ 62) ≤ i ∧ i < 2 ^ 62 ∧ -(2 ^ 62) ≤ j ∧ j < 2 ^ 62 then .ok (rngA i (j - i).toNat, fun _ => True) s else .no
  | _ => .no
theorem ri_range1 {t : TA} {f : MA} (hf : RA K w W t f) : RI K w W (iRng1 t) (miR1 f) := fun ρ H st σ env R rel re p =>
  hf.use rel re p fun a s1 ρ1 H1 x e1 r1 v1 p1 => by
    split at p1
    · split at p1
      · rename_i hj
        obtain ⟨v, rfl, h⟩ := rvs1 v1
        cases h
        exact ⟨_, rfl, hj.1, hj.2, p1 ρ1 H1 (Ext.refl _ _) r1 _ rit_range⟩
      · exact p1.elim
    · exact p1.elim
theorem ri_range2 {t : TA} {f : MA} (hf : RA K w W t f) : RI K w W (iRng2 t) (miR2 f) := fun ρ H st σ env R rel re p =>
  hf.use rel re p fun a s1 ρ1 H1 x e1 r1 v1 p1 => by
    split at p1
    · split at p1
      · rename_i hj
        obtain ⟨v, u, rfl, h, h'⟩ := rvs2 v1
        cases h
        cases h'
        exact ⟨_, _, rfl, hj, p1 ρ1 H1 (Ext.refl _ _) r1 _ rit_range⟩
      · exact p1.elim
    · exact p1.elim
end

/-! ### mirrors: loops, comprehensions, calls -/
section
variable {w : World} {W : WishX}
open Classical in
noncomputable def forL (ok : Sto → Prop) (g : MG) (b : MS) : List A → MS
  | [], env, st => if ok st then .fl (.nx env) st else .no
  | x :: xs, env, st => if ok st then (match g x env with
    | some e1 => match b e1 st with
      | .fl (.nx e2) s2 => forL ok g b xs e2 s2
      | .fl (.ct e2) s2 => forL ok g b xs e2 s2
      | .fl (.bk e2) s2 => .fl (.nx e2) s2
      | .fl (.rt a) s2 => .fl (.rt a) s2
      | .ex c d e2 s2 => .ex c d e2 s2
      | .no => .no
    | none => .no) else .no
noncomputable def sFor (mi : MI) (g : MG) (b : MS) : MS := fun env st => (mi env st).thenS env fun xo s => forL xo.2 g b xo.1 env s
theorem rs_for {wi : TI} {g : TG} {tb : TS} {mi : MI} {m : MG} {b : MS} {vs : List Nat} (hi : RI K w W wi mi) (hg : RGn K g m vs) (hb : RS K w W tb b) : RS K w W (tFor wi g tb) (sFor mi m b) := fun ρ H st σ env D rel re p => by
  have p : PostS K w ρ H ((mi env st).thenS env fun xo s => forL xo.2 m b xo.1 env s) D W := p
  refine hi ρ H st σ env _ rel re ?_
  cases e : mi env st with
  | no => rw [e] at p; exact p
  | ex c d s1 =>
    rw [e] at p
    exact fun ρ1 H1 dx e1 r1 hd => p ρ1 H1 σ dx e1 r1 (re.ext e1) hd
  | ok xo s1 =>
    rw [e] at p
    obtain ⟨xs, ok⟩ := xo
    intro ρ1 H1 e1 r1 J hJ
    have p1 : PostS K w ρ1 H1 (forL ok m b xs env s1) D W := PostS.ext p e1
    refine ⟨fun i n σ H2 => n = xs.length - i ∧ i ≤ xs.length ∧ ∃ ρ2 s2 env2, Ext ρ1 ρ2 H1 H2 ∧ Rel K w ρ2 H2 s2 ∧ Renv K H2 ρ2 σ env2 ∧ PostS K w ρ2 H2 (forL ok m b (xs.drop i) env2 s2) D W, ⟨_, rfl, Nat.zero_le _, ρ1, s1, env, Ext.refl _ _, r1, re.ext e1, by rw [List.drop_zero]; exact p1⟩, ?_⟩
    rintro i n σ2 H2 ⟨rfl, hi2, ρ2, s2, env2, e2, r2, re2, p2⟩
    by_cases lt : i < xs.length
    · have ea : xs[i]? = some xs[i] := List.getElem?_eq_getElem lt
      rw [List.drop_eq_getElem_cons lt] at p2
      unfold forL at p2
      split at p2
      · rename_i hok
        obtain ⟨hgo, hy⟩ := hJ.go i _ ρ2 H2 s2 e2 r2 hok ea
        refine .inr ⟨hgo, fun σ' H' => ∃ ρ3 s3 env3, Ext ρ1 ρ3 H1 H' ∧ Rel K w ρ3 H' s3 ∧ Renv K H' ρ3 σ' env3 ∧ PostS K w ρ3 H' (forL ok m b (xs.drop (i + 1)) env3 s3) D W, fun σ' H' hN => ⟨xs.length - (i + 1), by omega, rfl, lt, hN⟩, fun x H' yl => ?_⟩
        obtain ⟨sm, hx⟩ := hy x H' yl
        have e3 : Ext ρ2 ρ2 H2 H' := Ext.same sm
        have r3 := r2.same sm
        refine hg H' ρ2 σ2 env2 x _ _ (re2.ext e3) hx ?_
        cases em : m xs[i] env2 with
        | none => rw [em] at p2; exact p2
        | some env3 =>
          rw [em] at p2
          intro σ3 re3 _
          refine hb ρ2 H' s2 σ3 env3 _ r3 re3 ?_
          simp only at p2
          cases eb : b env3 s2 with
          | no => rw [eb] at p2; exact p2
          | ex c d env4 s4 =>
            rw [eb] at p2
            exact fun ρ4 H4 σ4 dx e4 r4 re4 hd => p2 ρ4 H4 σ4 dx (e3.trans e4) r4 re4 hd
          | fl f s4 =>
            rw [eb] at p2
            cases f with
            | nx env4 => exact fun ρ4 H4 σ4 e4 r4 re4 => ⟨ρ4, s4, env4, e2.trans (e3.trans e4), r4, re4, PostS.ext p2 (e3.trans e4)⟩
            | ct env4 => exact fun ρ4 H4 σ4 e4 r4 re4 => ⟨ρ4, s4, env4, e2.trans (e3.trans e4), r4, re4, PostS.ext p2 (e3.trans e4)⟩
            | bk env4 => exact fun ρ4 H4 σ4 e4 r4 re4 => p2 ρ4 H4 σ4 (e3.trans e4) r4 re4
            | rt a => exact fun ρ4 H4 v e4 r4 hv => p2 ρ4 H4 v (e3.trans e4) r4 hv
      · exact p2.elim
    · obtain rfl : i = xs.length := by omega
      rw [List.drop_length] at p2
      unfold forL at p2
      split at p2
      · rename_i hok
        exact .inl ⟨hJ.stop ρ2 H2 s2 e2 r2 hok, p2 ρ2 H2 σ2 (Ext.refl _ _) r2 re2⟩
      · exact p2.elim
/-- while, as often as there is fuel -/
def whileF (c : MT) (b : MS) : Nat → MS
  | 0, _, _ => .no
  | n + 1, env, st => (c env st).thenS env fun k s => if k = true then (match b env s with
    | .fl (.nx e2) s2 => whileF c b n e2 s2
    | .fl (.ct e2) s2 => whileF c b n e2 s2
    | .fl (.bk e2) s2 => .fl (.nx e2) s2
    | .fl (.rt a) s2 => .fl (.rt a) s2
    | .ex c d e2 s2 => .ex c d e2 s2
    | .no => .no) else .fl (.nx env) s
theorem rs_while {c : TT} {tb : TS} {m : MT} {b : MS} {n : Nat} (hc : RT K w W c m) (hb : RS K w W tb b) : RS K w W (tWhile c tb) (whileF m b n) := fun ρ H st σ env D rel re p => by
  refine ⟨fun n σ H => ∃ ρ st env, Rel K w ρ H st ∧ Renv K H ρ σ env ∧ PostS K w ρ H (whileF m b n env st) D W, ⟨n, ρ, st, env, rel, re, p⟩, ?_⟩
  rintro n σ2 H2 ⟨ρ2, s2, env2, r2, re2, p2⟩
  cases n with
  | zero => exact p2.elim
  | succ n =>
    refine hc.useS r2 re2 p2 fun k s3 ρ3 H3 e3 r3 p3 => ?_
    cases k with
    | false => exact iteF (p3 ρ3 H3 σ2 (Ext.refl _ _) r3 (re2.ext e3))
    | true =>
      refine iteT ⟨fun σ' H' => ∃ ρ st env, Rel K w ρ H' st ∧ Renv K H' ρ σ' env ∧ PostS K w ρ H' (whileF m b n env st) D W, fun σ' H' h => ⟨n, Nat.lt_succ_self n, h⟩, ?_⟩
      refine hb ρ3 H3 s3 σ2 env2 _ r3 (re2.ext e3) ?_
      have p3 : PostS K w ρ3 H3 (match b env2 s3 with
        | .fl (.nx e2) s2 => whileF m b n e2 s2
        | .fl (.ct e2) s2 => whileF m b n e2 s2
        | .fl (.bk e2) s2 => .fl (.nx e2) s2
        | .fl (.rt a) s2 => .fl (.rt a) s2
        | .ex c d e2 s2 => .ex c d e2 s2
        | .no => .no) D W := p3
      cases eb : b env2 s3 with
      | no => rw [eb] at p3; exact p3
      | ex c d env4 s4 => rw [eb] at p3; exact p3
      | fl f s4 =>
        rw [eb] at p3
        cases f with
        | nx env4 => exact fun ρ4 H4 σ4 e4 r4 re4 => ⟨ρ4, s4, env4, r4, re4, PostS.ext p3 e4⟩
        | ct env4 => exact fun ρ4 H4 σ4 e4 r4 re4 => ⟨ρ4, s4, env4, r4, re4, PostS.ext p3 e4⟩
        | bk env4 => exact p3
        | rt a => exact p3
/-! ### comprehensions -/
def noX {α : Type} (r : Res α) : Res α := match r with
  | .ex _ _ _ => .no
  | r => r
abbrev WF : WishX := fun _ _ _ _ => False
open Classical in
noncomputable def lcL (n : Nat) (ok : Sto → Prop) (g : MG) (tt : MT) (te : ME) (env : AEnv) : List A → Sto → Res A
  | [], st => if ok st then .ok (.ref n) st else .no
  | x :: xs, st => if ok st then (match g x env with
    | some e1 => (noX (tt e1 st)).bind fun k s1 => if k = true then (noX (te e1 s1)).bind fun y s2 => (match s2[n]? with
      | some (.lst acc) => if acc.length < sizeLine then lcL n ok g tt te env xs (s2.set n (.lst (acc ++ [y]))) else .no
      | _ => .no) else lcL n ok g tt te env xs s1
    | none => .no) else .no
noncomputable def mLc (mi : MI) (g : MG) (tt : MT) (te : ME) (vs : List Nat) : ME := fun env st => (mi env st).bind fun xo s => lcL s.length xo.2 g tt te (wipeA env vs) xo.1 (s ++ [.lst []])
theorem noX_use {α : Type} {ρ : List Addr} {H : Hp} {r : Res α} {β : Type} {k : α → Sto → Res β} {R : β → Sto → List Addr → Hp → Prop} {X : Value → Option Addr → Hp → Prop} {S : α → Sto → List Addr → Hp → Prop} (p : Post K w ρ H ((noX r).bind k) R X)
    (go : ∀ a s1 ρ1 H1, Ext ρ ρ1 H H1 → Rel K w ρ1 H1 s1 → Post K w ρ1 H1 (k a s1) R X → S a s1 ρ1 H1) : Post K w ρ H r S (fun _ _ _ => False) := by
  cases r with
  | ok a s => exact fun ρ1 H1 e1 r1 => go a s ρ1 H1 e1 r1 (Post.ext p e1)
  | ex c d s => exact p.elim
  | no => exact p
theorem re_lc {wi : TI} {g : TG} {tt : TT} {te : TE} {mi : MI} {m : MG} {ft : MT} {fe : ME} {vs : List Nat} (hi : RI K w W wi mi) (hg : RGn K g m vs) (ht : RT K w WF tt ft) (he : RE K w WF te fe) : RE K w W (tLc wi g tt te vs) (mLc mi m ft fe vs) := fun ρ H st σ env Q rel re p => by
  have p : Post K w ρ H ((mi env st).bind fun xo s => lcL s.length xo.2 m ft fe (wipeA env vs) xo.1 (s ++ [.lst []])) (fun a _ ρ' H' => ∀ v, Rv K H' ρ' v a → Q v H') (W · · σ ·) := p
  refine hi ρ H st σ env _ rel re ?_
  cases e : mi env st with
  | no => rw [e] at p; exact p
  | ex c d s1 => rw [e] at p; exact p
  | ok xo s1 =>
    rw [e] at p
    obtain ⟨xs, ok⟩ := xo
    intro ρ1 H1 e1 r1 J hJ D nD
    obtain ⟨e2, r2⟩ := r1.new (o := .lst []) (u := .lst []) nD fun H' e' h' => ⟨[], h', .nil⟩
    have hD := r1.last D
    have p1 : Post K w (ρ1 ++ [D]) (upd H1 D (.lst [])) (lcL s1.length ok m ft fe (wipeA env vs) xs (s1 ++ [.lst []])) (fun a _ ρ' H' => ∀ v, Rv K H' ρ' v a → Q v H') (W · · σ ·) := Post.ext p (e1.trans e2)
    refine ⟨fun i n H2 => n = xs.length - i ∧ i ≤ xs.length ∧ ∃ ρ2 s2, Ext (ρ1 ++ [D]) ρ2 (upd H1 D (.lst [])) H2 ∧ Rel K w ρ2 H2 s2 ∧ Post K w ρ2 H2 (lcL s1.length ok m ft fe (wipeA env vs) (xs.drop i) s2) (fun a _ ρ' H' => ∀ v, Rv K H' ρ' v a → Q v H') (W · · σ ·), ⟨_, rfl, Nat.zero_le _, _, _, Ext.refl _ _, r2, by rw [List.drop_zero]; exact p1⟩, ?_⟩
    rintro i n H2 ⟨rfl, hi2, ρ2, s2, e3, r3, p2⟩
    have e13 := e2.trans e3
    by_cases lt : i < xs.length
    · have ea : xs[i]? = some xs[i] := List.getElem?_eq_getElem lt
      rw [List.drop_eq_getElem_cons lt] at p2
      unfold lcL at p2
      split at p2
      · rename_i hok
        obtain ⟨hgo, hy⟩ := hJ.go i _ ρ2 H2 s2 e13 r3 hok ea
        refine .inr ⟨hgo, fun H' => ∃ ρ3 s3, Ext (ρ1 ++ [D]) ρ3 (upd H1 D (.lst [])) H' ∧ Rel K w ρ3 H' s3 ∧ Post K w ρ3 H' (lcL s1.length ok m ft fe (wipeA env vs) (xs.drop (i + 1)) s3) (fun a _ ρ' H' => ∀ v, Rv K H' ρ' v a → Q v H') (W · · σ ·), fun H' hN => ⟨xs.length - (i + 1), by omega, rfl, lt, hN⟩, fun x H' yl => ?_⟩
        obtain ⟨sm, hx⟩ := hy x H' yl
        have e4 : Ext ρ2 ρ2 H2 H' := Ext.same sm
        have r4 := r3.same sm
        refine hg H' ρ2 (L2.wipe σ vs) (wipeA env vs) x _ _ ((re.ext (e1.trans (e13.trans e4))).wipe vs) hx ?_
        cases em : m xs[i] (wipeA env vs) with
        | none => rw [em] at p2; exact p2
        | some env3 =>
          rw [em] at p2
          intro σ3 re3 wp
          have ww : L2.wipe (L2.wipe σ vs) vs = L2.wipe σ vs := by
            have : ∀ us : List Nat, (∀ u ∈ us, u ∈ vs) → L2.wipe (L2.wipe σ us) vs = L2.wipe σ vs := fun us => by
              induction us with
              | nil => intro _; rfl
              | cons u us ih =>
                intro hu
                show L2.wipe ((L2.wipe σ us).set u none) vs = L2.wipe σ vs
                rw [wipe_set (hu u List.mem_cons_self), ih fun z hz => hu z (List.mem_cons_of_mem _ hz)]
            exact this vs fun _ h => h
          refine ⟨wp.trans ww, ht ρ2 H' s2 σ3 env3 _ r4 re3 (noX_use (Post.ext p2 e4) fun k s5 ρ5 H5 e5 r5 p5 => ?_)⟩
          cases k with
          | false =>
            refine iteF ⟨ρ5, s5, e3.trans (e4.trans e5), r5, p5⟩
          | true =>
            refine iteT (he ρ5 H5 s5 σ3 env3 _ r5 (re3.ext e5) (noX_use p5 fun y s6 ρ6 H6 e6 r6 p6 v hv => ?_))
            split at p6
            · rename_i acc ea2
              obtain ⟨us, h1, h2⟩ := r6.get ((e3.trans (e4.trans (e5.trans e6))).get hD) ea2
              split at p6
              · rename_i hl
                obtain ⟨e7, r7⟩ := set_put r6 ((e3.trans (e4.trans (e5.trans e6))).get hD) (h2.append (.cons hv .nil))
                exact ⟨us, h1, by rw [h2.length]; exact hl, ρ6, _, e3.trans (e4.trans (e5.trans (e6.trans e7))), r7, Post.ext p6 e7⟩
              · exact p6.elim
            · exact p6.elim
      · exact p2.elim
    · obtain rfl : i = xs.length := by omega
      rw [List.drop_length] at p2
      unfold lcL at p2
      split at p2
      · rename_i hok
        exact .inl ⟨hJ.stop ρ2 H2 s2 e13 r3 hok, p2.give r3 (.ref (e3.get hD))⟩
      · exact p2.elim
def mYes : MT := fun _ st => .ok true st
theorem rt_yes : RT K w W tYes mYes := fun ρ H st σ env Q rel re p => p ρ H (Ext.refl _ _) rel
/-! ### calls -/
def spM (K : PySem.W.Frag) (w : World) (n : Nat) (m : List A → Sto → Res A) : Sp := fun vs H Q E => ∃ ρ st as, vs.length = n ∧ Rel K w ρ H st ∧ Rvs K H ρ vs as ∧ Post K w ρ H (m as st) (fun a _ ρ' H' => ∀ v, Rv K H' ρ' v a → Q v H') (fun c d H' => E c d H')
/-- .. of a def that lets nothing out -/
def spN (K : PySem.W.Frag) (w : World) (n : Nat) (m : List A → Sto → Res A) : Sp := spM K w n fun as st => noX (m as st)
theorem noX_any {α : Type} {ρ : List Addr} {H : Hp} {r : Res α} {R : α → Sto → List Addr → Hp → Prop} {X X' : Value → Option Addr → Hp → Prop} (p : Post K w ρ H (noX r) R X) : Post K w ρ H (noX r) R X' := by
  cases r with
  | ok a s => exact p
  | ex c d s => exact p
  | no => exact p
def mCall (n : Nat) (m : List A → Sto → Res A) (f : MA) : ME := fun env st => (f env st).bind fun as s => if as.length = n then noX (m as s) else .no
theorem re_call {n : Nat} {m : List A → Sto → Res A} {t : TA} {f : MA} (hf : RA K w W t f) : RE K w W (tCall (spN K w n m) [] E0 t) (mCall n m f) := fun ρ H st σ env Q rel re p =>
  hf.use rel re p fun as s1 ρ1 H1 vs e1 r1 v1 p1 => by
    split at p1
    · rename_i hl
      exact ⟨ρ1, s1, as, by rw [List.append_nil, v1.length]; exact hl, r1, by rw [List.append_nil]; exact v1, noX_any p1⟩
    · exact p1.elim
def fin : RF → Res A
  | .fl (.rt a) s => .ok a s
  | .fl (.nx _) s => .ok .non s
  | .ex c d _ s => .ex c d s
  | _ => .no
def runB (n : Nat) (b : MS) : List A → Sto → Res A := fun as st => fin (b (as.map some ++ List.replicate (n - as.length) none) st)
theorem renv_start {ρ : List Addr} {H : Hp} {N : List Str} {vs : List V} {as : List A} (h : Rvs K H ρ vs as) : Renv K H ρ (L2.start N vs) (as.map some ++ List.replicate (N.length - as.length) none) := by
  have hl := h.length
  refine ⟨by unfold L2.start; simp [hl], fun i a e => ?_⟩
  by_cases hi : i < as.length
  · rw [List.getElem?_append_left (by simpa using hi), List.getElem?_map] at e
    obtain ⟨b, eb, ec⟩ := Option.map_eq_some_iff.mp e
    cases ec
    obtain ⟨v, ev, rv⟩ := h.get eb
    refine ⟨v, ?_, rv⟩
    unfold L2.start
    rw [List.getElem?_append_left (by rw [List.length_map, hl]; exact hi), List.getElem?_map, ev]
    rfl
  · rw [List.getElem?_append_right (by simpa using Nat.le_of_not_lt hi)] at e
    rw [List.getElem?_replicate] at e
    split at e
    · cases e
    · cases e
/-- a def's promise by its mirror: nothing leaves it -/
theorem spN_body {N : List Str} {n : Nat} {b : MS} {t : TS} (hb : RS K w WF t b) {vs : List V} {H : Hp} {Q : VK} {E : XK} (h : spN K w n (runB N.length b) vs H Q E) : t { nx := fun _ H' => Q .non H', rt := Q } (L2.start N vs) H := by
  obtain ⟨ρ, st, as, _, rel, rv, p⟩ := h
  refine hb ρ H st _ _ _ rel (renv_start rv) ?_
  replace p : Post K w ρ H (noX (runB N.length b as st)) (fun a _ ρ' H' => ∀ v, Rv K H' ρ' v a → Q v H') (fun c d H' => E c d H') := p
  unfold runB at p
  cases e : b (as.map some ++ List.replicate (N.length - as.length) none) st with
  | no => rw [e] at p; exact p
  | ex c d e2 s => rw [e] at p; exact p.elim
  | fl f s =>
    rw [e] at p
    cases f with
    | nx e2 => exact fun ρ' H' σ' e' r' _ => p ρ' H' e' r' _ .non
    | rt a => exact fun ρ' H' v e' r' hv => p ρ' H' e' r' v hv
    | bk e2 => exact p.elim
    | ct e2 => exact p.elim
end
/-! ### operators by the kinds of what they meet -/
section
variable {w : World} {W : WishX} {X : Cx}
def rAddD (K : PySem.W.Frag) : R2 := rOr (rI0 fun i j => .int (i + j)) (rOr (fun x y H Q => ∃ i j, x = .str i ∧ y = .str j ∧ i.length + j.length ≤ sizeLine ∧ Q (.str (i ++ j)) H) (rOr (rCatA K) rCat))
theorem dAdd : OpR X (binaryOp .Add) (rAddD X.K) := OpR.or op_add (OpR.or op_add_str (OpR.or op_catA op_cat))
def oAdd : A → A → Sto → Res A := oOr (fun a _ => isInt a) (oI0 fun i j => .int (i + j)) (oOr (fun a _ => isStr a) (oS (fun i j => decide (i.length + j.length ≤ sizeLine)) fun i j => .str (i ++ j)) (oOr (fun a _ => isTup a) oCatT oCat))
theorem r2_add : R2ok K w (rAddD K) oAdd := r2_or (r2_I0 fun _ _ _ _ => .int _) (r2_or r2_addS (r2_or r2_catT r2_cat))
def rSubD : R2 := rI0 fun i j => .int (i - j)
theorem dSub : OpR X (binaryOp .Sub) rSubD := op_sub
def oSub : A → A → Sto → Res A := oI0 fun i j => .int (i - j)
theorem r2_sub : R2ok K w rSubD oSub := r2_I0 fun _ _ _ _ => .int _
def rMulD : R2 := rOr (rI CMul fun i j => .int (i * j)) rRep
theorem dMul : OpR X (binaryOp .Mult) rMulD := OpR.or op_mul op_rep
def cMul (i j : Int) : Bool := decide ((-(2 ^ 64) < i ∧ i < 2 ^ 64) ∨ (-(2 ^ 64) < j ∧ j < 2 ^ 64))
def oMul : A → A → Sto → Res A := oOr (fun a _ => isInt a) (oI cMul fun i j => .int (i * j)) oRep
theorem r2_mul : R2ok K w rMulD oMul := r2_or (r2_I (fun _ _ h => by have := of_decide_eq_true h; exact this) fun _ _ _ _ => .int _) r2_rep
def rDivD : R2 := rI CDivW fun i j => .int (i / j)
theorem dDiv : OpR X (binaryOp .FloorDiv) rDivD := op_fdivW
def oDiv : A → A → Sto → Res A := oI (fun _ j => decide (0 < j ∧ j.natAbs.log2 < 9000)) fun i j => .int (i / j)
theorem r2_div : R2ok K w rDivD oDiv := r2_I (fun _ _ h => by have := of_decide_eq_true h; exact this) fun _ _ _ _ => .int _
def rModD : R2 := rI (fun _ j => 0 < j) fun i j => .int (i % j)
theorem dMod : OpR X (binaryOp .Mod) rModD := op_mod
def oMod : A → A → Sto → Res A := oI (fun _ j => decide (0 < j)) fun i j => .int (i % j)
theorem r2_mod : R2ok K w rModD oMod := r2_I (fun _ _ h => by have := of_decide_eq_true h; exact this) fun _ _ _ _ => .int _
def rPowD : R2 := rI CPow fun i j => .int (i ^ j.toNat)
theorem dPow : OpR X (binaryOp .Pow) rPowD := op_pow
def oPow : A → A → Sto → Res A := oI (fun i j => decide (0 ≤ j ∧ j ≤ 1000000 ∧ i.natAbs < 2 ^ 64)) fun i j => .int (i ^ j.toNat)
theorem r2_pow : R2ok K w rPowD oPow := r2_I (fun _ _ h => by have := of_decide_eq_true h; exact this) fun _ _ _ _ => .int _
def rLtD : R2 := rOr (rI0 fun i j => .bl (decide (i < j))) (fun x y H Q => ∃ i j, x = .str i ∧ y = .str j ∧ Q (.bl (decide (i.cps.toList < j.cps.toList))) H)
theorem dLt : OpR X (compareOp .Lt) rLtD := OpR.or op_lt op_lt_str
def oLt : A → A → Sto → Res A := oOr (fun a _ => isInt a) (oI0 fun i j => .bl (decide (i < j))) (oS (fun _ _ => true) fun i j => .bl (decide (i.cps.toList < j.cps.toList)))
theorem r2_lt : R2ok K w rLtD oLt := r2_or (r2_I0 fun _ _ _ _ => .bl _) (r2_cmpS (g := fun i j => decide (i.cps.toList < j.cps.toList)))
def rLeD : R2 := rOr (rI0 fun i j => .bl (decide (i ≤ j))) (fun x y H Q => ∃ i j, x = .str i ∧ y = .str j ∧ Q (.bl (!decide (j.cps.toList < i.cps.toList))) H)
theorem dLe : OpR X (compareOp .LtE) rLeD := OpR.or op_le op_le_str
def oLe : A → A → Sto → Res A := oOr (fun a _ => isInt a) (oI0 fun i j => .bl (decide (i ≤ j))) (oS (fun _ _ => true) fun i j => .bl (!decide (j.cps.toList < i.cps.toList)))
theorem r2_le : R2ok K w rLeD oLe := r2_or (r2_I0 fun _ _ _ _ => .bl _) (r2_cmpS (g := fun i j => !decide (j.cps.toList < i.cps.toList)))
def rGtD : R2 := rI0 fun i j => .bl (decide (j < i))
theorem dGt : OpR X (compareOp .Gt) rGtD := op_gt
def oGt : A → A → Sto → Res A := oI0 fun i j => .bl (decide (j < i))
theorem r2_gt : R2ok K w rGtD oGt := r2_I0 fun _ _ _ _ => .bl _
def rGeD : R2 := rI0 fun i j => .bl (decide (j ≤ i))
theorem dGe : OpR X (compareOp .GtE) rGeD := op_ge
def oGe : A → A → Sto → Res A := oI0 fun i j => .bl (decide (j ≤ i))
theorem r2_ge : R2ok K w rGeD oGe := r2_I0 fun _ _ _ _ => .bl _
def rEqAny (K : PySem.W.Frag) : R2 := rOr rEq (rEqD K)
theorem dEq (hu : X.A.units + 64 < cLine) : OpR X (compareOp .Eq) (rEqAny X.K) := OpR.or op_eq (op_eqD hu)
theorem r2_eqA : R2ok K w (rEqAny K) oEq := r2_eq
def rNeAny (K : PySem.W.Frag) : R2 := rOr rNe (rNeD K)
theorem dNe (hu : X.A.units + 64 < cLine) : OpR X (compareOp .NotEq) (rNeAny X.K) := OpR.or op_ne (op_neD hu)
theorem r2_neA : R2ok K w (rNeAny K) oNe := r2_ne
def rIsN : R2 := fun x y H Q => y = .non ∧ Q (.bl (decide (x = .non))) H
theorem dIs : OpR X (compareOp .Is) rIsN := op_isN
theorem r2_isN : R2ok K w rIsN oIs := r2_is
def rNotN : R2 := fun x y H Q => y = .non ∧ Q (.bl (!decide (x = .non))) H
theorem dIsNot : OpR X (compareOp .IsNot) rNotN := op_notN
theorem r2_notN : R2ok K w rNotN oIsNot := r2_isnot
def rInAny (K : PySem.W.Frag) : R2 := rOr (fun x y H Q => ∃ (c : Nat) (z : Str), x = .str ⟨#[c]⟩ ∧ y = .str z ∧ Q (.bl (decide (c ∈ z.cps.toList))) H) (rOr (rIn K false) (rInD K))
theorem dIn (hu : X.A.units + 65 < cLine) : OpR X (compareOp .In) (rInAny X.K) := OpR.or op_in_sign (OpR.or op_in_seq (op_inD hu))
def flatIn (a b : A) : Bool := match b with
  | .tup _ => true
  | _ => flatA a
def oIn : A → A → Sto → Res A := oOr (fun _ b => isStr b) (oInS false) (oOr flatIn oInF oInD)
theorem r2_in : R2ok K w (rInAny K) oIn := r2_or r2_inS (r2_or r2_inF r2_inD)
def rNotInAny (K : PySem.W.Frag) : R2 := rOr (fun x y H Q => ∃ (c : Nat) (z : Str), x = .str ⟨#[c]⟩ ∧ y = .str z ∧ Q (.bl (!decide (c ∈ z.cps.toList))) H) (rOr (rIn K true) (rNotInD K))
theorem dNotIn (hu : X.A.units + 65 < cLine) : OpR X (compareOp .NotIn) (rNotInAny X.K) := OpR.or op_notIn_sign (OpR.or op_notIn_seq (op_notInD hu))
def oNotIn : A → A → Sto → Res A := oOr (fun _ b => isStr b) (oInS true) (oOr flatIn oNotInF oNotInD)
theorem r2_notIn : R2ok K w (rNotInAny K) oNotIn := r2_or r2_notInS (r2_or r2_notInF r2_notInD)
def rIxAny (K : PySem.W.Frag) : R2 := rOr (rIxT K) (rOr rIxS (rIxL K))
theorem dIx : IxR X (rIxAny X.K) := IxR.or ix_tup (IxR.or ix_str ix_list)
def oIxD : A → A → Sto → Res A := oOr (fun a _ => isTup a) oIxT (oOr (fun a _ => isStr a) oIxS oIx)
theorem r2_ixD : R2ok K w (rIxAny K) oIxD := r2_or r2_ixT (r2_or r2_ixS r2_ix)
def oNeg : A → Sto → Res A := fun a st => match a with
  | .int i => .ok (.int (-i)) st
  | _ => .no
theorem r1_neg : R1ok K w (rU fun i => .int (-i)) oNeg := fun ρ H st x a Q X rel ra p => by
  unfold oNeg at p
  split at p
  · cases ra
    exact ⟨_, rfl, p.give rel (.int _)⟩
  · exact p.elim
end

/-! ### mirrors: stores, more that is walked, more built-ins -/
section
variable {w : World} {W : WishX}
theorem rs_putL {ta to ti : TE} {f o i : ME} (hf : RE K w W ta f) (ho : RE K w W to o) (hi : RE K w W ti i) : RS K w W (tAsg ta (gSub to ti L2.rSetL)) (sPutL f o i) := fun ρ H st σ env D rel re p =>
  hf.useS rel re p fun a s1 ρ1 H1 x e1 r1 v1 p1 => ho.useS r1 (re.ext e1) p1 fun b s2 ρ2 H2 y e2 r2 v2 p2 => hi.useS r2 (re.ext (e1.trans e2)) p2 fun c s3 ρ3 H3 z e3 r3 v3 p3 => by
    split at p3
    · rename_i k n xs em
      cases v3
      obtain ⟨q, vs, ee, hq, h1, h2⟩ := getM_is r3 (rv_ext e3 v2) em
      cases ee
      split at p3
      · rename_i j ej
        have hv := rv_ext (e2.trans e3) v1
        obtain ⟨e4, r4⟩ := set_put r3 hq (h2.set hv j)
        exact ⟨q, vs, k, j, rfl, rfl, h1, by rw [h2.length]; exact ej, p3 ρ3 _ σ e4 r4 (re.ext (e1.trans (e2.trans (e3.trans e4))))⟩
      · exact p3.elim
    · exact p3.elim
/-- a text, sign by sign -/
def signs (z : Str) : List A := z.cps.toList.map fun c => A.str ⟨#[c]⟩
def miS (f : ME) : MI := fun env st => (f env st).bind fun a s => match a with
  | .str z => .ok (signs z, fun _ => True) s
  | _ => .no
theorem ri_str {t : TE} {f : ME} (hf : RE K w W t f) : RI K w W (iStr t) (miS f) := fun ρ H st σ env R rel re p =>
  hf.use rel re p fun a s1 ρ1 H1 x e1 r1 v1 p1 => by
    split at p1
    · rename_i z
      cases v1
      refine ⟨z, rfl, p1 ρ1 H1 (Ext.refl _ _) r1 _ ⟨fun i b ρ' H' st' e' r' _ eb => ?_, fun ρ' H' st' e' r' _ => ?_⟩⟩
      · unfold signs at eb
        rw [List.getElem?_map] at eb
        obtain ⟨c, ec, rfl⟩ := Option.map_eq_some_iff.mp eb
        have hi : i < z.cps.size := by
          have := (List.getElem?_eq_some_iff.mp ec).1
          simpa using this
        refine ⟨(walk_str (z := z)).goes i H' hi trivial, fun x H2 y => ?_⟩
        obtain ⟨rfl, c', ec', rfl⟩ := (walk_str (z := z)).yields i H' x H2 hi trivial y
        rw [Array.getElem?_toList] at ec
        rw [ec] at ec'
        cases ec'
        exact ⟨Same.refl _, .str _⟩
      · have := (walk_str (z := z)).stops H' trivial
        show (Its z).stop (signs z).length H'
        unfold signs
        rw [List.length_map]
        simpa using this
    · exact p1.elim
/-- isinstance(x, (S, T)) -/
def mIsiT (S T : String) (f : ME) : ME := fun env st => (f env st).bind fun a s => match tyA s a with
  | some t => if S ∈ ["int", "bool", "str", "tuple", "list"] ∧ T ∈ ["int", "bool", "str", "tuple", "list"] then .ok (.bl (isTy t S || isTy t T)) s else .no
  | none => .no
theorem kit_any2 {t S T : String} (ht : t ∈ ["NoneType", "bool", "int", "str", "list", "tuple", "dict"]) (hS : S ∈ ["int", "bool", "str", "tuple", "list"]) (hT : T ∈ ["int", "bool", "str", "tuple", "list"]) : PySem.W.kitAny K (.type t) [.type S, .type T] = some (isTy t S || isTy t T) := by
  have h1 := kit_ty (K := K) (kit_all t ht S hS)
  have h2 := kit_ty (K := K) (kit_all t ht T hT)
  unfold PySem.W.kitAny PySem.W.kitAny PySem.W.kitAny
  rw [h1, h2]
  cases isTy t S <;> cases isTy t T <;> rfl
theorem re_isiT {S T : String} {t : TE} {f : ME} (hf : RE K w W t f) : RE K w W (tCB (rIsiT K) (tCons t (tCons (tTup (tCons (tC (.ty S)) (tCons (tC (.ty T)) tNil))) tNil))) (mIsiT S T f) := fun ρ H st σ env Q rel re p =>
  hf.use rel re p fun a s1 ρ1 H1 x e1 r1 v1 p1 => by
    split at p1
    · rename_i ty et
      split at p1
      · rename_i hc
        refine ⟨by show 2 ≤ sizeLine; decide, fun q nq => ?_⟩
        have sm := same_upd (o := .tup [V.ty S, V.ty T]) nq
        obtain ⟨h1, h2⟩ := tyA_x (r1.same sm) (rv_ext (Ext.same sm) v1) et
        exact ⟨x, q, _, _, _, _, rfl, upd_same, .cons (.ty _) (.cons (.ty _) .nil), h1, kit_any2 h2 hc.1 hc.2, p1.giveAt (Ext.same sm) (r1.same sm) (.bl _)⟩
      · exact p1.elim
    · exact p1.elim
/-- all(..), any(..) of a list of truths -/
def bls : List A → Option (List Bool)
  | [] => some []
  | .bl b :: xs => (bls xs).map (b :: ·)
  | _ => none
theorem bls_is {ρ : List Addr} {H : Hp} : ∀ {vs : List V} {xs : List A} {bs : List Bool}, Rvs K H ρ vs xs → bls xs = some bs → vs = bs.map V.bl
  | _, _, _, .nil, e => by cases e; rfl
  | _, _, _, .cons h hs, e => by
    cases h with
    | bl b =>
      obtain ⟨cs, e1, rfl⟩ := Option.map_eq_some_iff.mp (show (bls _).map (b :: ·) = some _ from e)
      rw [bls_is hs e1]
      rfl
    | _ => cases e
def oAll (g : List Bool → Bool) : List A → Sto → Res A := fun as st => match as with
  | [a] => match getL st a with
    | some xs => lift ((bls xs).map fun bs => A.bl (g bs)) st
    | none => .no
  | _ => .no
theorem rl_all : RLok K w (rAll K) (oAll fun bs => bs.all id) := fun ρ H st vs as Q X rel rv p => by
  unfold oAll at p
  split at p
  · split at p
    · rename_i xs e
      obtain ⟨v, rfl, h⟩ := rvs1 rv
      obtain ⟨q, us, rfl, h1, h2⟩ := getL_sq rel h e
      cases eb : bls xs with
      | none => rw [eb] at p; exact p.elim
      | some bs =>
        rw [eb] at p
        have := bls_is h2 eb
        subst this
        exact ⟨q, bs, rfl, h1, p.give rel (.bl _)⟩
    · exact p.elim
  · exact p.elim
theorem rl_any : RLok K w (rAny K) (oAll fun bs => bs.any id) := fun ρ H st vs as Q X rel rv p => by
  unfold oAll at p
  split at p
  · split at p
    · rename_i xs e
      obtain ⟨v, rfl, h⟩ := rvs1 rv
      obtain ⟨q, us, rfl, h1, h2⟩ := getL_sq rel h e
      cases eb : bls xs with
      | none => rw [eb] at p; exact p.elim
      | some bs =>
        rw [eb] at p
        have := bls_is h2 eb
        subst this
        exact ⟨q, bs, rfl, h1, p.give rel (.bl _)⟩
    · exact p.elim
  · exact p.elim
/-- the truth of a value -/
def mTruth (f : ME) : MT := fun env st => (f env st).bind fun a s => match a with
  | .non => .ok false s
  | .bl b => .ok b s
  | .int i => .ok (i != 0) s
  | .str y => if y.length ≤ sizeLine then .ok ((y.length : Int) != 0) s else .no
  | .ref n => match s[n]? with
    | some (.lst xs) => .ok (!xs.isEmpty) s
    | some (.dK xs) => .ok (!xs.isEmpty) s
    | _ => .no
  | .tup xs => .ok (!xs.isEmpty) s
  | _ => .no
theorem rvs_empty {ρ : List Addr} {H : Hp} {vs : List V} {xs : List A} (h : Rvs K H ρ vs xs) : vs.isEmpty = xs.isEmpty := by cases h <;> rfl
theorem rkv_empty {κ : Type} {ρ : List Addr} {H : Hp} {vs : List (κ × V)} {xs : List (κ × A)} (h : Rkv K H ρ vs xs) : vs.isEmpty = xs.isEmpty := by cases h <;> rfl
theorem rt_truth {t : TE} {f : ME} (hf : RE K w W t f) : RT K w W (fun σ H Q => t σ H fun x H' => ∃ k, TruV K x H' k ∧ Q k H') (mTruth f) := fun ρ H st σ env Q rel re p =>
  hf.use rel re p fun a s1 ρ1 H1 x e1 r1 v1 p1 => by
    split at p1
    · cases v1; exact ⟨_, rfl, p1.giveB r1⟩
    · cases v1; exact ⟨_, rfl, p1.giveB r1⟩
    · cases v1; exact ⟨_, rfl, p1.giveB r1⟩
    · cases v1
      split at p1
      · rename_i hl
        exact ⟨_, ⟨hl, rfl⟩, p1.giveB r1⟩
      · exact p1.elim
    · cases v1 with
      | ref h =>
        split at p1
        · rename_i xs e
          obtain ⟨vs, h1, h2⟩ := r1.get h e
          exact ⟨_, .inl ⟨vs, SqL.of h1, rfl⟩, by rw [rvs_empty h2]; exact p1.giveB r1⟩
        · rename_i xs e
          obtain ⟨vs, h1, h2⟩ := r1.get h e
          exact ⟨_, .inr (.inr ⟨vs, h1, rfl⟩), by rw [rkv_empty h2]; exact p1.giveB r1⟩
        · exact p1.elim
    · obtain ⟨q, vs, rfl, h1, h2⟩ := getT_sq v1 rfl
      exact ⟨_, .inr (.inl ⟨vs, h1, rfl⟩), by rw [rvs_empty h2]; exact p1.giveB r1⟩
    · exact p1.elim
end

/-! ### mirrors: how they go, step by step -/
section
variable {α β : Type} {a b : A} {s st : Sto} {env e : AEnv}
theorem ev_bok {x : α} {k : α → Sto → Res β} : (Res.ok x s).bind k = k x s := rfl
theorem ev_bno {k : α → Sto → Res β} : (Res.no : Res α).bind k = .no := rfl
theorem ev_bex {c : Addr} {d : Option Nat} {k : α → Sto → Res β} : (Res.ex c d s : Res α).bind k = .ex c d s := rfl
theorem ev_tok {x : α} {k : α → Sto → RF} : (Res.ok x s).thenS e k = k x s := rfl
theorem ev_tno {k : α → Sto → RF} : (Res.no : Res α).thenS e k = .no := rfl
theorem ev_tex {c : Addr} {d : Option Nat} {k : α → Sto → RF} : (Res.ex c d s : Res α).thenS e k = .ex c d e s := rfl
theorem ev_nnx {k : MS} : (RF.fl (.nx e) s).next k = k e s := rfl
theorem ev_nrt {k : MS} : (RF.fl (.rt a) s).next k = .fl (.rt a) s := rfl
theorem ev_nbk {k : MS} : (RF.fl (.bk e) s).next k = .fl (.bk e) s := rfl
theorem ev_nct {k : MS} : (RF.fl (.ct e) s).next k = .fl (.ct e) s := rfl
theorem ev_nex {c : Addr} {d : Option Nat} {k : MS} : (RF.ex c d e s).next k = .ex c d e s := rfl
theorem ev_nno {k : MS} : RF.no.next k = .no := rfl
theorem ev_frt : fin (.fl (.rt a) s) = .ok a s := rfl
theorem ev_fnx : fin (.fl (.nx e) s) = .ok .non s := rfl
theorem ev_fex {c : Addr} {d : Option Nat} : fin (.ex c d e s) = .ex c d s := rfl
theorem ev_xok {x : α} : noX (Res.ok x s) = .ok x s := rfl
theorem ev_lsome {x : α} : lift (some x) st = .ok x st := rfl
theorem ev_lnone : lift (none : Option α) st = .no := rfl
theorem ev_seq {f g : MS} : sSeq f g env st = (f env st).next g := rfl
theorem ev_if {c : MT} {f g : MS} : sIf c f g env st = (c env st).thenS env fun b s => if b = true then f env s else g env s := rfl
theorem ev_ret {f : ME} : sRet f env st = (f env st).thenS env fun a s => .fl (.rt a) s := rfl
theorem ev_retN : sRetN env st = .fl (.rt .non) st := rfl
theorem ev_drop {f : ME} : sDrop f env st = (f env st).thenS env fun _ s => .fl (.nx env) s := rfl
theorem ev_nop : sNext env st = .fl (.nx env) st := rfl
theorem ev_brk : sBreak env st = .fl (.bk env) st := rfl
theorem ev_cont : sCont env st = .fl (.ct env) st := rfl
theorem ev_asgN {f : ME} {i : Nat} : sAsg f (mgName i) env st = (f env st).thenS env fun a s => .fl (.nx (env.set i (some a))) s := rfl
def asgO (o : Option AEnv) (s : Sto) : RF := match o with
  | some e => .fl (.nx e) s
  | none => .no
theorem ev_asgT {f : ME} {g : MGs} : sAsg f (mgTup g) env st = (f env st).thenS env fun a s => asgO (mgTup g a env) s := rfl
theorem ev_asgO : asgO (some e) s = .fl (.nx e) s := rfl
theorem ev_mgTup {g : MGs} {xs : List A} : mgTup g (.tup xs) env = g xs env := rfl
theorem ev_mgN {i : Nat} : mgName i a env = some (env.set i (some a)) := rfl
theorem ev_mgC {i : Nat} {g : MGs} {xs : List A} : mgCons (mgName i) g (a :: xs) env = g xs (env.set i (some a)) := rfl
theorem ev_mg0 : mgNil [] env = some env := rfl
def putO (y : A) (m : Option (Nat × List A)) (a : A) (env : AEnv) (s : Sto) : RF := match y, m with
  | .int k, some (n, xs) => match ixN xs.length k with
    | some j => .fl (.nx env) (s.set n (.lst (xs.set j a)))
    | none => .no
  | _, _ => .no
theorem ev_putL {f o i : ME} : sPutL f o i env st = (f env st).thenS env fun a s1 => (o env s1).thenS env fun x s2 => (i env s2).thenS env fun y s3 => putO y (getM s3 x) a env s3 := rfl
theorem ev_putO {k : Int} {n j : Nat} {xs : List A} (h : ixN xs.length k = some j) : putO (.int k) (some (n, xs)) a env s = .fl (.nx env) (s.set n (.lst (xs.set j a))) := by
  unfold putO
  simp only [h]
def vr (o : Option (Option A)) (st : Sto) : Res A := match o with
  | some (some a) => .ok a st
  | _ => .no
theorem ev_var {i : Nat} : mVar i env st = vr env[i]? st := rfl
theorem ev_vr : vr (some (some a)) st = .ok a st := rfl
theorem ev_c : mC a env st = .ok a st := rfl
theorem ev_op {op : A → A → Sto → Res A} {f g : ME} : mOp op f g env st = (f env st).bind fun x s1 => (g env s1).bind fun y s2 => op x y s2 := rfl
theorem ev_un {op : A → Sto → Res A} {f : ME} : mUn op f env st = (f env st).bind fun x s1 => op x s1 := rfl
def tb (a : A) (s : Sto) : Res Bool := match a with
  | .bl b => .ok b s
  | _ => .no
theorem ev_test {f : ME} : mTest f env st = (f env st).bind tb := rfl
theorem ev_tb {b : Bool} : tb (.bl b) s = .ok b s := rfl
theorem ev_notT {f : MT} : mNotT f env st = (f env st).bind fun b s => .ok (!b) s := rfl
theorem ev_andT {f g : MT} : mAndT f g env st = (f env st).bind fun b s => if b = true then g env s else .ok false s := rfl
theorem ev_orT {f g : MT} : mOrT f g env st = (f env st).bind fun b s => if b = true then .ok true s else g env s := rfl
theorem ev_ifE {c : MT} {f g : ME} : mIfE c f g env st = (c env st).bind fun b s => if b = true then f env s else g env s := rfl
def nb (a : A) (s : Sto) : Res A := match a with
  | .bl b => .ok (.bl (!b)) s
  | _ => .no
theorem ev_not {f : ME} : mNot f env st = (f env st).bind nb := rfl
theorem ev_nb {b : Bool} : nb (.bl b) s = .ok (.bl (!b)) s := rfl
def andK (g : ME) (env : AEnv) (a : A) (s : Sto) : Res A := match a with
  | .bl b => if b = true then g env s else .ok (.bl false) s
  | _ => .no
theorem ev_and {f g : ME} : mAnd f g env st = (f env st).bind (andK g env) := rfl
theorem ev_andK {g : ME} {b : Bool} : andK g env (.bl b) s = if b = true then g env s else .ok (.bl false) s := rfl
def orK (g : ME) (env : AEnv) (a : A) (s : Sto) : Res A := match a with
  | .bl b => if b = true then .ok (.bl true) s else g env s
  | _ => .no
theorem ev_or {f g : ME} : mOr f g env st = (f env st).bind (orK g env) := rfl
theorem ev_orK {g : ME} {b : Bool} : orK g env (.bl b) s = if b = true then .ok (.bl true) s else g env s := rfl
def chK (o' : A → A → Sto → Res A) (h : ME) (env : AEnv) (y z : A) (s : Sto) : Res A := match z with
  | .bl true => (h env s).bind fun u s4 => o' y u s4
  | .bl false => .ok (.bl false) s
  | _ => .no
theorem ev_chain {o o' : A → A → Sto → Res A} {f g h : ME} : mChain o o' f g h env st = (f env st).bind fun x s1 => (g env s1).bind fun y s2 => (o x y s2).bind fun z s3 => chK o' h env y z s3 := rfl
theorem ev_chK {o' : A → A → Sto → Res A} {h : ME} {y : A} {c : Bool} : chK o' h env y (.bl c) s = if c = true then (h env s).bind fun u s4 => o' y u s4 else .ok (.bl false) s := by cases c <;> rfl
theorem ev_nil : mNil env st = .ok [] st := rfl
theorem ev_cons {f : ME} {g : MA} : mCons f g env st = (f env st).bind fun x s1 => (g env s1).bind fun xs s2 => .ok (x :: xs) s2 := rfl
theorem ev_tup {f : MA} : mTup f env st = (f env st).bind fun xs s => if xs.length ≤ sizeLine then .ok (.tup xs) s else .no := rfl
theorem ev_lst {f : MA} : mLst f env st = (f env st).bind fun xs s => if xs.length ≤ sizeLine then newO (.lst xs) s else .no := rfl
theorem ev_new {o : AO} : newO o st = .ok (.ref st.length) (st ++ [o]) := rfl
theorem ev_call {n : Nat} {m : List A → Sto → Res A} {f : MA} : mCall n m f env st = (f env st).bind fun as s => if as.length = n then noX (m as s) else .no := rfl
theorem ev_cb {op : List A → Sto → Res A} {f : MA} : mCB op f env st = (f env st).bind op := rfl
theorem ev_size : sizeLine = 16777216 := sizeLine_eq
/-! operators -/
variable {i j : Int} {x y : Str} {xs ys : List A}
theorem ev_addI : oAdd (.int i) (.int j) st = .ok (.int (i + j)) st := rfl
theorem ev_addS : oAdd (.str x) (.str y) st = if decide (x.length + y.length ≤ sizeLine) = true then .ok (.str (x ++ y)) st else .no := rfl
theorem ev_addT : oAdd (.tup xs) (.tup ys) st = if xs.length + ys.length ≤ sizeLine then .ok (.tup (xs ++ ys)) st else .no := rfl
def catO (p q : Option (Nat × List A)) (st : Sto) : Res A := match p, q with
  | some (_, xs), some (_, ys) => if xs.length + ys.length ≤ sizeLine then newO (.lst (xs ++ ys)) st else .no
  | _, _ => .no
theorem ev_addL {n : Nat} : oAdd (.ref n) b st = catO (getM st (.ref n)) (getM st b) st := rfl
theorem ev_catO {n m : Nat} : catO (some (n, xs)) (some (m, ys)) st = if xs.length + ys.length ≤ sizeLine then newO (.lst (xs ++ ys)) st else .no := rfl
theorem ev_sub : oSub (.int i) (.int j) st = .ok (.int (i - j)) st := rfl
theorem ev_mul : oMul (.int i) (.int j) st = if cMul i j = true then .ok (.int (i * j)) st else .no := rfl
theorem ev_div : oDiv (.int i) (.int j) st = if decide (0 < j ∧ j.natAbs.log2 < 9000) = true then .ok (.int (i / j)) st else .no := rfl
theorem ev_mod : oMod (.int i) (.int j) st = if decide (0 < j) = true then .ok (.int (i % j)) st else .no := rfl
theorem pow_ev : oPow (.int i) (.int j) st = if decide (0 ≤ j ∧ j ≤ 1000000 ∧ i.natAbs < 2 ^ 64) = true then .ok (.int (i ^ j.toNat)) st else .no := rfl
theorem ev_p5 : oPow (.int 10) (.int 5) st = .ok (.int 100000) st := rfl
theorem ev_p6 : oPow (.int 10) (.int 6) st = .ok (.int 1000000) st := rfl
theorem ev_p12 : oPow (.int 10) (.int 12) st = .ok (.int 1000000000000) st := rfl
theorem ev_p18 : oPow (.int 10) (.int 18) st = .ok (.int 1000000000000000000) st := rfl
theorem ev_p30 : oPow (.int 10) (.int 30) st = .ok (.int 1000000000000000000000000000000) st := rfl
theorem ev_neg : oNeg (.int i) st = .ok (.int (-i)) st := rfl
theorem ev_ltI : oLt (.int i) (.int j) st = .ok (.bl (decide (i < j))) st := rfl
theorem ev_ltS : oLt (.str x) (.str y) st = .ok (.bl (decide (x.cps.toList < y.cps.toList))) st := rfl
theorem ev_leI : oLe (.int i) (.int j) st = .ok (.bl (decide (i ≤ j))) st := rfl
theorem ev_leS : oLe (.str x) (.str y) st = .ok (.bl (!decide (y.cps.toList < x.cps.toList))) st := rfl
theorem ev_gt : oGt (.int i) (.int j) st = .ok (.bl (decide (j < i))) st := rfl
theorem ev_ge : oGe (.int i) (.int j) st = .ok (.bl (decide (j ≤ i))) st := rfl
theorem ev_eqI : oEq (.int i) (.int j) st = .ok (.bl (decide (i = j))) st := rfl
theorem ev_eqS : oEq (.str x) (.str y) st = .ok (.bl (decide (x = y))) st := rfl
theorem ev_neI : oNe (.int i) (.int j) st = .ok (.bl (!decide (i = j))) st := rfl
theorem ev_neS : oNe (.str x) (.str y) st = .ok (.bl (!decide (x = y))) st := rfl
theorem ev_neB {c d : Bool} : oNe (.bl c) (.bl d) st = .ok (.bl (!decide (c = d))) st := rfl
theorem ev_eqB {c d : Bool} : oEq (.bl c) (.bl d) st = .ok (.bl (decide (c = d))) st := rfl
theorem ev_is : oIs a .non st = .ok (.bl (isNon a)) st := rfl
theorem ev_isnot : oIsNot a .non st = .ok (.bl (!isNon a)) st := rfl
theorem ev_ixT : oIxD (.tup xs) (.int i) st = lift (atI xs i) st := rfl
theorem ev_ixS : oIxD (.str x) (.int i) st = if x.length ≤ sizeLine then lift ((atI x.cps.toList i).map fun c => A.str ⟨#[c]⟩) st else .no := rfl
def ixK (o : Option (List A)) (i : Int) (st : Sto) : Res A := match o with
  | some xs => lift (atI xs i) st
  | none => .no
theorem ev_ixR {n : Nat} : oIxD (.ref n) (.int i) st = ixK (getL st (.ref n)) i st := rfl
theorem ev_ixL : oIxD (.lit xs) (.int i) st = lift (atI xs i) st := rfl
theorem ev_ixK : ixK (some xs) i st = lift (atI xs i) st := rfl
def gL (o : Option AO) : Option (List A) := match o with
  | some (.lst xs) => some xs
  | _ => none
def gM (n : Nat) (o : Option AO) : Option (Nat × List A) := match o with
  | some (.lst xs) => some (n, xs)
  | _ => none
theorem ev_getL {n : Nat} : getL st (.ref n) = gL st[n]? := rfl
theorem ev_getM {n : Nat} : getM st (.ref n) = gM n st[n]? := rfl
theorem ev_gL : gL (some (.lst xs)) = some xs := rfl
theorem ev_gM {n : Nat} : gM n (some (.lst xs)) = some (n, xs) := rfl
theorem ev_at0 {α : Type} {x : α} {l : List α} : atI (x :: l) 0 = some x := atI_nat (j := 0) rfl
theorem ev_at1 {α : Type} {x x1 : α} {l : List α} : atI (x :: x1 :: l) 1 = some x1 := atI_nat (j := 1) rfl
theorem ev_at2 {α : Type} {x x1 x2 : α} {l : List α} : atI (x :: x1 :: x2 :: l) 2 = some x2 := atI_nat (j := 2) rfl
theorem ev_at3 {α : Type} {x x1 x2 x3 : α} {l : List α} : atI (x :: x1 :: x2 :: x3 :: l) 3 = some x3 := atI_nat (j := 3) rfl
theorem ev_at4 {α : Type} {x x1 x2 x3 x4 : α} {l : List α} : atI (x :: x1 :: x2 :: x3 :: x4 :: l) 4 = some x4 := atI_nat (j := 4) rfl
def lenR (o : Option AO) (st : Sto) : Res A := match o with
  | some (.lst xs) => .ok (.int xs.length) st
  | some (.dK kvs) => .ok (.int kvs.length) st
  | _ => .no
theorem ev_lenS : oLen [.str x] st = if x.length ≤ sizeLine then .ok (.int x.length) st else .no := rfl
theorem ev_lenR {n : Nat} : oLen [.ref n] st = lenR st[n]? st := rfl
theorem ev_lenT : oLen [.tup xs] st = .ok (.int xs.length) st := rfl
theorem ev_lenL : oLen [.lit xs] st = .ok (.int xs.length) st := rfl
theorem ev_lenO : lenR (some (.lst xs)) st = .ok (.int xs.length) st := rfl
theorem ev_lenD {kvs : List (Key × A)} : lenR (some (.dK kvs)) st = .ok (.int kvs.length) st := rfl
theorem ev_abs : oAbs [.int i] st = .ok (.int (if i < 0 then -i else i)) st := rfl
theorem ev_min2 : oMin2 [.int i, .int j] st = .ok (.int (if j < i then j else i)) st := rfl
theorem ev_max2 : oMax2 [.int i, .int j] st = .ok (.int (if j > i then j else i)) st := rfl
theorem ev_intI : oInt [.int i] st = .ok (.int i) st := rfl
theorem ev_intB {c : Bool} : oInt [.bl c] st = .ok (.int (if c then 1 else 0)) st := rfl
theorem ev_set {n : Nat} {o : AO} : (st.set n o)[n]? = Function.const AO o <$> st[n]? := List.getElem?_set_self'
theorem ev_fc {o o' : AO} : Function.const AO o <$> some o' = some o := rfl
theorem ev_setset {n : Nat} {o o' : AO} : (st.set n o).set n o' = st.set n o' := List.set_set ..
theorem ev_last {st : Sto} {o : AO} : (st ++ [o])[st.length]? = some o := by simp
theorem ev_appk {st l : Sto} {k : Nat} : (st ++ l)[st.length + k]? = l[k]? := by
  rw [List.getElem?_append_right (by omega)]
  congr 1
  omega
theorem ev_app0 {st l : Sto} : (st ++ l)[st.length]? = l[0]? := by
  rw [List.getElem?_append_right (Nat.le_refl _), Nat.sub_self]
theorem ev_setk {st l : Sto} {k : Nat} {o : AO} : (st ++ l).set (st.length + k) o = st ++ l.set k o := by
  rw [List.set_append, if_neg (by omega)]
  congr 2
  omega
theorem ev_set0 {st l : Sto} {o : AO} : (st ++ l).set st.length o = st ++ l.set 0 o := by
  rw [List.set_append, if_neg (by omega), Nat.sub_self]
theorem ev_assoc {a b c : Sto} : (a ++ b) ++ c = a ++ (b ++ c) := List.append_assoc ..
theorem ev_lapp {a b : Sto} : (a ++ b).length = a.length + b.length := List.length_append
theorem ev_lappA {a b : List A} : (a ++ b).length = a.length + b.length := List.length_append
end

/-! ### mirrors: in of a tuple of any data, == of an empty list, len(set(..)), texts, swaps -/
section
variable {w : World} {W : WishX} {X : Cx}
def rInTD (K : PySem.W.Frag) : R2 := fun x y H Q => ∃ d ds, Dp K H x d ∧ Dp K H y (.tuple ds) ∧ SeqAt.shaped d = true ∧ SeqAt.shaped (.tuple ds) = true ∧ Q (.bl (ds.any fun z => PyData.eqv z d)) H
def rNotInTD (K : PySem.W.Frag) : R2 := fun x y H Q => ∃ d ds, Dp K H x d ∧ Dp K H y (.tuple ds) ∧ SeqAt.shaped d = true ∧ SeqAt.shaped (.tuple ds) = true ∧ Q (.bl (!ds.any fun z => PyData.eqv z d)) H
theorem op_inTD (hu : X.A.units + 65 < cLine) : OpR X (compareOp .In) (rInTD X.K) := by
  intro pins s σ H x y v u Q I rx ry h
  obtain ⟨d, ds, hd, he, sd, se, q⟩ := h
  obtain ⟨as, r1⟩ := Dp.reads I d x v hd rx
  obtain ⟨bs, r2⟩ := Dp.reads I (.tuple ds) y u he ry
  exact SeqAt.in_tuple_reads r2 r1 (SeqAt.canLay_of_shaped se) (SeqAt.canLay_of_shaped sd) (room_in_shaped sd hu) ⟨.bl _, H, I, rfl, q⟩
theorem op_notInTD (hu : X.A.units + 65 < cLine) : OpR X (compareOp .NotIn) (rNotInTD X.K) := by
  intro pins s σ H x y v u Q I rx ry h
  obtain ⟨d, ds, hd, he, sd, se, q⟩ := h
  obtain ⟨as, r1⟩ := Dp.reads I d x v hd rx
  obtain ⟨bs, r2⟩ := Dp.reads I (.tuple ds) y u he ry
  exact SeqAt.notIn_tuple_reads r2 r1 (SeqAt.canLay_of_shaped se) (SeqAt.canLay_of_shaped sd) (room_in_shaped sd hu) ⟨.bl _, H, I, rfl, q⟩
def inTD (st : Sto) (a b : A) : Option Bool := match dat st deep a, dat st deep b with
  | some d, some (.tuple ds) => if SeqAt.shaped d = true ∧ SeqAt.shaped (.tuple ds) = true then some (ds.any fun z => PyData.eqv z d) else none
  | _, _ => none
def oInTD : A → A → Sto → Res A := fun a b st => lift ((inTD st a b).map A.bl) st
def oNotInTD : A → A → Sto → Res A := fun a b st => lift ((inTD st a b).map fun c => A.bl (!c)) st
theorem r2_inTD : R2ok K w (rInTD K) oInTD := fun ρ H st x y a b Q X rel ra rb p => by
  unfold oInTD inTD at p
  split at p
  · rename_i d ds e1 e2
    split at p
    · rename_i hs
      exact ⟨_, _, dat_dp rel _ _ _ _ ra e1, dat_dp rel _ _ _ _ rb e2, hs.1, hs.2, p.give rel (.bl _)⟩
    · exact p.elim
  · exact p.elim
theorem r2_notInTD : R2ok K w (rNotInTD K) oNotInTD := fun ρ H st x y a b Q X rel ra rb p => by
  unfold oNotInTD inTD at p
  split at p
  · rename_i d ds e1 e2
    split at p
    · rename_i hs
      exact ⟨_, _, dat_dp rel _ _ _ _ ra e1, dat_dp rel _ _ _ _ rb e2, hs.1, hs.2, p.give rel (.bl _)⟩
    · exact p.elim
  · exact p.elim
def tupDeep (a b : A) : Bool := isTup b && !flatA a
def rInX (K : PySem.W.Frag) : R2 := rOr (rInTD K) (rInAny K)
theorem dInX (hu : X.A.units + 65 < cLine) : OpR X (compareOp .In) (rInX X.K) := OpR.or (op_inTD hu) (dIn hu)
def oInX : A → A → Sto → Res A := oOr tupDeep oInTD oIn
theorem r2_inX : R2ok K w (rInX K) oInX := r2_or r2_inTD r2_in
def rNotInX (K : PySem.W.Frag) : R2 := rOr (rNotInTD K) (rNotInAny K)
theorem dNotInX (hu : X.A.units + 65 < cLine) : OpR X (compareOp .NotIn) (rNotInX X.K) := OpR.or (op_notInTD hu) (dNotIn hu)
def oNotInX : A → A → Sto → Res A := oOr tupDeep oNotInTD oNotIn
theorem r2_notInX : R2ok K w (rNotInX K) oNotInX := r2_or r2_notInTD r2_notIn
/-! == [] -/
def rEqNil (K : PySem.W.Frag) : R2 := fun x y H Q => ∃ a b xs, x = .ref a ∧ y = .ref b ∧ SqL K H a xs ∧ SqL K H b [] ∧ Q (.bl xs.isEmpty) H
def rNeNil (K : PySem.W.Frag) : R2 := fun x y H Q => ∃ a b xs, x = .ref a ∧ y = .ref b ∧ SqL K H a xs ∧ SqL K H b [] ∧ Q (.bl (!xs.isEmpty)) H
/-- both lists, the second empty: else it is no -/
def nilA (st : Sto) (a b : A) : Option Bool := match getL st a, getL st b with
  | some xs, some [] => some xs.isEmpty
  | _, _ => none
def oEqX : A → A → Sto → Res A := fun a b st => match nilA st a b with
  | some c => .ok (.bl c) st
  | none => oEq a b st
def oNeX : A → A → Sto → Res A := fun a b st => match nilA st a b with
  | some c => .ok (.bl (!c)) st
  | none => oNe a b st
theorem nilA_is {ρ : List Addr} {H : Hp} {st : Sto} {x y : V} {a b : A} {c : Bool} (rel : Rel K w ρ H st) (ra : Rv K H ρ x a) (rb : Rv K H ρ y b) (e : nilA st a b = some c) : ∃ p q vs, x = .ref p ∧ y = .ref q ∧ SqL K H p vs ∧ SqL K H q [] ∧ vs.isEmpty = c := by
  unfold nilA at e
  split at e
  · rename_i xs e1 e2
    cases e
    obtain ⟨p, vs, rfl, h1, h2⟩ := getL_sq rel ra e1
    obtain ⟨q, us, rfl, h3, h4⟩ := getL_sq rel rb e2
    cases h4
    exact ⟨p, q, vs, rfl, rfl, h1, h3, rvs_empty h2⟩
  · cases e
def rEqX (K : PySem.W.Frag) : R2 := rOr (rEqNil K) (rEqAny K)
def rNeX (K : PySem.W.Frag) : R2 := rOr (rNeNil K) (rNeAny K)
theorem dEqX (hu : X.A.units + 64 < cLine) : OpR X (compareOp .Eq) (rEqX X.K) := OpR.or (op_eqNil (by omega)) (dEq hu)
theorem dNeX (hu : X.A.units + 64 < cLine) : OpR X (compareOp .NotEq) (rNeX X.K) := OpR.or (op_neNil (by omega)) (dNe hu)
theorem r2_eqX : R2ok K w (rEqX K) oEqX := fun ρ H st x y a b Q X rel ra rb p => by
  unfold oEqX at p
  split at p
  · rename_i c e
    obtain ⟨q, q', vs, e1, e2, h1, h2, h3⟩ := nilA_is rel ra rb e
    exact .inl ⟨q, q', vs, e1, e2, h1, h2, p.give rel (by rw [h3]; exact .bl _)⟩
  · exact .inr (r2_eqA ρ H st x y a b Q X rel ra rb p)
theorem r2_neX : R2ok K w (rNeX K) oNeX := fun ρ H st x y a b Q X rel ra rb p => by
  unfold oNeX at p
  split at p
  · rename_i c e
    obtain ⟨q, q', vs, e1, e2, h1, h2, h3⟩ := nilA_is rel ra rb e
    exact .inl ⟨q, q', vs, e1, e2, h1, h2, p.give rel (by rw [h3]; exact .bl _)⟩
  · exact .inr (r2_neA ρ H st x y a b Q X rel ra rb p)
/-! len(set(xs)), xs a list of whole numbers -/
def ddup (ns : List Int) : List Int := firstMet (fun i => ns.getD i 0) ns.length
def tLenSet (K : PySem.W.Frag) (ta : TE) : TE := fun σ H Q => ta σ H fun x H1 => ∃ (l : Addr) (ns : List Int), x = V.ref l ∧ SqL K H1 l (ns.map V.int) ∧ ns.length ≤ 4000 ∧ Q (.int ((ddup ns).length : Nat)) H1
theorem pe_lenSet {a : Expr} {ta : TE} {p p2 q pos : Pos} (hc : X.calm = true) (hg : Gl X "len") (hm : X.mg "len" = none) (hg2 : Gl X "set") (hm2 : X.mg "set" = none) (ha : PE X a ta)
    (na : starEach [a] X.env = (false, eval a X.env) :: starEach [] X.env := by rfl) : PE X (.Call (.Name "len" p) [.Call (.Name "set" p2) [a] [] q] [] pos) (tLenSet X.K ta) := by
  refine ⟨fun pins s σ H Q I h => ?_⟩
  refine Call_ (ld_blt I hg hm PySem.boot_len ?_)
  refine PyProof.Rows.callWith_builtin1 (PyProof.Rows.args_cons ?_ rfl) rfl rfl
  refine Call_ (ld_blt I hg2 hm2 PyProof.Rows.boot_set ?_)
  refine PyProof.Rows.callWith_type1 (PyProof.Rows.args_cons (thn (ha.run pins s σ H _ I h) fun v s1 ⟨x, H1, I1, r1, q1⟩ => PyProof.Rows.args_nil ?_) na) na rfl
  obtain ⟨l, ns, rfl, hq, h1, q1⟩ := q1
  cases r1
  obtain ⟨its, r, pl, hz⟩ := I1.list hq
  have hl : its.toArray.size = ns.length := by rw [List.size_toArray, ← r.length, List.length_map]
  have hle := firstMet_length_le (fun i => ns.getD i 0) ns.length
  refine call_set_list (I1.ok.hd hc) pl.isList (ns := ns) (by simpa using r.ints) (by unfold scanBound; omega) fun h' tk hS hk => ?_
  rw [hl] at hS
  refine PyProof.Rows.args_nil ?_
  obtain ⟨o, es, ep, t, ho, hex, hd, _, _, _, hf, hn⟩ := hS
  have I2 : Inv X pins σ H1 { s1 with heap := h', toks := tk } := I1.kept fun b o e => hk b o (Heap.lt_size e) e
  refine call_len_set ho hex hd hf (by rw [hn] <;> omega) ⟨.int ((ddup ns).length : Nat), H1, I2.tok _, ⟨_, by rw [hn]; rfl⟩, q1⟩
def intsOf : List A → Option (List Int)
  | [] => some []
  | .int i :: xs => (intsOf xs).map (i :: ·)
  | _ => none
theorem ints_is {ρ : List Addr} {H : Hp} : ∀ {vs : List V} {xs : List A} {ns : List Int}, Rvs K H ρ vs xs → intsOf xs = some ns → vs = ns.map V.int
  | _, _, _, .nil, e => by cases e; rfl
  | _, _, _, .cons h hs, e => by
    cases h with
    | int b =>
      obtain ⟨cs, e1, rfl⟩ := Option.map_eq_some_iff.mp (show (intsOf _).map (b :: ·) = some _ from e)
      rw [ints_is hs e1]
      rfl
    | _ => cases e
def lenSetK (o : Option (List Int)) (s : Sto) : Res A := match o with
  | some ns => if ns.length ≤ 4000 then .ok (.int ((ddup ns).length : Nat)) s else .no
  | none => .no
def mLenSet (f : ME) : ME := fun env st => (f env st).bind fun a s => lenSetK ((getL s a).bind intsOf) s
theorem re_lenSet {t : TE} {f : ME} (hf : RE K w W t f) : RE K w W (tLenSet K t) (mLenSet f) := fun ρ H st σ env Q rel re p =>
  hf.use rel re p fun a s1 ρ1 H1 x e1 r1 v1 p1 => by
    unfold lenSetK at p1
    split at p1
    · rename_i ns e
      split at p1
      · rename_i hl
        obtain ⟨xs, e2, e3⟩ := Option.bind_eq_some_iff.mp e
        obtain ⟨q, us, rfl, h1, h2⟩ := getL_sq r1 v1 e2
        have := ints_is h2 e3
        subst this
        exact ⟨q, ns, rfl, h1, hl, p1.give r1 (.int _)⟩
      · exact p1.elim
    · exact p1.elim
/-! methods of texts -/
def mM0 (g : Str → Option A) (f : ME) : ME := fun env st => (f env st).bind fun a s => match a with
  | .str z => lift (g z) s
  | _ => .no
theorem re_upper {t : TE} {f : ME} (hf : RE K w W t f) : RE K w W (tM0 (fun x xs H Q => ∃ a, x = .str a ∧ xs = [] ∧ a.length ≤ 5592405 ∧ Q (.str (Txt.upper a)) H) t) (mM0 (fun z => if z.length ≤ 5592405 then some (.str (Txt.upper z)) else none) f) := fun ρ H st σ env Q rel re p =>
  hf.use rel re p fun a s1 ρ1 H1 x e1 r1 v1 p1 => by
    split at p1
    · cases v1
      simp only at p1
      split at p1
      · rename_i hl
        exact ⟨⟨_, rfl⟩, _, rfl, rfl, hl, p1.give r1 (.str _)⟩
      · exact p1.elim
    · exact p1.elim
def strsOf : List A → Option (List Str)
  | [] => some []
  | .str i :: xs => (strsOf xs).map (i :: ·)
  | _ => none
theorem strs_is {ρ : List Addr} {H : Hp} : ∀ {vs : List V} {xs : List A} {ns : List Str}, Rvs K H ρ vs xs → strsOf xs = some ns → vs = ns.map V.str
  | _, _, _, .nil, e => by cases e; rfl
  | _, _, _, .cons h hs, e => by
    cases h with
    | str b =>
      obtain ⟨cs, e1, rfl⟩ := Option.map_eq_some_iff.mp (show (strsOf _).map (b :: ·) = some _ from e)
      rw [strs_is hs e1]
      rfl
    | _ => cases e
def joinK (z : Str) (o : Option (List Str)) (s : Sto) : Res A := match o with
  | some ys => if (ys.map (·.length)).sum + ys.length * z.length ≤ 16777216 then .ok (.str (Txt.join z ys)) s else .no
  | none => .no
def joinG (g : ME) (env : AEnv) (z : A) (s1 : Sto) : Res A := match z with
  | .str z => (g env s1).bind fun a s => joinK z ((getS s a).bind strsOf) s
  | _ => .no
def mJoin (f g : ME) : ME := fun env st => (f env st).bind (joinG g env)
theorem re_join {t u : TE} {f g : ME} (hf : RE K w W t f) (hg : RE K w W u g) : RE K w W (tM1 (fun x xs H Q => ∃ a p, ∃ ys : List Str, x = .str a ∧ xs = [.ref p] ∧ (SqL K H p (ys.map V.str) ∨ SqT K H p (ys.map V.str)) ∧ (ys.map (·.length)).sum + ys.length * a.length ≤ 16777216 ∧ Q (.str (Txt.join a ys)) H) t u) (mJoin f g) := fun ρ H st σ env Q rel re p =>
  hf.use rel re p fun z s1 ρ1 H1 x e1 r1 v1 p1 => by
    unfold joinG at p1
    split at p1
    · rename_i c
      cases v1
      refine ⟨⟨_, rfl⟩, hg.use r1 (re.ext e1) p1 fun a s2 ρ2 H2 y e2 r2 v2 p2 => ?_⟩
      unfold joinK at p2
      split at p2
      · rename_i ys e
        split at p2
        · rename_i hl
          obtain ⟨xs, e3, e4⟩ := Option.bind_eq_some_iff.mp e
          obtain ⟨q, us, rfl, h1, h2⟩ := getS_sq r2 v2 e3
          have := strs_is h2 e4
          subst this
          exact ⟨c, q, ys, rfl, rfl, h1, hl, p2.give r2 (.str _)⟩
        · exact p2.elim
      · exact p2.elim
    · exact p1.elim
/-! two items of a list put at once: xs[i], ys[j] = a pair -/
def put1 (x y a : A) (s : Sto) : Option Sto := match y, getM s x with
  | .int k, some (n, xs) => (ixN xs.length k).map fun j => s.set n (.lst (xs.set j a))
  | _, _ => none
def sPut2 (f o i o' i' : ME) : MS := fun env st => (f env st).thenS env fun a s0 => match a with
  | .tup [a1, a2] => (o env s0).thenS env fun x s1 => (i env s1).thenS env fun y s2 => match put1 x y a1 s2 with
    | some s3 => (o' env s3).thenS env fun x' s4 => (i' env s4).thenS env fun y' s5 => match put1 x' y' a2 s5 with
      | some s6 => .fl (.nx env) s6
      | none => .no
    | none => .no
  | _ => .no
theorem put1_is {ρ : List Addr} {H : Hp} {s s' : Sto} {x y a : A} {vx vy va : V} {Q : Hp → Prop} (rel : Rel K w ρ H s) (hx : Rv K H ρ vx x) (hy : Rv K H ρ vy y) (ha : Rv K H ρ va a) (e : put1 x y a s = some s') (q : ∀ H', Ext ρ ρ H H' → Rel K w ρ H' s' → Q H') : L2.rSetL vx vy va H Q := by
  unfold put1 at e
  split at e
  · rename_i k n xs em
    cases hy
    obtain ⟨p, vs, rfl, hq, h1, h2⟩ := getM_is rel hx em
    obtain ⟨j, ej, rfl⟩ := Option.map_eq_some_iff.mp e
    obtain ⟨e4, r4⟩ := set_put rel hq (h2.set ha j)
    exact ⟨p, vs, k, j, rfl, rfl, h1, by rw [h2.length]; exact ej, q _ e4 r4⟩
  · cases e
theorem rs_put2 {ta to ti to' ti' : TE} {f o i o' i' : ME} (hf : RE K w W ta f) (ho : RE K w W to o) (hi : RE K w W ti i) (ho' : RE K w W to' o') (hi' : RE K w W ti' i') : RS K w W (tAsg ta (gTup K 2 (gCons (gSub to ti L2.rSetL) (gCons (gSub to' ti' L2.rSetL) gNil)))) (sPut2 f o i o' i') := fun ρ H st σ env D rel re p =>
  hf.useS rel re p fun a s1 ρ1 H1 x e1 r1 v1 p1 => by
    split at p1
    · rename_i a1 a2
      obtain ⟨q, vs, rfl, h1, h2⟩ := getT_sq v1 rfl
      obtain ⟨u1, u2, rfl, h3, h4⟩ := rvs2 h2
      refine ⟨q, _, rfl, h1, rfl, _, _, rfl, ho.useS r1 (re.ext e1) p1 fun b s2 ρ2 H2 y e2 r2 v2 p2 => hi.useS r2 (re.ext (e1.trans e2)) p2 fun c s3 ρ3 H3 z e3 r3 v3 p3 => ?_⟩
      split at p3
      · rename_i s4 e4
        refine put1_is r3 (rv_ext e3 v2) v3 (rv_ext (e2.trans e3) h3) e4 fun H4 x4 r4 => ?_
        refine ⟨_, _, rfl, ho'.useS r4 (re.ext (e1.trans (e2.trans (e3.trans x4)))) (PostS.ext p3 x4) fun b' s5 ρ5 H5 y' e5 r5 v5 p5 => hi'.useS r5 (re.ext (e1.trans (e2.trans (e3.trans (x4.trans e5))))) p5 fun c' s6 ρ6 H6 z' e6 r6 v6 p6 => ?_⟩
        split at p6
        · rename_i s7 e7
          refine put1_is r6 (rv_ext e6 v5) v6 (rv_ext (e2.trans (e3.trans (x4.trans (e5.trans e6)))) h4) e7 fun H7 x7 r7 => ?_
          exact ⟨rfl, p6 ρ6 H7 σ x7 r7 (re.ext (e1.trans (e2.trans (e3.trans (x4.trans (e5.trans (e6.trans x7)))))))⟩
        · exact p6.elim
      · exact p3.elim
    · exact p1.elim
/-! list(range(n)) -/
def mListR (f : ME) : ME := fun env st => (f env st).bind fun a s => match a with
  | .int n => if 0 ≤ n ∧ n ≤ 1000 then newO (.lst (rngA 0 n.toNat)) s else .no
  | _ => .no
theorem rvs_map {α : Type} {ρ : List Addr} {H : Hp} {f : α → V} {g : α → A} (h : ∀ x, Rv K H ρ (f x) (g x)) : ∀ l : List α, Rvs K H ρ (l.map f) (l.map g)
  | [] => .nil
  | x :: l => .cons (h x) (rvs_map h l)
theorem rgV_is {ρ : List Addr} {H : Hp} {n : Int} : Rvs K H ρ (rgV 0 n) (rngA 0 n.toNat) := by
  unfold rgV rngA
  rw [Int.sub_zero]
  exact rvs_map (fun _ => .int _) _
theorem re_listR {t : TE} {f : ME} (hf : RE K w W t f) : RE K w W (tLstRg (tRg1 t)) (mListR f) := fun ρ H st σ env Q rel re p =>
  hf.use rel re p fun a s1 ρ1 H1 x e1 r1 v1 p1 => by
    split at p1
    · rename_i n
      cases v1
      split at p1
      · rename_i hn
        exact ⟨n, rfl, ⟨by decide, by decide, by omega, by omega, by omega⟩, fun q nq => post_newL r1 rgV_is p1 q nq⟩
      · exact p1.elim
    · exact p1.elim
def oInsert : List A → List A → Option (A × List A) := fun xs as => match as with
  | [.int i, a] => if xs.length < sizeLine ∧ 0 ≤ i ∧ i < 2 ^ 63 then some (.non, xs.take i.toNat ++ [a] ++ xs.drop i.toNat) else none
  | _ => none
theorem rm_insert : RMok K (fun x vs H Q => ∃ (l : Addr) (xs : List V) (i : Int) (y : V), x = .ref l ∧ vs = [.int i, y] ∧ H l = some (.lst xs) ∧ xs.length < sizeLine ∧ 0 ≤ i ∧ i < 2 ^ 63 ∧ Q .non (upd H l (.lst (xs.take i.toNat ++ [y] ++ xs.drop i.toNat)))) oInsert := fun ρ H l xs as vs us a ys Q h1 h2 h3 e q => by
  unfold oInsert at e
  split at e
  · split at e
    · rename_i hl
      cases e
      obtain ⟨u, v, rfl, h4, h5⟩ := rvs2 h3
      cases h4
      exact ⟨l, vs, _, v, rfl, rfl, h1, by rw [h2.length]; exact hl.1, hl.2.1, hl.2.2, q _ _ .non (((h2.take _).append (.cons h5 .nil)).append (h2.drop _))⟩
    · cases e
  · cases e
end

/-! ### mirrors: how they go, further -/
section
variable {α β : Type} {a b : A} {s st : Sto} {env e : AEnv} {i j : Int} {x y : Str} {xs ys : List A}
theorem ev_sl {op : A → Option Int → Option Int → Sto → Res A} {f : ME} {l h : MO} : mSl op f l h env st = (f env st).bind fun x s1 => (l env s1).bind fun lo s2 => (h env s2).bind fun hi s3 => op x lo hi s3 := rfl
theorem ev_nopart : mNoPart env st = .ok none st := rfl
def ptK (a : A) (s : Sto) : Res (Option Int) := match a with
  | .int i => .ok (some i) s
  | _ => .no
theorem ev_part {f : ME} : mPart f env st = (f env st).bind ptK := rfl
theorem ev_ptK : ptK (.int i) s = .ok (some i) s := rfl
theorem ev_slT {lo hi : Option Int} : oSl (.tup xs) lo hi st = .ok (.tup (cutA xs lo hi)) st := rfl
theorem ev_slS {lo hi : Option Int} : oSl (.str x) lo hi st = if x.length ≤ sizeLine then .ok (.str (cutS x lo hi)) st else .no := rfl
def slK (o : Option (List A)) (lo hi : Option Int) (st : Sto) : Res A := match o with
  | some xs => newO (.lst (cutA xs lo hi)) st
  | none => .no
theorem ev_slR {n : Nat} {lo hi : Option Int} : oSl (.ref n) lo hi st = slK (getL st (.ref n)) lo hi st := rfl
theorem ev_slK {lo hi : Option Int} : slK (some xs) lo hi st = newO (.lst (cutA xs lo hi)) st := rfl
theorem ev_tyN : tyA st .non = some "NoneType" := rfl
theorem ev_tyB {c : Bool} : tyA st (.bl c) = some "bool" := rfl
theorem ev_tyI : tyA st (.int i) = some "int" := rfl
theorem ev_tyS : tyA st (.str x) = some "str" := rfl
theorem ev_tyT : tyA st (.tup xs) = some "tuple" := rfl
theorem ev_tyL : tyA st (.lit xs) = some "list" := rfl
def tyR (o : Option AO) : Option String := match o with
  | some (.lst _) => some "list"
  | _ => none
theorem ev_tyR {n : Nat} : tyA st (.ref n) = tyR st[n]? := rfl
theorem ev_tyRL : tyR (some (.lst xs)) = some "list" := rfl
def isiK (o : Option String) (T : String) (st : Sto) : Res A := match o with
  | some t => if T ∈ ["int", "bool", "str", "tuple", "list"] then .ok (.bl (isTy t T)) st else .no
  | none => .no
theorem ev_isi {T : String} : oIsi [a, .ty T] st = isiK (tyA st a) T st := rfl
theorem ev_isi1 {t : String} : isiK (some t) "int" st = .ok (.bl (isTy t "int")) st := by
  unfold isiK
  exact if_pos (by decide)
theorem ev_isi2 {t : String} : isiK (some t) "bool" st = .ok (.bl (isTy t "bool")) st := by
  unfold isiK
  exact if_pos (by decide)
theorem ev_isi3 {t : String} : isiK (some t) "str" st = .ok (.bl (isTy t "str")) st := by
  unfold isiK
  exact if_pos (by decide)
theorem ev_isi4 {t : String} : isiK (some t) "tuple" st = .ok (.bl (isTy t "tuple")) st := by
  unfold isiK
  exact if_pos (by decide)
theorem ev_isi5 {t : String} : isiK (some t) "list" st = .ok (.bl (isTy t "list")) st := by
  unfold isiK
  exact if_pos (by decide)
def isi2K (S T : String) (o : Option String) (s : Sto) : Res A := match o with
  | some t => if S ∈ ["int", "bool", "str", "tuple", "list"] ∧ T ∈ ["int", "bool", "str", "tuple", "list"] then .ok (.bl (isTy t S || isTy t T)) s else .no
  | none => .no
theorem ev_isiT {S T : String} {f : ME} : mIsiT S T f env st = (f env st).bind fun a s => isi2K S T (tyA s a) s := rfl
theorem ev_isi2K {t : String} : isi2K "tuple" "list" (some t) s = .ok (.bl (isTy t "tuple" || isTy t "list")) s := by
  unfold isi2K
  exact if_pos (by decide)
theorem ev_isTy {t T : String} : isTy t T = (t == T || (T == "int" && t == "bool")) := rfl
def listK (o : Option (List A)) (st : Sto) : Res A := match o with
  | some xs => newO (.lst xs) st
  | none => .no
theorem ev_list : oList [a] st = listK (getS st a) st := rfl
theorem ev_listK : listK (some xs) st = newO (.lst xs) st := rfl
def tupK (o : Option (List A)) (st : Sto) : Res A := match o with
  | some xs => .ok (.tup xs) st
  | none => .no
theorem ev_tuple : oTuple [a] st = tupK (getS st a) st := rfl
theorem ev_tupK : tupK (some xs) st = .ok (.tup xs) st := rfl
theorem ev_getST : getS st (.tup xs) = some xs := rfl
theorem ev_getSR {n : Nat} : getS st (.ref n) = getL st (.ref n) := rfl
theorem ev_getSL : getS st (.lit xs) = some xs := rfl
def allK (g : List Bool → Bool) (o : Option (List A)) (st : Sto) : Res A := match o with
  | some xs => lift ((bls xs).map fun bs => A.bl (g bs)) st
  | none => .no
theorem ev_all {g : List Bool → Bool} : oAll g [a] st = allK g (getL st a) st := rfl
theorem ev_allK {g : List Bool → Bool} : allK g (some xs) st = lift ((bls xs).map fun bs => A.bl (g bs)) st := rfl
theorem ev_eqXI : oEqX (.int i) (.int j) st = .ok (.bl (decide (i = j))) st := rfl
theorem ev_eqXS : oEqX (.str x) (.str y) st = .ok (.bl (decide (x = y))) st := rfl
theorem ev_neXI : oNeX (.int i) (.int j) st = .ok (.bl (!decide (i = j))) st := rfl
theorem ev_neXS : oNeX (.str x) (.str y) st = .ok (.bl (!decide (x = y))) st := rfl
theorem ev_neXB {c d : Bool} : oNeX (.bl c) (.bl d) st = .ok (.bl (!decide (c = d))) st := rfl
theorem ev_eqXB {c d : Bool} : oEqX (.bl c) (.bl d) st = .ok (.bl (decide (c = d))) st := rfl
def nil2 (o o' : Option (List A)) : Option Bool := match o, o' with
  | some xs, some [] => some xs.isEmpty
  | _, _ => none
def eqK (o : Option Bool) (a b : A) (st : Sto) : Res A := match o with
  | some c => .ok (.bl c) st
  | none => oEq a b st
def neK (o : Option Bool) (a b : A) (st : Sto) : Res A := match o with
  | some c => .ok (.bl (!c)) st
  | none => oNe a b st
theorem ev_eqXR {n m : Nat} : oEqX (.ref n) (.ref m) st = eqK (nil2 (gL st[n]?) (gL st[m]?)) (.ref n) (.ref m) st := rfl
theorem ev_neXR {n m : Nat} : oNeX (.ref n) (.ref m) st = neK (nil2 (gL st[n]?) (gL st[m]?)) (.ref n) (.ref m) st := rfl
theorem ev_nil2 : nil2 (some xs) (some []) = some xs.isEmpty := rfl
theorem ev_eqK {c : Bool} : eqK (some c) a b st = .ok (.bl c) st := rfl
theorem ev_neK {c : Bool} : neK (some c) a b st = .ok (.bl (!c)) st := rfl
def mth1 (o : Option (Nat × List A)) (k : Res A) : Res A := match o with
  | some _ => k
  | none => .no
def mth3 (o : Option (A × List A)) (n : Nat) (s : Sto) : Res A := match o with
  | some (a, ys) => .ok a (s.set n (.lst ys))
  | none => .no
def mth2 (o : Option (Nat × List A)) (op : List A → List A → Option (A × List A)) (as : List A) (s : Sto) : Res A := match o with
  | some (n, xs) => mth3 (op xs as) n s
  | none => .no
theorem ev_meth {op : List A → List A → Option (A × List A)} {f : ME} {g : MA} : mMeth op f g env st = (f env st).bind fun x s1 => mth1 (getM s1 x) ((g env s1).bind fun as s2 => mth2 (getM s2 x) op as s2) := by
  unfold mMeth
  congr 1
  funext x s1
  unfold mth1
  split <;> rename_i h
  · rw [h]
  · rw [h]
    first | rfl | congr 1
theorem ev_meth0 {op : List A → List A → Option (A × List A)} {f : ME} : mMeth0 op f env st = (f env st).bind fun x s1 => mth1 (getM s1 x) (mth2 (getM s1 x) op [] s1) := by
  unfold mMeth0
  rw [ev_meth]
  rfl
theorem ev_mth1 {q : Nat × List A} {k : Res A} : mth1 (some q) k = k := rfl
theorem ev_mth2 {n : Nat} {op : List A → List A → Option (A × List A)} {as : List A} : mth2 (some (n, xs)) op as s = mth3 (op xs as) n s := rfl
theorem ev_mth3 {n : Nat} : mth3 (some (a, ys)) n s = .ok a (s.set n (.lst ys)) := rfl
theorem ev_append : oAppend xs [a] = if xs.length < sizeLine then some (.non, xs ++ [a]) else none := rfl
def m0K (g : Str → Option A) (a : A) (s : Sto) : Res A := match a with
  | .str z => lift (g z) s
  | _ => .no
theorem ev_m0 {g : Str → Option A} {f : ME} : mM0 g f env st = (f env st).bind (m0K g) := rfl
theorem ev_m0K {g : Str → Option A} : m0K g (.str x) s = lift (g x) s := rfl
theorem ev_str : oStr [.int i] st = if i.natAbs.log2 < 1920 then .ok (.str (toString i)) st else .no := rfl
theorem ev_for {mi : MI} {g : MG} {b : MS} : sFor mi g b env st = (mi env st).thenS env fun xo s => forL xo.2 g b xo.1 env s := rfl
def okT : Sto → Prop := fun _ => True
def rg1K (as : List A) (s : Sto) : Res (List A × (Sto → Prop)) := match as with
  | [.int j] => if -(2 ^ 62) ≤ j ∧ j < 2 ^ 62 then .ok (rngA 0 j.toNat, okT) s else .no
  | _ => .no
theorem ev_miR1 {f : MA} : miR1 f env st = (f env st).bind rg1K := rfl
theorem ev_rg1K : rg1K [.int j] s = if -(2 ^ 62) ≤ j ∧ j < 2 ^ 62 then .ok (rngA 0 j.toNat, okT) s else .no := rfl
def okL (a : A) (xs : List A) : Sto → Prop := fun s' => getL s' a = some xs
def liK (a : A) (o : Option (List A)) (s : Sto) : Res (List A × (Sto → Prop)) := match o with
  | some xs => .ok (xs, fun s' => getL s' a = some xs) s
  | none => .no
theorem ev_miL {f : ME} : miL f env st = (f env st).bind fun a s => liK a (getL s a) s := rfl
theorem ev_liK : liK a (some xs) s = .ok (xs, okL a xs) s := rfl
def tiK (a : A) (s : Sto) : Res (List A × (Sto → Prop)) := match a with
  | .tup xs => .ok (xs, fun _ => True) s
  | _ => .no
theorem ev_miT {f : ME} : miT f env st = (f env st).bind tiK := rfl
theorem ev_tiK : tiK (.tup xs) s = .ok (xs, okT) s := rfl
theorem ev_lc {mi : MI} {g : MG} {tt : MT} {te : ME} {vs : List Nat} : mLc mi g tt te vs env st = (mi env st).bind fun xo s => lcL s.length xo.2 g tt te (wipeA env vs) xo.1 (s ++ [.lst []]) := rfl
theorem ev_wipe0 : wipeA env [] = env := rfl
theorem ev_wipeS {v : Nat} {vs : List Nat} : wipeA env (v :: vs) = (wipeA env vs).set v none := rfl
theorem ev_yes : mYes env st = .ok true st := rfl
theorem ev_lenSet {f : ME} : mLenSet f env st = (f env st).bind fun a s => lenSetK ((getL s a).bind intsOf) s := rfl
theorem ev_lenSetK {ns : List Int} : lenSetK (some ns) s = if ns.length ≤ 4000 then .ok (.int ((ddup ns).length : Nat)) s else .no := rfl
def lrK (a : A) (s : Sto) : Res A := match a with
  | .int n => if 0 ≤ n ∧ n ≤ 1000 then newO (.lst (rngA 0 n.toNat)) s else .no
  | _ => .no
theorem ev_listR {f : ME} : mListR f env st = (f env st).bind lrK := rfl
theorem ev_lrK : lrK (.int i) s = if 0 ≤ i ∧ i ≤ 1000 then newO (.lst (rngA 0 i.toNat)) s else .no := rfl
def pt1 (y : A) (m : Option (Nat × List A)) (a : A) (s : Sto) : Option Sto := match y, m with
  | .int k, some (n, xs) => (ixN xs.length k).map fun j => s.set n (.lst (xs.set j a))
  | _, _ => none
def p2K (o' i' : ME) (env : AEnv) (a2 : A) (r : Option Sto) : RF := match r with
  | some s3 => (o' env s3).thenS env fun x' s4 => (i' env s4).thenS env fun y' s5 => match put1 x' y' a2 s5 with
    | some s6 => .fl (.nx env) s6
    | none => .no
  | none => .no
def p2A (o i o' i' : ME) (env : AEnv) (a : A) (s0 : Sto) : RF := match a with
  | .tup [a1, a2] => (o env s0).thenS env fun x s1 => (i env s1).thenS env fun y s2 => p2K o' i' env a2 (put1 x y a1 s2)
  | _ => .no
def p2E (r : Option Sto) (env : AEnv) : RF := match r with
  | some s6 => .fl (.nx env) s6
  | none => .no
theorem ev_put2 {f o i o' i' : ME} : sPut2 f o i o' i' env st = (f env st).thenS env fun a s0 => p2A o i o' i' env a s0 := rfl
theorem ev_p2A {o i o' i' : ME} {a1 a2 : A} : p2A o i o' i' env (.tup [a1, a2]) s = (o env s).thenS env fun x s1 => (i env s1).thenS env fun y s2 => p2K o' i' env a2 (put1 x y a1 s2) := rfl
theorem ev_p2K {o' i' : ME} {a2 : A} : p2K o' i' env a2 (some s) = (o' env s).thenS env fun x' s4 => (i' env s4).thenS env fun y' s5 => p2E (put1 x' y' a2 s5) env := rfl
theorem ev_p2E : p2E (some s) env = .fl (.nx env) s := rfl
theorem ev_put1 {n : Nat} : put1 (.ref n) (.int j) a s = pt1 (.int j) (gM n s[n]?) a s := rfl
theorem ev_pt1 {n k : Nat} (h : ixN xs.length j = some k) : pt1 (.int j) (some (n, xs)) a s = some (s.set n (.lst (xs.set k a))) := by
  unfold pt1
  simp only [h]
  rfl
end

/-! ### mirrors: truths among numbers -/
section
variable {w : World} {W : WishX} {X : Cx}
def isBl : A → Bool
  | .bl _ => true
  | _ => false
def rBI (g : Int → Int → Int) : R2 := fun x y H Q => ∃ k j, x = .bl k ∧ y = .int j ∧ Q (.int (g (b2i k) j)) H
def oBI (g : Int → Int → Int) : A → A → Sto → Res A := fun a b st => match a, b with
  | .bl k, .int j => .ok (.int (g (b2i k) j)) st
  | _, _ => .no
theorem r2_BI {g : Int → Int → Int} : R2ok K w (rBI g) (oBI g) := fun ρ H st x y a b Q X rel ra rb p => by
  unfold oBI at p
  split at p
  · cases ra
    cases rb
    exact ⟨_, _, rfl, rfl, p.give rel (.int _)⟩
  · exact p.elim
theorem opB_add : OpR X (binaryOp .Add) (rBI fun i j => i + j) := by
  intro pins s σ H x y v u Q I rx ry h
  obtain ⟨k, j, rfl, rfl, q⟩ := h
  obtain rfl : v = Value.bool k := rx
  obtain ⟨t, rfl⟩ := ry
  exact PySem.IntBool.add_bool_int ⟨.int (b2i k + j), H, I.tok _, ⟨_, rfl⟩, q⟩
theorem opB_sub : OpR X (binaryOp .Sub) (rBI fun i j => i - j) := by
  intro pins s σ H x y v u Q I rx ry h
  obtain ⟨k, j, rfl, rfl, q⟩ := h
  obtain rfl : v = Value.bool k := rx
  obtain ⟨t, rfl⟩ := ry
  exact PySem.IntBool.sub_bool_int ⟨.int (b2i k - j), H, I.tok _, ⟨_, rfl⟩, q⟩
theorem opB_mul : OpR X (binaryOp .Mult) (rBI fun i j => i * j) := by
  intro pins s σ H x y v u Q I rx ry h
  obtain ⟨k, j, rfl, rfl, q⟩ := h
  obtain rfl : v = Value.bool k := rx
  obtain ⟨t, rfl⟩ := ry
  exact PySem.IntBool.mul_bool_int ⟨.int (b2i k * j), H, I.tok _, ⟨_, rfl⟩, q⟩
def rAddX (K : PySem.W.Frag) : R2 := rOr (rBI fun i j => i + j) (rAddD K)
theorem dAddX : OpR X (binaryOp .Add) (rAddX X.K) := OpR.or opB_add dAdd
def oAddX : A → A → Sto → Res A := oOr (fun a _ => isBl a) (oBI fun i j => i + j) oAdd
theorem r2_addX : R2ok K w (rAddX K) oAddX := r2_or r2_BI r2_add
def rSubX : R2 := rOr (rBI fun i j => i - j) rSubD
theorem dSubX : OpR X (binaryOp .Sub) rSubX := OpR.or opB_sub dSub
def oSubX : A → A → Sto → Res A := oOr (fun a _ => isBl a) (oBI fun i j => i - j) oSub
theorem r2_subX : R2ok K w rSubX oSubX := r2_or r2_BI r2_sub
def rMulX : R2 := rOr (rBI fun i j => i * j) rMulD
theorem dMulX : OpR X (binaryOp .Mult) rMulX := OpR.or opB_mul dMul
def oMulX : A → A → Sto → Res A := oOr (fun a _ => isBl a) (oBI fun i j => i * j) oMul
theorem r2_mulX : R2ok K w rMulX oMulX := r2_or r2_BI r2_mul
def rNegX : V → Hp → VK → Prop := fun x H Q => (∃ i, x = .int i ∧ Q (.int (-i)) H) ∨ ∃ k, x = .bl k ∧ Q (.int (-(b2i k))) H
theorem un_negX : UnR X (unaryOp .USub) rNegX := by
  intro pins s σ H x v Q I rx h
  rcases h with ⟨i, rfl, q⟩ | ⟨k, rfl, q⟩
  · exact un_neg pins s σ H _ v Q I rx ⟨i, rfl, q⟩
  · obtain rfl : v = Value.bool k := rx
    exact unaryOp_gives (op := .USub) (typeIs_bool' s k) rfl F.slot_bool_neg F.entry_int_neg (F.args_int_neg_1 _) (show Gives (Builtin.«int.__neg__» ⟨[.bool k], []⟩) (.int (-(b2i k))) from .of_eq rfl) ⟨.int (-(b2i k)), H, I.tok _, ⟨_, rfl⟩, q⟩
def oNegX : A → Sto → Res A := fun a st => match a with
  | .int i => .ok (.int (-i)) st
  | .bl k => .ok (.int (-(b2i k))) st
  | _ => .no
theorem r1_negX : R1ok K w rNegX oNegX := fun ρ H st x a Q X rel ra p => by
  unfold oNegX at p
  split at p
  · cases ra
    exact .inl ⟨_, rfl, p.give rel (.int _)⟩
  · cases ra
    exact .inr ⟨_, rfl, p.give rel (.int _)⟩
  · exact p.elim
def blS (k : Bool) : Str := if k then "True" else "False"
def rStrX : RL := lOr (fun xs H Q => ∃ i, xs = [.int i] ∧ i.natAbs.log2 < 1920 ∧ Q (.str (toString i)) H) (fun xs H Q => ∃ k, xs = [.bl k] ∧ Q (.str (blS k)) H)
theorem call_strX : CallR X (.type "str") rStrX := CallR.or call_str_int (by
  intro pins s σ H xs us Q I r h
  obtain ⟨k, rfl, q⟩ := h
  obtain ⟨u, rfl, ru⟩ := vals1 r
  obtain rfl : u = Value.bool k := ru
  exact PySem.P.str_of_bool ⟨.str (blS k), H, I.tok _, ⟨_, by cases k <;> rfl⟩, q⟩)
def oStrX : List A → Sto → Res A := fun as st => match as with
  | [.int i] => if i.natAbs.log2 < 1920 then .ok (.str (toString i)) st else .no
  | [.bl k] => .ok (.str (blS k)) st
  | _ => .no
theorem rl_strX : RLok K w rStrX oStrX := fun ρ H st vs as Q X rel rv p => by
  unfold oStrX at p
  split at p
  · obtain ⟨v, rfl, h⟩ := rvs1 rv
    cases h
    split at p
    · rename_i hl
      exact .inl ⟨_, rfl, hl, p.give rel (.str _)⟩
    · exact p.elim
  · obtain ⟨v, rfl, h⟩ := rvs1 rv
    cases h
    exact .inr ⟨_, rfl, p.give rel (.str _)⟩
  · exact p.elim
end
section
variable {a b : A} {st : Sto} {i j : Int} {x y : Str} {xs ys : List A} {c : Bool}
theorem ev_addXI : oAddX (.int i) (.int j) st = .ok (.int (i + j)) st := rfl
theorem ev_addXB : oAddX (.bl c) (.int j) st = .ok (.int (b2i c + j)) st := rfl
theorem ev_addXS : oAddX (.str x) (.str y) st = if decide (x.length + y.length ≤ sizeLine) = true then .ok (.str (x ++ y)) st else .no := rfl
theorem ev_addXT : oAddX (.tup xs) (.tup ys) st = if xs.length + ys.length ≤ sizeLine then .ok (.tup (xs ++ ys)) st else .no := rfl
theorem ev_addXL {n : Nat} : oAddX (.ref n) b st = catO (getM st (.ref n)) (getM st b) st := rfl
theorem ev_subXI : oSubX (.int i) (.int j) st = .ok (.int (i - j)) st := rfl
theorem ev_subXB : oSubX (.bl c) (.int j) st = .ok (.int (b2i c - j)) st := rfl
theorem ev_mulXI : oMulX (.int i) (.int j) st = if cMul i j = true then .ok (.int (i * j)) st else .no := rfl
theorem ev_mulXB : oMulX (.bl c) (.int j) st = .ok (.int (b2i c * j)) st := rfl
def repK (m : Option (Nat × List A)) (b : A) (st : Sto) : Res A := match m, b with
  | some (_, xs), .int k => if -(2 ^ 63) ≤ k ∧ k < 2 ^ 63 ∧ xs.length * k.toNat ≤ sizeLine then newO (.lst (List.replicate k.toNat xs).flatten) st else .no
  | _, _ => .no
theorem ev_mulXL {n : Nat} : oMulX (.ref n) b st = repK (getM st (.ref n)) b st := rfl
theorem ev_negXI : oNegX (.int i) st = .ok (.int (-i)) st := rfl
theorem ev_negXB : oNegX (.bl c) st = .ok (.int (-(b2i c))) st := rfl
theorem ev_strXI : oStrX [.int i] st = if i.natAbs.log2 < 1920 then .ok (.str (toString i)) st else .no := rfl
theorem ev_strXB : oStrX [.bl c] st = .ok (.str (blS c)) st := rfl
end

/-! ### mirrors: stores, the bag -/
structure Old (b : Nat) (st st' : Sto) : Prop where
  le : st.length ≤ st'.length
  eq : ∀ n, n < st.length → n ≠ b → st'[n]? = st[n]?
theorem Old.refl (b : Nat) (st : Sto) : Old b st st := ⟨Nat.le_refl _, fun _ _ _ => rfl⟩
theorem Old.trans {b : Nat} {s1 s2 s3 : Sto} (h : Old b s1 s2) (g : Old b s2 s3) : Old b s1 s3 := ⟨Nat.le_trans h.le g.le, fun n hn nb => (g.eq n (Nat.lt_of_lt_of_le hn h.le) nb).trans (h.eq n hn nb)⟩
theorem Old.get {b n : Nat} {st st' : Sto} {o : AO} (h : Old b st st') (e : st[n]? = some o) (nb : n ≠ b) : st'[n]? = some o := (h.eq n (List.getElem?_eq_some_iff.mp e).1 nb).trans e
theorem Old.app (b : Nat) (st : Sto) (o : AO) : Old b st (st ++ [o]) := ⟨by rw [List.length_append]; omega, fun n hn _ => List.getElem?_append_left hn⟩
theorem Old.put (b : Nat) (st : Sto) (o : AO) : Old b st (st.set b o) := ⟨by rw [List.length_set]; omega, fun n _ nb => List.getElem?_set_ne (fun z => nb z.symm)⟩
/-- what is new is changed -/
theorem Old.putNew {b n : Nat} {st st' : Sto} {o : AO} (h : Old b st st') (hn : st.length ≤ n) : Old b st (st'.set n o) := ⟨by rw [List.length_set]; exact h.le, fun m hm nb => by rw [List.getElem?_set_ne (by omega)]; exact h.eq m hm nb⟩
def BagAt (st : Sto) (b : Nat) : Prop := ∃ x y : Int, st[b]? = some (.lst [.int x, .int y]) ∧ 0 ≤ x ∧ 0 ≤ y ∧ y < 2147483647
theorem BagAt.lt {st : Sto} {b : Nat} (h : BagAt st b) : b < st.length := by
  obtain ⟨x, y, e, _⟩ := h
  exact (List.getElem?_eq_some_iff.mp e).1
theorem BagAt.app {st : Sto} {b : Nat} (h : BagAt st b) (o : AO) : BagAt (st ++ [o]) b := by
  have hl := h.lt
  obtain ⟨x, y, e, r⟩ := h
  exact ⟨x, y, by rw [List.getElem?_append_left hl]; exact e, r⟩
theorem BagAt.put {st : Sto} {b n : Nat} (h : BagAt st b) (o : AO) (ne : n ≠ b) : BagAt (st.set n o) b := by
  obtain ⟨x, y, e, r⟩ := h
  exact ⟨x, y, by rw [List.getElem?_set_ne ne]; exact e, r⟩
theorem ix20 : ixN 2 0 = some 0 := by decide
theorem ix21 : ixN 2 1 = some 1 := by decide
theorem cMul_r {i j : Int} (h : -(2 ^ 64) < j ∧ j < 2 ^ 64) : cMul i j = true := decide_eq_true (.inr h)
theorem cMul_l {i j : Int} (h : -(2 ^ 64) < i ∧ i < 2 ^ 64) : cMul i j = true := decide_eq_true (.inl h)
theorem log_lt {m : Int} (h0 : 0 < m) (h : m < 2 ^ 200) : m.natAbs.log2 < 9000 := by
  have h1 : m.natAbs < 2 ^ 200 := by omega
  have h2 : m.natAbs ≠ 0 := by omega
  have := (Nat.log2_lt h2).mpr h1
  omega
theorem putO_is {k : Int} {n j : Nat} {xs : List A} {a : A} {env : AEnv} {s : Sto} (h : ixN xs.length k = some j) : putO (.int k) (some (n, xs)) a env s = .fl (.nx env) (s.set n (.lst (xs.set j a))) := ev_putO h
/-! ### _law_take -/
abbrev s__law_take : Stmt := topS 14
theorem sc__law_take : FnScope ["bag", "many", "found"] ["bag", "many"] (defScope s__law_take) := ⟨rfl, rfl, rfl, by decide +kernel, rfl, by decide +kernel, by decide +kernel⟩

noncomputable def b__law_take : MS := (sSeq (sIf (mTest (mOp oGt (mOp oIxD (mVar 0) (mC (.int 0))) (mC (.int 0))))
 (sSeq (sAsg (mOp oMod (mOp oIxD (mVar 0) (mC (.int 0))) (mVar 1)) (mgName 2))
 (sSeq (sPutL (mOp oDiv (mOp oIxD (mVar 0) (mC (.int 0))) (mVar 1)) (mVar 0) (mC (.int 0)))
 (sRet (mVar 2))))
 sNext)
 (sSeq (sPutL (mOp oMod (mOp oMulX (mOp oIxD (mVar 0) (mC (.int 1))) (mC (.int 48271))) (mC (.int 2147483647))) (mVar 0) (mC (.int 1)))
 (sRet (mOp oMod (mOp oDiv (mOp oMod (mOp oMulX (mOp oIxD (mVar 0) (mC (.int 1))) (mOp oIxD (mVar 0) (mC (.int 1)))) (mC (.int 2147483629))) (mC (.int 64))) (mVar 1)))))
noncomputable def m__law_take : List A → Sto → Res A := runB 3 b__law_take
theorem ok__law_take {f : Addr} {fd : FuncData} (F : Fun K "_law_take" "_law_take" s__law_take f fd) (gm : mg "_law_take" = some (.ref f)) (N : Fre K mg)  : C8.Cal P w K mg base 1 "_law_take" (spN K w 2 m__law_take) [] := by
  refine mkCal F gm sc__law_take (F.binds (ps := ["bag", "many"]) fun _ _ _ _ _ _ us hl => match us, hl with | [_, _], _ => rfl) (fun vs H Q E h => ?_) (fun cdv A outer s H vs Q E hr h => ?_)
  · obtain ⟨_, _, _, hl, _⟩ := h
    exact hl
  · refine ⟨_, (pss_cons (ps_if (pt_cmpR (show OpR _ _ rGtD from dGt) (pe_ix (show IxR _ (rIxAny K) from dIx) (pv 0) pe_int (fun _ _ => rfl)) pe_int (nomark _))
 (pss_cons (ps_set (i := 2) sc__law_take.nd rfl (.inl rfl) (pe_op (show OpR _ _ rModD from dMod) (pe_ix (show IxR _ (rIxAny K) from dIx) (pv 0) pe_int (fun _ _ => rfl)) (pv 1)))
 (pss_cons (ps_asg (pe_op (show OpR _ _ rDivD from dDiv) (pe_ix (show IxR _ (rIxAny K) from dIx) (pv 0) pe_int (fun _ _ => rfl)) (pv 1)) (pg_sub (pv 0) pe_int set_list))
 (pss_one (ps_ret (pv 2)))))
 pss_nil)
 (pss_cons (ps_asg (pe_op (show OpR _ _ rModD from dMod) (pe_op (show OpR _ _ rMulX from dMulX) (pe_ix (show IxR _ (rIxAny K) from dIx) (pv 0) pe_int (fun _ _ => rfl)) pe_int) pe_int) (pg_sub (pv 0) pe_int set_list))
 (pss_one (ps_ret (pe_op (show OpR _ _ rModD from dMod) (pe_op (show OpR _ _ rDivD from dDiv) (pe_op (show OpR _ _ rModD from dMod) (pe_op (show OpR _ _ rMulX from dMulX) (pe_ix (show IxR _ (rIxAny K) from dIx) (pv 0) pe_int (fun _ _ => rfl)) (pe_ix (show IxR _ (rIxAny K) from dIx) (pv 0) pe_int (fun _ _ => rfl))) pe_int) pe_int) (pv 1)))))), ?_⟩
    exact spN_body (b := b__law_take) (show RS K w WF _ b__law_take from (rs_seq (rs_if (rt_test (re_op r2_gt (re_op r2_ixD (re_var (i := 0)) re_int) re_int))
 (rs_seq (rs_asg (re_op r2_mod (re_op r2_ixD (re_var (i := 0)) re_int) (re_var (i := 1))) (rg_name (i := 2) (vs := [2]) (by decide)))
 (rs_seq (rs_putL (re_op r2_div (re_op r2_ixD (re_var (i := 0)) re_int) (re_var (i := 1))) (re_var (i := 0)) re_int)
 (rs_ret (re_var (i := 2)))))
 rs_next)
 (rs_seq (rs_putL (re_op r2_mod (re_op r2_mulX (re_op r2_ixD (re_var (i := 0)) re_int) re_int) re_int) (re_var (i := 0)) re_int)
 (rs_ret (re_op r2_mod (re_op r2_div (re_op r2_mod (re_op r2_mulX (re_op r2_ixD (re_var (i := 0)) re_int) (re_op r2_ixD (re_var (i := 0)) re_int)) re_int) re_int) (re_var (i := 1))))))) h
theorem st__law_take (a0 a1 : A) (st : Sto) : m__law_take [a0, a1] st = fin (b__law_take [some a0, some a1, none] st) := rfl

/-! ### _law_bag -/
abbrev s__law_bag : Stmt := topS 13
theorem sc__law_bag : FnScope ["script", "k", "cell"] ["script", "k"] (defScope s__law_bag) := ⟨rfl, rfl, rfl, by decide +kernel, rfl, by decide +kernel, by decide +kernel⟩

noncomputable def b__law_bag : MS := (sSeq (sAsg (mC (.int 0)) (mgName 2))
 (sSeq (sIf (mTest (mOp oLt (mVar 1) (mCB oLen (mCons (mVar 0) mNil))))
 (sAsg (mCB oAbs (mCons (mOp oIxD (mVar 0) (mVar 1)) mNil)) (mgName 2))
 sNext)
 (sSeq (sIf (mTest (mOp oLt (mVar 2) (mOp oPow (mC (.int 10)) (mC (.int 18)))))
 (sRet (mLst (mCons (mC (.int 0)) (mCons (mOp oAddX (mC (.int 1)) (mOp oMod (mOp oAddX (mOp oMulX (mVar 2) (mC (.int 7919))) (mOp oMulX (mC (.int 104729)) (mVar 1))) (mC (.int 2147483646)))) mNil))))
 sNext)
 (sRet (mLst (mCons (mVar 2) (mCons (mOp oAddX (mC (.int 1)) (mOp oMod (mOp oAddX (mVar 2) (mVar 1)) (mC (.int 2147483646)))) mNil)))))))
noncomputable def m__law_bag : List A → Sto → Res A := runB 3 b__law_bag
theorem ok__law_bag {f : Addr} {fd : FuncData} (F : Fun K "_law_bag" "_law_bag" s__law_bag f fd) (gm : mg "_law_bag" = some (.ref f)) (N : Fre K mg)  : C8.Cal P w K mg base 1 "_law_bag" (spN K w 2 m__law_bag) [] := by
  refine mkCal F gm sc__law_bag (F.binds (ps := ["script", "k"]) fun _ _ _ _ _ _ us hl => match us, hl with | [_, _], _ => rfl) (fun vs H Q E h => ?_) (fun cdv A outer s H vs Q E hr h => ?_)
  · obtain ⟨_, _, _, hl, _⟩ := h
    exact hl
  · refine ⟨_, (pss_cons (ps_set (i := 2) sc__law_bag.nd rfl (.inl rfl) pe_int)
 (pss_cons (ps_if (pt_cmpR (show OpR _ _ rLtD from dLt) (pv 1) (pe_callB (show CallR _ _ (rLenAny K) from call_lenAny) (by rfl) N.len (by decide +kernel) (pa_cons (pv 0) pa_nil)) (nomark _))
 (pss_one (ps_set (i := 2) sc__law_bag.nd rfl (.inl rfl) (pe_callB call_abs (by rfl) N.abs (by decide +kernel) (pa_cons (pe_ix (show IxR _ (rIxAny K) from dIx) (pv 0) (pv 1) (fun _ _ => rfl)) pa_nil))))
 pss_nil)
 (pss_cons (ps_if (pt_cmpR (show OpR _ _ rLtD from dLt) (pv 2) (pe_op (show OpR _ _ rPowD from dPow) pe_int pe_int) (nomark _))
 (pss_one (ps_ret (pe_lst (pa_cons pe_int (pa_cons (pe_op (show OpR _ _ (rAddX K) from dAddX) pe_int (pe_op (show OpR _ _ rModD from dMod) (pe_op (show OpR _ _ (rAddX K) from dAddX) (pe_op (show OpR _ _ rMulX from dMulX) (pv 2) pe_int) (pe_op (show OpR _ _ rMulX from dMulX) pe_int (pv 1))) pe_int)) pa_nil)))))
 pss_nil)
 (pss_one (ps_ret (pe_lst (pa_cons (pv 2) (pa_cons (pe_op (show OpR _ _ (rAddX K) from dAddX) pe_int (pe_op (show OpR _ _ rModD from dMod) (pe_op (show OpR _ _ (rAddX K) from dAddX) (pv 2) (pv 1)) pe_int)) pa_nil)))))))), ?_⟩
    exact spN_body (b := b__law_bag) (show RS K w WF _ b__law_bag from (rs_seq (rs_asg re_int (rg_name (i := 2) (vs := [2]) (by decide)))
 (rs_seq (rs_if (rt_test (re_op r2_lt (re_var (i := 1)) (re_cb rl_len (ra_cons (re_var (i := 0)) ra_nil))))
 (rs_asg (re_cb rl_abs (ra_cons (re_op r2_ixD (re_var (i := 0)) (re_var (i := 1))) ra_nil)) (rg_name (i := 2) (vs := [2]) (by decide)))
 rs_next)
 (rs_seq (rs_if (rt_test (re_op r2_lt (re_var (i := 2)) (re_op r2_pow re_int re_int)))
 (rs_ret (re_lst (ra_cons re_int (ra_cons (re_op r2_addX re_int (re_op r2_mod (re_op r2_addX (re_op r2_mulX (re_var (i := 2)) re_int) (re_op r2_mulX re_int (re_var (i := 1)))) re_int)) ra_nil))))
 rs_next)
 (rs_ret (re_lst (ra_cons (re_var (i := 2)) (ra_cons (re_op r2_addX re_int (re_op r2_mod (re_op r2_addX (re_var (i := 2)) (re_var (i := 1))) re_int)) ra_nil)))))))) h
theorem st__law_bag (a0 a1 : A) (st : Sto) : m__law_bag [a0, a1] st = fin (b__law_bag [some a0, some a1, none] st) := rfl

theorem take_ev {st : Sto} {b : Nat} {m : Int} (hB : BagAt st b) (hm : 0 < m) (hm2 : m < 2 ^ 200) :
    ∃ r st', m__law_take [.ref b, .int m] st = .ok (.int r) st' ∧ 0 ≤ r ∧ r < m ∧ Old b st st' ∧ BagAt st' b ∧ st'.length = st.length := by
  have hl := hB.lt
  obtain ⟨x, y, hb, hx, hy, hy2⟩ := hB
  rw [st__law_take]
  unfold b__law_take
  by_cases h0 : 0 < x
  · have hd := log_lt hm hm2
    have hp : ∀ (a : A) (env : AEnv) (s : Sto), putO (.int 0) (some (b, [.int x, .int y])) a env s = .fl (.nx env) (s.set b (.lst [a, .int y])) := fun a env s => ev_putO (j := 0) ix20
    simp only [ev_bok, ev_bno, ev_bex, ev_tok, ev_tno, ev_tex, ev_nnx, ev_nrt, ev_nbk, ev_nct, ev_nex, ev_nno, ev_frt, ev_fnx, ev_fex, ev_xok, ev_lsome, ev_lnone, ev_seq, ev_if, ev_ret, ev_retN, ev_drop, ev_nop, ev_brk, ev_cont, ev_asgN, ev_asgT, ev_asgO, ev_mgTup, ev_mgN, ev_mgC, ev_mg0, ev_putL, ev_putO, ev_var, ev_vr, ev_c, ev_op, ev_un, ev_test, ev_tb, ev_notT, ev_andT, ev_orT, ev_ifE, ev_not, ev_nb, ev_and, ev_andK, ev_or, ev_orK, ev_chain, ev_chK, ev_nil, ev_cons, ev_tup, ev_lst, ev_new, ev_call, ev_cb, ev_size, ev_addI, ev_addS, ev_addT, ev_addL, ev_catO, ev_sub, ev_mul, ev_div, ev_mod, ev_p5, ev_p6, ev_p12, ev_p18, ev_p30, ev_neg, ev_ltI, ev_ltS, ev_leI, ev_leS, ev_gt, ev_ge, ev_eqI, ev_eqS, ev_neI, ev_neS, ev_neB, ev_eqB, ev_is, ev_isnot, ev_ixT, ev_ixS, ev_ixR, ev_ixL, ev_ixK, ev_getL, ev_getM, ev_gL, ev_gM, ev_at0, ev_at1, ev_at2, ev_at3, ev_at4, ev_lenS, ev_lenR, ev_lenT, ev_lenL, ev_lenO, ev_lenD, ev_abs, ev_min2, ev_max2, ev_intI, ev_intB, ev_set, ev_fc, ev_setset, ev_last, ev_appk, ev_app0, ev_setk, ev_set0, ev_assoc, ev_lapp, ev_lappA, ev_sl, ev_nopart, ev_part, ev_ptK, ev_slT, ev_slS, ev_slR, ev_slK, ev_tyN, ev_tyB, ev_tyI, ev_tyS, ev_tyT, ev_tyL, ev_tyR, ev_tyRL, ev_isi, ev_isi1, ev_isi2, ev_isi3, ev_isi4, ev_isi5, ev_isiT, ev_isi2K, ev_isTy, ev_list, ev_listK, ev_tuple, ev_tupK, ev_getST, ev_getSR, ev_getSL, ev_all, ev_allK, ev_eqXI, ev_eqXS, ev_neXI, ev_neXS, ev_neXB, ev_eqXB, ev_eqXR, ev_neXR, ev_nil2, ev_eqK, ev_neK, ev_meth, ev_meth0, ev_mth1, ev_mth2, ev_mth3, ev_append, ev_m0, ev_m0K, ev_str, ev_for, ev_miR1, ev_rg1K, ev_miL, ev_liK, ev_miT, ev_tiK, ev_lc, ev_wipe0, ev_wipeS, ev_yes, ev_lenSet, ev_lenSetK, ev_listR, ev_lrK, ev_put2, ev_p2A, ev_p2K, ev_p2E, ev_put1, ev_pt1, ev_addXI, ev_addXB, ev_addXS, ev_addXT, ev_addXL, ev_subXI, ev_subXB, ev_mulXI, ev_mulXB, ev_mulXL, ev_negXI, ev_negXB, ev_strXI, ev_strXB, List.getElem?_cons_zero, List.getElem?_cons_succ, List.set_cons_zero, List.set_cons_succ, List.length_cons, List.length_nil, List.cons_append, List.nil_append, if_true, if_false, Bool.false_eq_true, Bool.true_eq_false, reduceIte, Bool.not_true, Bool.not_false, Bool.and_true, Bool.true_and, Bool.and_false, Bool.false_and, Bool.or_true, Bool.true_or, Bool.or_false, Bool.false_or, decide_eq_true_eq, Nat.reduceAdd, Nat.reduceLeDiff, Nat.zero_add, Int.reduceLT, Int.reduceLE, Int.reduceEq, Int.reduceNeg, Nat.reduceEqDiff, and_self, and_true, true_and, decide_true, decide_false, eq_self, ite_true, ite_false, Int.reduceSub, Int.reduceAdd, Int.cast_ofNat_Int, Int.natCast_add, Int.cast_ofNat_Int, Nat.reduceSub, Nat.add_assoc, String.reduceBEq, String.reduceEq, Bool.or_not_self, beq_self_eq_true, hb, h0, hm, hd, hp, and_self, decide_true]
    refine ⟨_, _, rfl, Int.emod_nonneg _ (by omega), Int.emod_lt_of_pos _ hm, Old.put _ _ _, ⟨x / m, y, ?_, Int.ediv_nonneg hx (by omega), hy, hy2⟩, List.length_set⟩
    rw [List.getElem?_set_self hl]
  · have hp : ∀ (a : A) (env : AEnv) (s : Sto), putO (.int 1) (some (b, [.int x, .int y])) a env s = .fl (.nx env) (s.set b (.lst [.int x, a])) := fun a env s => ev_putO (j := 1) ix21
    have l64 : (64 : Int).natAbs.log2 < 9000 := by decide
    have c1 : cMul y 48271 = true := cMul_r (by decide)
    have hz1 : 0 ≤ y * 48271 % 2147483647 := Int.emod_nonneg _ (by decide)
    have hz2 : y * 48271 % 2147483647 < 2147483647 := Int.emod_lt_of_pos _ (by decide)
    have c2 : cMul (y * 48271 % 2147483647) (y * 48271 % 2147483647) = true := cMul_l ⟨by omega, by omega⟩
    have hs : (st.set b (.lst [.int x, .int (y * 48271 % 2147483647)]))[b]? = some (.lst [.int x, .int (y * 48271 % 2147483647)]) := List.getElem?_set_self hl
    simp only [ev_bok, ev_bno, ev_bex, ev_tok, ev_tno, ev_tex, ev_nnx, ev_nrt, ev_nbk, ev_nct, ev_nex, ev_nno, ev_frt, ev_fnx, ev_fex, ev_xok, ev_lsome, ev_lnone, ev_seq, ev_if, ev_ret, ev_retN, ev_drop, ev_nop, ev_brk, ev_cont, ev_asgN, ev_asgT, ev_asgO, ev_mgTup, ev_mgN, ev_mgC, ev_mg0, ev_putL, ev_putO, ev_var, ev_vr, ev_c, ev_op, ev_un, ev_test, ev_tb, ev_notT, ev_andT, ev_orT, ev_ifE, ev_not, ev_nb, ev_and, ev_andK, ev_or, ev_orK, ev_chain, ev_chK, ev_nil, ev_cons, ev_tup, ev_lst, ev_new, ev_call, ev_cb, ev_size, ev_addI, ev_addS, ev_addT, ev_addL, ev_catO, ev_sub, ev_mul, ev_div, ev_mod, ev_p5, ev_p6, ev_p12, ev_p18, ev_p30, ev_neg, ev_ltI, ev_ltS, ev_leI, ev_leS, ev_gt, ev_ge, ev_eqI, ev_eqS, ev_neI, ev_neS, ev_neB, ev_eqB, ev_is, ev_isnot, ev_ixT, ev_ixS, ev_ixR, ev_ixL, ev_ixK, ev_getL, ev_getM, ev_gL, ev_gM, ev_at0, ev_at1, ev_at2, ev_at3, ev_at4, ev_lenS, ev_lenR, ev_lenT, ev_lenL, ev_lenO, ev_lenD, ev_abs, ev_min2, ev_max2, ev_intI, ev_intB, ev_set, ev_fc, ev_setset, ev_last, ev_appk, ev_app0, ev_setk, ev_set0, ev_assoc, ev_lapp, ev_lappA, ev_sl, ev_nopart, ev_part, ev_ptK, ev_slT, ev_slS, ev_slR, ev_slK, ev_tyN, ev_tyB, ev_tyI, ev_tyS, ev_tyT, ev_tyL, ev_tyR, ev_tyRL, ev_isi, ev_isi1, ev_isi2, ev_isi3, ev_isi4, ev_isi5, ev_isiT, ev_isi2K, ev_isTy, ev_list, ev_listK, ev_tuple, ev_tupK, ev_getST, ev_getSR, ev_getSL, ev_all, ev_allK, ev_eqXI, ev_eqXS, ev_neXI, ev_neXS, ev_neXB, ev_eqXB, ev_eqXR, ev_neXR, ev_nil2, ev_eqK, ev_neK, ev_meth, ev_meth0, ev_mth1, ev_mth2, ev_mth3, ev_append, ev_m0, ev_m0K, ev_str, ev_for, ev_miR1, ev_rg1K, ev_miL, ev_liK, ev_miT, ev_tiK, ev_lc, ev_wipe0, ev_wipeS, ev_yes, ev_lenSet, ev_lenSetK, ev_listR, ev_lrK, ev_put2, ev_p2A, ev_p2K, ev_p2E, ev_put1, ev_pt1, ev_addXI, ev_addXB, ev_addXS, ev_addXT, ev_addXL, ev_subXI, ev_subXB, ev_mulXI, ev_mulXB, ev_mulXL, ev_negXI, ev_negXB, ev_strXI, ev_strXB, List.getElem?_cons_zero, List.getElem?_cons_succ, List.set_cons_zero, List.set_cons_succ, List.length_cons, List.length_nil, List.cons_append, List.nil_append, if_true, if_false, Bool.false_eq_true, Bool.true_eq_false, reduceIte, Bool.not_true, Bool.not_false, Bool.and_true, Bool.true_and, Bool.and_false, Bool.false_and, Bool.or_true, Bool.true_or, Bool.or_false, Bool.false_or, decide_eq_true_eq, Nat.reduceAdd, Nat.reduceLeDiff, Nat.zero_add, Int.reduceLT, Int.reduceLE, Int.reduceEq, Int.reduceNeg, Nat.reduceEqDiff, and_self, and_true, true_and, decide_true, decide_false, eq_self, ite_true, ite_false, Int.reduceSub, Int.reduceAdd, Int.cast_ofNat_Int, Int.natCast_add, Int.cast_ofNat_Int, Nat.reduceSub, Nat.add_assoc, String.reduceBEq, String.reduceEq, Bool.or_not_self, beq_self_eq_true, hb, h0, hm, hp, c1, c2, hs, l64]
    exact ⟨_, _, rfl, Int.emod_nonneg _ (by omega), Int.emod_lt_of_pos _ hm, Old.put _ _ _, ⟨x, _, hs, hx, hz1, hz2⟩, List.length_set⟩
theorem bag_pos' (c : Int) : 0 ≤ 1 + c % 2147483646 ∧ 1 + c % 2147483646 < 2147483647 := by
  have h1 : 0 ≤ c % 2147483646 := Int.emod_nonneg _ (by decide)
  have h2 : c % 2147483646 < 2147483646 := Int.emod_lt_of_pos _ (by decide)
  omega
theorem bag_ev {st : Sto} {ns : List Int} {k : Int} (hk : 0 ≤ k) (hk2 : k < 100) : ∃ o, m__law_bag [.lit (ns.map A.int), .int k] st = .ok (.ref st.length) (st ++ [o]) ∧ BagAt (st ++ [o]) st.length := by
  rw [st__law_bag]
  unfold b__law_bag
  have hpw : ((10 : Int) ^ (18 : Int).toNat) = 1000000000000000000 := by decide
  have pw : (0 ≤ (18 : Int) ∧ (18 : Int) ≤ 1000000 ∧ (10 : Int).natAbs < 2 ^ 64) = True := by simp
  have p1 : ((0 : Int) < 2147483646) = True := by simp
  have fin1 : ∀ d : Int, 0 ≤ d → ∃ o, fin (sSeq (sIf (mTest (mOp oLt (mVar 2) (mOp oPow (mC (.int 10)) (mC (.int 18))))) (sRet (mLst (mCons (mC (.int 0)) (mCons (mOp oAddX (mC (.int 1)) (mOp oMod (mOp oAddX (mOp oMulX (mVar 2) (mC (.int 7919))) (mOp oMulX (mC (.int 104729)) (mVar 1))) (mC (.int 2147483646)))) mNil)))) sNext) (sRet (mLst (mCons (mVar 2) (mCons (mOp oAddX (mC (.int 1)) (mOp oMod (mOp oAddX (mVar 2) (mVar 1)) (mC (.int 2147483646)))) mNil)))) [some (.lit (ns.map A.int)), some (.int k), some (.int d)] st) = .ok (.ref st.length) (st ++ [o]) ∧ BagAt (st ++ [o]) st.length := fun d hd => by
    have c1 : cMul d 7919 = true := cMul_r (by decide)
    have c2 : cMul 104729 k = true := cMul_l (by decide)
    by_cases h : d < 1000000000000000000
    · simp only [ev_bok, ev_bno, ev_bex, ev_tok, ev_tno, ev_tex, ev_nnx, ev_nrt, ev_nbk, ev_nct, ev_nex, ev_nno, ev_frt, ev_fnx, ev_fex, ev_xok, ev_lsome, ev_lnone, ev_seq, ev_if, ev_ret, ev_retN, ev_drop, ev_nop, ev_brk, ev_cont, ev_asgN, ev_asgT, ev_asgO, ev_mgTup, ev_mgN, ev_mgC, ev_mg0, ev_putL, ev_putO, ev_var, ev_vr, ev_c, ev_op, ev_un, ev_test, ev_tb, ev_notT, ev_andT, ev_orT, ev_ifE, ev_not, ev_nb, ev_and, ev_andK, ev_or, ev_orK, ev_chain, ev_chK, ev_nil, ev_cons, ev_tup, ev_lst, ev_new, ev_call, ev_cb, ev_size, ev_addI, ev_addS, ev_addT, ev_addL, ev_catO, ev_sub, ev_mul, ev_div, ev_mod, ev_p5, ev_p6, ev_p12, ev_p18, ev_p30, ev_neg, ev_ltI, ev_ltS, ev_leI, ev_leS, ev_gt, ev_ge, ev_eqI, ev_eqS, ev_neI, ev_neS, ev_neB, ev_eqB, ev_is, ev_isnot, ev_ixT, ev_ixS, ev_ixR, ev_ixL, ev_ixK, ev_getL, ev_getM, ev_gL, ev_gM, ev_at0, ev_at1, ev_at2, ev_at3, ev_at4, ev_lenS, ev_lenR, ev_lenT, ev_lenL, ev_lenO, ev_lenD, ev_abs, ev_min2, ev_max2, ev_intI, ev_intB, ev_set, ev_fc, ev_setset, ev_last, ev_appk, ev_app0, ev_setk, ev_set0, ev_assoc, ev_lapp, ev_lappA, ev_sl, ev_nopart, ev_part, ev_ptK, ev_slT, ev_slS, ev_slR, ev_slK, ev_tyN, ev_tyB, ev_tyI, ev_tyS, ev_tyT, ev_tyL, ev_tyR, ev_tyRL, ev_isi, ev_isi1, ev_isi2, ev_isi3, ev_isi4, ev_isi5, ev_isiT, ev_isi2K, ev_isTy, ev_list, ev_listK, ev_tuple, ev_tupK, ev_getST, ev_getSR, ev_getSL, ev_all, ev_allK, ev_eqXI, ev_eqXS, ev_neXI, ev_neXS, ev_neXB, ev_eqXB, ev_eqXR, ev_neXR, ev_nil2, ev_eqK, ev_neK, ev_meth, ev_meth0, ev_mth1, ev_mth2, ev_mth3, ev_append, ev_m0, ev_m0K, ev_str, ev_for, ev_miR1, ev_rg1K, ev_miL, ev_liK, ev_miT, ev_tiK, ev_lc, ev_wipe0, ev_wipeS, ev_yes, ev_lenSet, ev_lenSetK, ev_listR, ev_lrK, ev_put2, ev_p2A, ev_p2K, ev_p2E, ev_put1, ev_pt1, ev_addXI, ev_addXB, ev_addXS, ev_addXT, ev_addXL, ev_subXI, ev_subXB, ev_mulXI, ev_mulXB, ev_mulXL, ev_negXI, ev_negXB, ev_strXI, ev_strXB, List.getElem?_cons_zero, List.getElem?_cons_succ, List.set_cons_zero, List.set_cons_succ, List.length_cons, List.length_nil, List.cons_append, List.nil_append, if_true, if_false, Bool.false_eq_true, Bool.true_eq_false, reduceIte, Bool.not_true, Bool.not_false, Bool.and_true, Bool.true_and, Bool.and_false, Bool.false_and, Bool.or_true, Bool.true_or, Bool.or_false, Bool.false_or, decide_eq_true_eq, Nat.reduceAdd, Nat.reduceLeDiff, Nat.zero_add, Int.reduceLT, Int.reduceLE, Int.reduceEq, Int.reduceNeg, Nat.reduceEqDiff, and_self, and_true, true_and, decide_true, decide_false, eq_self, ite_true, ite_false, Int.reduceSub, Int.reduceAdd, Int.cast_ofNat_Int, Int.natCast_add, Int.cast_ofNat_Int, Nat.reduceSub, Nat.add_assoc, String.reduceBEq, String.reduceEq, Bool.or_not_self, beq_self_eq_true, h, c1, c2, p1, decide_true]
      exact ⟨_, rfl, 0, _, ev_last, by decide, (bag_pos' _).1, (bag_pos' _).2⟩
    · simp only [ev_bok, ev_bno, ev_bex, ev_tok, ev_tno, ev_tex, ev_nnx, ev_nrt, ev_nbk, ev_nct, ev_nex, ev_nno, ev_frt, ev_fnx, ev_fex, ev_xok, ev_lsome, ev_lnone, ev_seq, ev_if, ev_ret, ev_retN, ev_drop, ev_nop, ev_brk, ev_cont, ev_asgN, ev_asgT, ev_asgO, ev_mgTup, ev_mgN, ev_mgC, ev_mg0, ev_putL, ev_putO, ev_var, ev_vr, ev_c, ev_op, ev_un, ev_test, ev_tb, ev_notT, ev_andT, ev_orT, ev_ifE, ev_not, ev_nb, ev_and, ev_andK, ev_or, ev_orK, ev_chain, ev_chK, ev_nil, ev_cons, ev_tup, ev_lst, ev_new, ev_call, ev_cb, ev_size, ev_addI, ev_addS, ev_addT, ev_addL, ev_catO, ev_sub, ev_mul, ev_div, ev_mod, ev_p5, ev_p6, ev_p12, ev_p18, ev_p30, ev_neg, ev_ltI, ev_ltS, ev_leI, ev_leS, ev_gt, ev_ge, ev_eqI, ev_eqS, ev_neI, ev_neS, ev_neB, ev_eqB, ev_is, ev_isnot, ev_ixT, ev_ixS, ev_ixR, ev_ixL, ev_ixK, ev_getL, ev_getM, ev_gL, ev_gM, ev_at0, ev_at1, ev_at2, ev_at3, ev_at4, ev_lenS, ev_lenR, ev_lenT, ev_lenL, ev_lenO, ev_lenD, ev_abs, ev_min2, ev_max2, ev_intI, ev_intB, ev_set, ev_fc, ev_setset, ev_last, ev_appk, ev_app0, ev_setk, ev_set0, ev_assoc, ev_lapp, ev_lappA, ev_sl, ev_nopart, ev_part, ev_ptK, ev_slT, ev_slS, ev_slR, ev_slK, ev_tyN, ev_tyB, ev_tyI, ev_tyS, ev_tyT, ev_tyL, ev_tyR, ev_tyRL, ev_isi, ev_isi1, ev_isi2, ev_isi3, ev_isi4, ev_isi5, ev_isiT, ev_isi2K, ev_isTy, ev_list, ev_listK, ev_tuple, ev_tupK, ev_getST, ev_getSR, ev_getSL, ev_all, ev_allK, ev_eqXI, ev_eqXS, ev_neXI, ev_neXS, ev_neXB, ev_eqXB, ev_eqXR, ev_neXR, ev_nil2, ev_eqK, ev_neK, ev_meth, ev_meth0, ev_mth1, ev_mth2, ev_mth3, ev_append, ev_m0, ev_m0K, ev_str, ev_for, ev_miR1, ev_rg1K, ev_miL, ev_liK, ev_miT, ev_tiK, ev_lc, ev_wipe0, ev_wipeS, ev_yes, ev_lenSet, ev_lenSetK, ev_listR, ev_lrK, ev_put2, ev_p2A, ev_p2K, ev_p2E, ev_put1, ev_pt1, ev_addXI, ev_addXB, ev_addXS, ev_addXT, ev_addXL, ev_subXI, ev_subXB, ev_mulXI, ev_mulXB, ev_mulXL, ev_negXI, ev_negXB, ev_strXI, ev_strXB, List.getElem?_cons_zero, List.getElem?_cons_succ, List.set_cons_zero, List.set_cons_succ, List.length_cons, List.length_nil, List.cons_append, List.nil_append, if_true, if_false, Bool.false_eq_true, Bool.true_eq_false, reduceIte, Bool.not_true, Bool.not_false, Bool.and_true, Bool.true_and, Bool.and_false, Bool.false_and, Bool.or_true, Bool.true_or, Bool.or_false, Bool.false_or, decide_eq_true_eq, Nat.reduceAdd, Nat.reduceLeDiff, Nat.zero_add, Int.reduceLT, Int.reduceLE, Int.reduceEq, Int.reduceNeg, Nat.reduceEqDiff, and_self, and_true, true_and, decide_true, decide_false, eq_self, ite_true, ite_false, Int.reduceSub, Int.reduceAdd, Int.cast_ofNat_Int, Int.natCast_add, Int.cast_ofNat_Int, Nat.reduceSub, Nat.add_assoc, String.reduceBEq, String.reduceEq, Bool.or_not_self, beq_self_eq_true, h, p1, decide_false]
      exact ⟨_, rfl, d, _, ev_last, hd, (bag_pos' _).1, (bag_pos' _).2⟩
  by_cases h : k < ns.length
  · obtain ⟨j, hj⟩ : ∃ j : Nat, k = (j : Int) := ⟨k.toNat, by omega⟩
    have hjl : j < ns.length := by omega
    have hat : atI (ns.map A.int) k = some (.int ns[j]) := by
      rw [hj]
      exact atI_nat (by rw [List.getElem?_map, List.getElem?_eq_getElem hjl]; rfl)
    have ha : 0 ≤ (if ns[j] < 0 then -ns[j] else ns[j]) := by split <;> omega
    obtain ⟨o, e, g⟩ := fin1 _ ha
    refine ⟨o, ?_, g⟩
    simp only [ev_seq, ev_asgN, ev_c, ev_tok, ev_nnx, ev_if, ev_test, ev_op, ev_cb, ev_cons, ev_nil, ev_bok, ev_var, List.getElem?_cons_succ, List.getElem?_cons_zero, ev_vr, ev_lenL, List.set_cons_succ, List.set_cons_zero, List.length_map, ev_ltI, ev_tb, h, decide_true, if_true, ev_ixL, hat, ev_lsome, ev_abs] at e ⊢
    exact e
  · obtain ⟨o, e, g⟩ := fin1 0 (by decide)
    refine ⟨o, ?_, g⟩
    simp only [ev_seq, ev_asgN, ev_c, ev_tok, ev_nnx, ev_if, ev_test, ev_op, ev_cb, ev_cons, ev_nil, ev_bok, ev_var, List.getElem?_cons_succ, List.getElem?_cons_zero, ev_vr, ev_lenL, List.set_cons_succ, List.set_cons_zero, List.length_map, ev_ltI, ev_tb, h, decide_false, if_false, Bool.false_eq_true, ev_nop] at e ⊢
    exact e
theorem BagAt.apps {st : Sto} {b : Nat} (h : BagAt st b) (l : Sto) : BagAt (st ++ l) b := by
  have hl := h.lt
  obtain ⟨x, y, e, r⟩ := h
  exact ⟨x, y, by rw [List.getElem?_append_left hl]; exact e, r⟩
theorem Old.apps (b : Nat) (st l : Sto) : Old b st (st ++ l) := ⟨by rw [List.length_append]; omega, fun n hn _ => List.getElem?_append_left hn⟩

/-! ### is_whole -/
abbrev s_is_whole : Stmt := topS 2
theorem sc_is_whole : FnScope ["thing"] ["thing"] (defScope s_is_whole) := ⟨rfl, rfl, rfl, by decide +kernel, rfl, by decide +kernel, by decide +kernel⟩

noncomputable def b_is_whole : MS := (sRet (mAnd (mCB oIsi (mCons (mVar 0) (mCons (mC (.ty "int")) mNil))) (mNot (mCB oIsi (mCons (mVar 0) (mCons (mC (.ty "bool")) mNil))))))
noncomputable def m_is_whole : List A → Sto → Res A := runB 1 b_is_whole
theorem ok_is_whole {f : Addr} {fd : FuncData} (F : Fun K "is_whole" "is_whole" s_is_whole f fd) (gm : mg "is_whole" = some (.ref f)) (N : Fre K mg)  : C8.Cal P w K mg base 1 "is_whole" (spN K w 1 m_is_whole) [] := by
  refine mkCal F gm sc_is_whole (F.binds (ps := ["thing"]) fun _ _ _ _ _ _ us hl => match us, hl with | [_], _ => rfl) (fun vs H Q E h => ?_) (fun cdv A outer s H vs Q E hr h => ?_)
  · obtain ⟨_, _, _, hl, _⟩ := h
    exact hl
  · refine ⟨_, (pss_one (ps_ret (pe_and (pe_callB (show CallR _ _ (rIsi K) from call_isi) (by rfl) N.isinstance (by decide +kernel) (pa_cons (pv 0) (pa_cons (pe_bltn (v := .ty "int") (u := .type "int") rfl N.int (by decide +kernel) rfl) pa_nil))) (pe_one (pe_not (pe_callB (show CallR _ _ (rIsi K) from call_isi) (by rfl) N.isinstance (by decide +kernel) (pa_cons (pv 0) (pa_cons (pe_bltn (v := .ty "bool") (u := .type "bool") rfl N.bool (by decide +kernel) rfl) pa_nil)))))))), ?_⟩
    exact spN_body (b := b_is_whole) (show RS K w WF _ b_is_whole from (rs_ret (re_and (re_cb rl_isi (ra_cons (re_var (i := 0)) (ra_cons (re_c fun _ _ => .ty _) ra_nil))) (re_not (re_cb rl_isi (ra_cons (re_var (i := 0)) (ra_cons (re_c fun _ _ => .ty _) ra_nil))))))) h
theorem st_is_whole (a0 : A) (st : Sto) : m_is_whole [a0] st = fin (b_is_whole [some a0] st) := rfl

/-! ### is_number -/
abbrev s_is_number : Stmt := topS 3
theorem sc_is_number : FnScope ["thing"] ["thing"] (defScope s_is_number) := ⟨rfl, rfl, rfl, by decide +kernel, rfl, by decide +kernel, by decide +kernel⟩

noncomputable def b_is_number : MS := (sRet (mAnd (mCall 1 m_is_whole (mCons (mVar 0) mNil)) (mOp oGe (mVar 0) (mC (.int 0)))))
noncomputable def m_is_number : List A → Sto → Res A := runB 1 b_is_number
theorem ok_is_number {f : Addr} {fd : FuncData} (F : Fun K "is_number" "is_number" s_is_number f fd) (gm : mg "is_number" = some (.ref f)) (N : Fre K mg) (c_is_whole : C8.Cal P w K mg base 1 "is_whole" (spN K w 1 m_is_whole) []) : C8.Cal P w K mg base 2 "is_number" (spN K w 1 m_is_number) [] := by
  refine mkCal F gm sc_is_number (F.binds (ps := ["thing"]) fun _ _ _ _ _ _ us hl => match us, hl with | [_], _ => rfl) (fun vs H Q E h => ?_) (fun cdv A outer s H vs Q E hr h => ?_)
  · obtain ⟨_, _, _, hl, _⟩ := h
    exact hl
  · refine ⟨_, (pss_one (ps_ret (pe_and (C8.pe_c c_is_whole hr (by decide) rfl (pa_cons (pv 0) pa_nil)) (pe_one (pe_cmpR (show OpR _ _ rGeD from dGe) (pv 0) pe_int (nomark _)))))), ?_⟩
    exact spN_body (b := b_is_number) (show RS K w WF _ b_is_number from (rs_ret (re_and (re_call (ra_cons (re_var (i := 0)) ra_nil)) (re_op r2_ge (re_var (i := 0)) re_int)))) h
theorem st_is_number (a0 : A) (st : Sto) : m_is_number [a0] st = fin (b_is_number [some a0] st) := rfl

/-! ### is_within -/
abbrev s_is_within : Stmt := topS 4
theorem sc_is_within : FnScope ["thing", "least", "most"] ["thing", "least", "most"] (defScope s_is_within) := ⟨rfl, rfl, rfl, by decide +kernel, rfl, by decide +kernel, by decide +kernel⟩

noncomputable def b_is_within : MS := (sRet (mAnd (mCall 1 m_is_whole (mCons (mVar 0) mNil)) (mChain oLe oLe (mVar 1) (mVar 0) (mVar 2))))
noncomputable def m_is_within : List A → Sto → Res A := runB 3 b_is_within
theorem ok_is_within {f : Addr} {fd : FuncData} (F : Fun K "is_within" "is_within" s_is_within f fd) (gm : mg "is_within" = some (.ref f)) (N : Fre K mg) (c_is_whole : C8.Cal P w K mg base 1 "is_whole" (spN K w 1 m_is_whole) []) : C8.Cal P w K mg base 2 "is_within" (spN K w 3 m_is_within) [] := by
  refine mkCal F gm sc_is_within (F.binds (ps := ["thing", "least", "most"]) fun _ _ _ _ _ _ us hl => match us, hl with | [_, _, _], _ => rfl) (fun vs H Q E h => ?_) (fun cdv A outer s H vs Q E hr h => ?_)
  · obtain ⟨_, _, _, hl, _⟩ := h
    exact hl
  · refine ⟨_, (pss_one (ps_ret (pe_and (C8.pe_c c_is_whole hr (by decide) rfl (pa_cons (pv 0) pa_nil)) (pe_one (pe_chain (show OpR _ _ rLeD from dLe) (show OpR _ _ rLeD from dLe) (pv 1) (pv 0) (pv 2)))))), ?_⟩
    exact spN_body (b := b_is_within) (show RS K w WF _ b_is_within from (rs_ret (re_and (re_call (ra_cons (re_var (i := 0)) ra_nil)) (re_chain r2_le r2_le (re_var (i := 1)) (re_var (i := 0)) (re_var (i := 2)))))) h
theorem st_is_within (a0 a1 a2 : A) (st : Sto) : m_is_within [a0, a1, a2] st = fin (b_is_within [some a0, some a1, some a2] st) := rfl

/-! ### is_tuple -/
abbrev s_is_tuple : Stmt := topS 5
theorem sc_is_tuple : FnScope ["thing", "least", "most"] ["thing", "least", "most"] (defScope s_is_tuple) := ⟨rfl, rfl, rfl, by decide +kernel, rfl, by decide +kernel, by decide +kernel⟩

noncomputable def b_is_tuple : MS := (sRet (mAnd (mCB oIsi (mCons (mVar 0) (mCons (mC (.ty "tuple")) mNil))) (mChain oLe oLe (mVar 1) (mCB oLen (mCons (mVar 0) mNil)) (mVar 2))))
noncomputable def m_is_tuple : List A → Sto → Res A := runB 3 b_is_tuple
theorem ok_is_tuple {f : Addr} {fd : FuncData} (F : Fun K "is_tuple" "is_tuple" s_is_tuple f fd) (gm : mg "is_tuple" = some (.ref f)) (N : Fre K mg)  : C8.Cal P w K mg base 1 "is_tuple" (spN K w 3 m_is_tuple) [] := by
  refine mkCal F gm sc_is_tuple (F.binds (ps := ["thing", "least", "most"]) fun _ _ _ _ _ _ us hl => match us, hl with | [_, _, _], _ => rfl) (fun vs H Q E h => ?_) (fun cdv A outer s H vs Q E hr h => ?_)
  · obtain ⟨_, _, _, hl, _⟩ := h
    exact hl
  · refine ⟨_, (pss_one (ps_ret (pe_and (pe_callB (show CallR _ _ (rIsi K) from call_isi) (by rfl) N.isinstance (by decide +kernel) (pa_cons (pv 0) (pa_cons (pe_bltn (v := .ty "tuple") (u := .type "tuple") rfl N.tuple (by decide +kernel) rfl) pa_nil))) (pe_one (pe_chain (show OpR _ _ rLeD from dLe) (show OpR _ _ rLeD from dLe) (pv 1) (pe_callB (show CallR _ _ (rLenAny K) from call_lenAny) (by rfl) N.len (by decide +kernel) (pa_cons (pv 0) pa_nil)) (pv 2)))))), ?_⟩
    exact spN_body (b := b_is_tuple) (show RS K w WF _ b_is_tuple from (rs_ret (re_and (re_cb rl_isi (ra_cons (re_var (i := 0)) (ra_cons (re_c fun _ _ => .ty _) ra_nil))) (re_chain r2_le r2_le (re_var (i := 1)) (re_cb rl_len (ra_cons (re_var (i := 0)) ra_nil)) (re_var (i := 2)))))) h
theorem st_is_tuple (a0 a1 a2 : A) (st : Sto) : m_is_tuple [a0, a1, a2] st = fin (b_is_tuple [some a0, some a1, some a2] st) := rfl

/-! ### are_unlike -/
abbrev s_are_unlike : Stmt := topS 6
theorem sc_are_unlike : FnScope ["numbers"] ["numbers"] (defScope s_are_unlike) := ⟨rfl, rfl, rfl, by decide +kernel, rfl, by decide +kernel, by decide +kernel⟩

noncomputable def b_are_unlike : MS := (sRet (mOp oEqX (mLenSet (mVar 0)) (mCB oLen (mCons (mVar 0) mNil))))
noncomputable def m_are_unlike : List A → Sto → Res A := runB 1 b_are_unlike
theorem ok_are_unlike {f : Addr} {fd : FuncData} (F : Fun K "are_unlike" "are_unlike" s_are_unlike f fd) (gm : mg "are_unlike" = some (.ref f)) (N : Fre K mg)  : C8.Cal P w K mg base 1 "are_unlike" (spN K w 1 m_are_unlike) [] := by
  refine mkCal F gm sc_are_unlike (F.binds (ps := ["numbers"]) fun _ _ _ _ _ _ us hl => match us, hl with | [_], _ => rfl) (fun vs H Q E h => ?_) (fun cdv A outer s H vs Q E hr h => ?_)
  · obtain ⟨_, _, _, hl, _⟩ := h
    exact hl
  · refine ⟨_, (pss_one (ps_ret (pe_cmpR (show OpR _ _ (rEqX K) from (dEqX hr.units)) (pe_lenSet rfl (by rfl) N.len (by rfl) N.set (pv 0)) (pe_callB (show CallR _ _ (rLenAny K) from call_lenAny) (by rfl) N.len (by decide +kernel) (pa_cons (pv 0) pa_nil)) (nomark _)))), ?_⟩
    exact spN_body (b := b_are_unlike) (show RS K w WF _ b_are_unlike from (rs_ret (re_op r2_eqX (re_lenSet (re_var (i := 0))) (re_cb rl_len (ra_cons (re_var (i := 0)) ra_nil))))) h
theorem st_are_unlike (a0 : A) (st : Sto) : m_are_unlike [a0] st = fin (b_are_unlike [some a0] st) := rfl

/-! ### is_history_row -/
abbrev s_is_history_row : Stmt := topS 10
theorem sc_is_history_row : FnScope ["thing", "task", "kind", "value", "begin", "end", "least"] ["thing"] (defScope s_is_history_row) := ⟨rfl, rfl, rfl, by decide +kernel, rfl, by decide +kernel, by decide +kernel⟩

noncomputable def b_is_history_row : MS := (sSeq (sIf (mNotT (mTest (mCall 3 m_is_tuple (mCons (mVar 0) (mCons (mC (.int 5)) (mCons (mC (.int 5)) mNil))))))
 (sRet (mC (.bl false)))
 sNext)
 (sSeq (sAsg (mVar 0) (mgTup (mgCons (mgName 1) (mgCons (mgName 2) (mgCons (mgName 3) (mgCons (mgName 4) (mgCons (mgName 5) mgNil)))))))
 (sSeq (sIf (mOrT (mNotT (mTest (mCall 1 m_is_number (mCons (mVar 1) mNil)))) (mTest (mOp oNotInX (mVar 2) (mTup (mCons (mC (.str "read")) (mCons (mC (.str "write")) mNil))))))
 (sRet (mC (.bl false)))
 sNext)
 (sSeq (sAsg (mIfE (mTest (mOp oEqX (mVar 2) (mC (.str "write")))) (mC (.int 1)) (mC (.int 0))) (mgName 6))
 (sSeq (sIf (mNotT (mTest (mCall 3 m_is_within (mCons (mVar 3) (mCons (mVar 6) (mCons (mC (.int 999)) mNil))))))
 (sRet (mC (.bl false)))
 sNext)
 (sRet (mAnd (mCall 3 m_is_within (mCons (mVar 4) (mCons (mC (.int 0)) (mCons (mC (.int 1000000)) mNil)))) (mCall 3 m_is_within (mCons (mVar 5) (mCons (mOp oAddX (mVar 4) (mC (.int 1))) (mCons (mC (.int 1000000)) mNil)))))))))))
noncomputable def m_is_history_row : List A → Sto → Res A := runB 7 b_is_history_row
theorem ok_is_history_row {f : Addr} {fd : FuncData} (F : Fun K "is_history_row" "is_history_row" s_is_history_row f fd) (gm : mg "is_history_row" = some (.ref f)) (N : Fre K mg) (c_is_number : C8.Cal P w K mg base 2 "is_number" (spN K w 1 m_is_number) []) (c_is_tuple : C8.Cal P w K mg base 1 "is_tuple" (spN K w 3 m_is_tuple) []) (c_is_within : C8.Cal P w K mg base 2 "is_within" (spN K w 3 m_is_within) []) : C8.Cal P w K mg base 3 "is_history_row" (spN K w 1 m_is_history_row) [] := by
  refine mkCal F gm sc_is_history_row (F.binds (ps := ["thing"]) fun _ _ _ _ _ _ us hl => match us, hl with | [_], _ => rfl) (fun vs H Q E h => ?_) (fun cdv A outer s H vs Q E hr h => ?_)
  · obtain ⟨_, _, _, hl, _⟩ := h
    exact hl
  · refine ⟨_, (pss_cons (ps_if (pt_not (pt_val (C8.pe_c c_is_tuple hr (by decide) rfl (pa_cons (pv 0) (pa_cons pe_int (pa_cons pe_int pa_nil))))))
 (pss_one (ps_ret pe_bl))
 pss_nil)
 (pss_cons (ps_asg (pv 0) (pg_tup rfl (pgs_cons (pg_name (i := 1) sc_is_history_row.nd rfl (.inl rfl)) (pgs_cons (pg_name (i := 2) sc_is_history_row.nd rfl (.inl rfl)) (pgs_cons (pg_name (i := 3) sc_is_history_row.nd rfl (.inl rfl)) (pgs_cons (pg_name (i := 4) sc_is_history_row.nd rfl (.inl rfl)) (pgs_cons (pg_name (i := 5) sc_is_history_row.nd rfl (.inl rfl)) pgs_nil)))))))
 (pss_cons (ps_if (PW.pt (pw_or (pt_not (pt_val (C8.pe_c c_is_number hr (by decide) rfl (pa_cons (pv 1) pa_nil)))) (pw_or1 (pt_cmpR (show OpR _ _ (rNotInX K) from (dNotInX (hu65 hr))) (pv 2) (pe_tup (pa_cons pe_str (pa_cons pe_str pa_nil))) (by with_unfolding_all rfl)))))
 (pss_one (ps_ret pe_bl))
 pss_nil)
 (pss_cons (ps_set (i := 6) sc_is_history_row.nd rfl (.inl rfl) (pe_ifExp (pt_cmpR (show OpR _ _ (rEqX K) from (dEqX hr.units)) (pv 2) pe_str (nomark _)) pe_int pe_int))
 (pss_cons (ps_if (pt_not (pt_val (C8.pe_c c_is_within hr (by decide) rfl (pa_cons (pv 3) (pa_cons (pv 6) (pa_cons (let ⟨_, h⟩ := N.c_GREATEST_VALUE; pe_glob (v := (.int 999)) rfl h ⟨_, rfl⟩) pa_nil))))))
 (pss_one (ps_ret pe_bl))
 pss_nil)
 (pss_one (ps_ret (pe_and (C8.pe_c c_is_within hr (by decide) rfl (pa_cons (pv 4) (pa_cons pe_int (pa_cons (let ⟨_, h⟩ := N.c_LAST_TIME; pe_glob (v := (.int 1000000)) rfl h ⟨_, rfl⟩) pa_nil)))) (pe_one (C8.pe_c c_is_within hr (by decide) rfl (pa_cons (pv 5) (pa_cons (pe_op (show OpR _ _ (rAddX K) from dAddX) (pv 4) pe_int) (pa_cons (let ⟨_, h⟩ := N.c_LAST_TIME; pe_glob (v := (.int 1000000)) rfl h ⟨_, rfl⟩) pa_nil))))))))))))), ?_⟩
    exact spN_body (b := b_is_history_row) (show RS K w WF _ b_is_history_row from (rs_seq (rs_if (rt_not (rt_val (re_call (ra_cons (re_var (i := 0)) (ra_cons re_int (ra_cons re_int ra_nil))))))
 (rs_ret re_bl)
 rs_next)
 (rs_seq (rs_asg (re_var (i := 0)) (rg_tup (mgs_lenS (mgs_lenS (mgs_lenS (mgs_lenS (mgs_lenS mgs_len0))))) (rgs_cons (rg_name (i := 1) (vs := [1, 2, 3, 4, 5]) (by decide)) (rgs_cons (rg_name (i := 2) (vs := [1, 2, 3, 4, 5]) (by decide)) (rgs_cons (rg_name (i := 3) (vs := [1, 2, 3, 4, 5]) (by decide)) (rgs_cons (rg_name (i := 4) (vs := [1, 2, 3, 4, 5]) (by decide)) (rgs_cons (rg_name (i := 5) (vs := [1, 2, 3, 4, 5]) (by decide)) rgs_nil)))))))
 (rs_seq (rs_if (rt_or (rt_not (rt_val (re_call (ra_cons (re_var (i := 1)) ra_nil)))) (rt_test (re_op r2_notInX (re_var (i := 2)) (re_tup (ra_cons re_str (ra_cons re_str ra_nil))))))
 (rs_ret re_bl)
 rs_next)
 (rs_seq (rs_asg (re_if (rt_test (re_op r2_eqX (re_var (i := 2)) re_str)) re_int re_int) (rg_name (i := 6) (vs := [6]) (by decide)))
 (rs_seq (rs_if (rt_not (rt_val (re_call (ra_cons (re_var (i := 3)) (ra_cons (re_var (i := 6)) (ra_cons re_int ra_nil))))))
 (rs_ret re_bl)
 rs_next)
 (rs_ret (re_and (re_call (ra_cons (re_var (i := 4)) (ra_cons re_int (ra_cons re_int ra_nil)))) (re_call (ra_cons (re_var (i := 5)) (ra_cons (re_op r2_addX (re_var (i := 4)) re_int) (ra_cons re_int ra_nil)))))))))))) h
theorem st_is_history_row (a0 : A) (st : Sto) : m_is_history_row [a0] st = fin (b_is_history_row [some a0, none, none, none, none, none, none] st) := rfl

/-! ### is_history -/
abbrev s_is_history : Stmt := topS 11
theorem sc_is_history : FnScope ["thing", "written", "row"] ["thing"] (defScope s_is_history) := ⟨rfl, rfl, rfl, by decide +kernel, rfl, by decide +kernel, by decide +kernel⟩

noncomputable def b_is_history : MS := (sSeq (sIf (mOrT (mNotT (mTest (mCB oIsi (mCons (mVar 0) (mCons (mC (.ty "list")) mNil))))) (mTest (mOp oGt (mCB oLen (mCons (mVar 0) mNil)) (mC (.int 60)))))
 (sRet (mC (.bl false)))
 sNext)
 (sSeq (sIf (mNotT (mTest (mCB (oAll fun bs => bs.all id) (mCons (mLc (miL (mVar 0)) (mgName 2) mYes (mCall 1 m_is_history_row (mCons (mVar 2) mNil)) [2]) mNil))))
 (sRet (mC (.bl false)))
 sNext)
 (sSeq (sAsg (mLc (miL (mVar 0)) (mgName 2) (mTest (mOp oEqX (mOp oIxD (mVar 2) (mC (.int 1))) (mC (.str "write")))) (mOp oIxD (mVar 2) (mC (.int 2))) [2]) (mgName 1))
 (sSeq (sIf (mOrT (mNotT (mTest (mCall 1 m_are_unlike (mCons (mVar 1) mNil)))) (mNotT (mTest (mCall 1 m_are_unlike (mCons (mLc (miL (mVar 0)) (mgName 2) mYes (mOp oIxD (mVar 2) (mC (.int 0))) [2]) mNil)))))
 (sRet (mC (.bl false)))
 sNext)
 (sRet (mCB (oAll fun bs => bs.all id) (mCons (mLc (miL (mVar 0)) (mgName 2) mYes (mOr (mOp oEqX (mOp oIxD (mVar 2) (mC (.int 2))) (mC (.int 0))) (mOp oInX (mOp oIxD (mVar 2) (mC (.int 2))) (mVar 1))) [2]) mNil)))))))
noncomputable def m_is_history : List A → Sto → Res A := runB 3 b_is_history
theorem ok_is_history {f : Addr} {fd : FuncData} (F : Fun K "is_history" "is_history" s_is_history f fd) (gm : mg "is_history" = some (.ref f)) (N : Fre K mg) (c_are_unlike : C8.Cal P w K mg base 1 "are_unlike" (spN K w 1 m_are_unlike) []) (c_is_history_row : C8.Cal P w K mg base 3 "is_history_row" (spN K w 1 m_is_history_row) []) : C8.Cal P w K mg base 4 "is_history" (spN K w 1 m_is_history) [] := by
  refine mkCal F gm sc_is_history (F.binds (ps := ["thing"]) fun _ _ _ _ _ _ us hl => match us, hl with | [_], _ => rfl) (fun vs H Q E h => ?_) (fun cdv A outer s H vs Q E hr h => ?_)
  · obtain ⟨_, _, _, hl, _⟩ := h
    exact hl
  · refine ⟨_, (pss_cons (ps_if (PW.pt (pw_or (pt_not (pt_val (pe_callB (show CallR _ _ (rIsi K) from call_isi) (by rfl) N.isinstance (by decide +kernel) (pa_cons (pv 0) (pa_cons (pe_bltn (v := .ty "list") (u := .type "list") rfl N.list (by decide +kernel) rfl) pa_nil))))) (pw_or1 (pt_cmpR (show OpR _ _ rGtD from dGt) (pe_callB (show CallR _ _ (rLenAny K) from call_lenAny) (by rfl) N.len (by decide +kernel) (pa_cons (pv 0) pa_nil)) (let ⟨_, h⟩ := N.c_MOST_TASKS; pe_glob (v := (.int 60)) rfl h ⟨_, rfl⟩) (nomark _)))))
 (pss_one (ps_ret pe_bl))
 pss_nil)
 (pss_cons (ps_if (pt_not (pt_val (pe_callB (show CallR _ _ (rAll K) from (cr_all rfl)) (by rfl) N.all (by decide +kernel) (pa_cons (pe_lc (own := [("row", 2)]) (g := gName 2) (tt := tYes) rfl sc_is_history.nd (pi_list (pv 0)) (blkOk_by (N := ["thing", "written", "row"]) (sc := defScope s_is_history) (by decide +kernel)) (fun _ _ _ _ _ => pg_name (i := 2) sc_is_history.nd rfl (Or.inl rfl)) (fun _ _ _ _ _ => pts_nil) (fun _ _ _ _ _ => (C8.pe_c c_is_history_row hr (by decide) rfl (pa_cons (pv 2) pa_nil)))) pa_nil))))
 (pss_one (ps_ret pe_bl))
 pss_nil)
 (pss_cons (ps_set (i := 1) sc_is_history.nd rfl (.inr rfl) (pe_lc (own := [("row", 2)]) (g := gName 2) rfl sc_is_history.nd (pi_list (pv 0)) (blkOk_by (N := ["thing", "written", "row"]) (sc := defScope s_is_history) (by decide +kernel)) (fun _ _ _ _ _ => pg_name (i := 2) sc_is_history.nd rfl (Or.inl rfl)) (fun _ _ _ _ _ => pts_one (pt_cmpR (show OpR _ _ (rEqX K) from (dEqX hr.units)) (pe_ix (show IxR _ (rIxAny K) from dIx) (pv 2) pe_int (fun _ _ => rfl)) pe_str (nomark _))) (fun _ _ _ _ _ => (pe_ix (show IxR _ (rIxAny K) from dIx) (pv 2) pe_int (fun _ _ => rfl)))))
 (pss_cons (ps_if (PW.pt (pw_or (pt_not (pt_val (C8.pe_c c_are_unlike hr (by decide) rfl (pa_cons (pv 1) pa_nil)))) (pw_or1 (pt_not (pt_val (C8.pe_c c_are_unlike hr (by decide) rfl (pa_cons (pe_lc (own := [("row", 2)]) (g := gName 2) (tt := tYes) rfl sc_is_history.nd (pi_list (pv 0)) (blkOk_by (N := ["thing", "written", "row"]) (sc := defScope s_is_history) (by decide +kernel)) (fun _ _ _ _ _ => pg_name (i := 2) sc_is_history.nd rfl (Or.inl rfl)) (fun _ _ _ _ _ => pts_nil) (fun _ _ _ _ _ => (pe_ix (show IxR _ (rIxAny K) from dIx) (pv 2) pe_int (fun _ _ => rfl)))) pa_nil)))))))
 (pss_one (ps_ret pe_bl))
 pss_nil)
 (pss_one (ps_ret (pe_callB (show CallR _ _ (rAll K) from (cr_all rfl)) (by rfl) N.all (by decide +kernel) (pa_cons (pe_lc (own := [("row", 2)]) (g := gName 2) (tt := tYes) rfl sc_is_history.nd (pi_list (pv 0)) (blkOk_by (N := ["thing", "written", "row"]) (sc := defScope s_is_history) (by decide +kernel)) (fun _ _ _ _ _ => pg_name (i := 2) sc_is_history.nd rfl (Or.inl rfl)) (fun _ _ _ _ _ => pts_nil) (fun _ _ _ _ _ => (pe_or (pe_cmpR (show OpR _ _ (rEqX K) from (dEqX hr.units)) (pe_ix (show IxR _ (rIxAny K) from dIx) (pv 2) pe_int (fun _ _ => rfl)) pe_int (nomark _)) (pe_one (pe_cmpR (show OpR _ _ (rInX K) from (dInX (hu65 hr))) (pe_ix (show IxR _ (rIxAny K) from dIx) (pv 2) pe_int (fun _ _ => rfl)) (pv 1) (by with_unfolding_all rfl)))))) pa_nil)))))))), ?_⟩
    exact spN_body (b := b_is_history) (show RS K w WF _ b_is_history from (rs_seq (rs_if (rt_or (rt_not (rt_val (re_cb rl_isi (ra_cons (re_var (i := 0)) (ra_cons (re_c fun _ _ => .ty _) ra_nil))))) (rt_test (re_op r2_gt (re_cb rl_len (ra_cons (re_var (i := 0)) ra_nil)) re_int)))
 (rs_ret re_bl)
 rs_next)
 (rs_seq (rs_if (rt_not (rt_val (re_cb rl_all (ra_cons (re_lc (ri_list (re_var (i := 0))) (rg_name (i := 2) (vs := [2]) (by decide)) rt_yes (re_call (ra_cons (re_var (i := 2)) ra_nil))) ra_nil))))
 (rs_ret re_bl)
 rs_next)
 (rs_seq (rs_asg (re_lc (ri_list (re_var (i := 0))) (rg_name (i := 2) (vs := [2]) (by decide)) (rt_test (re_op r2_eqX (re_op r2_ixD (re_var (i := 2)) re_int) re_str)) (re_op r2_ixD (re_var (i := 2)) re_int)) (rg_name (i := 1) (vs := [1]) (by decide)))
 (rs_seq (rs_if (rt_or (rt_not (rt_val (re_call (ra_cons (re_var (i := 1)) ra_nil)))) (rt_not (rt_val (re_call (ra_cons (re_lc (ri_list (re_var (i := 0))) (rg_name (i := 2) (vs := [2]) (by decide)) rt_yes (re_op r2_ixD (re_var (i := 2)) re_int)) ra_nil)))))
 (rs_ret re_bl)
 rs_next)
 (rs_ret (re_cb rl_all (ra_cons (re_lc (ri_list (re_var (i := 0))) (rg_name (i := 2) (vs := [2]) (by decide)) rt_yes (re_or (re_op r2_eqX (re_op r2_ixD (re_var (i := 2)) re_int) re_int) (re_op r2_inX (re_op r2_ixD (re_var (i := 2)) re_int) (re_var (i := 1))))) ra_nil)))))))) h
theorem st_is_history (a0 : A) (st : Sto) : m_is_history [a0] st = fin (b_is_history [some a0, none, none] st) := rfl

/-! ### _law_whole -/
abbrev s__law_whole : Stmt := topS 15
theorem sc__law_whole : FnScope ["thing"] ["thing"] (defScope s__law_whole) := ⟨rfl, rfl, rfl, by decide +kernel, rfl, by decide +kernel, by decide +kernel⟩

noncomputable def b__law_whole : MS := (sRet (mAnd (mCB oIsi (mCons (mVar 0) (mCons (mC (.ty "int")) mNil))) (mNot (mCB oIsi (mCons (mVar 0) (mCons (mC (.ty "bool")) mNil))))))
noncomputable def m__law_whole : List A → Sto → Res A := runB 1 b__law_whole
theorem ok__law_whole {f : Addr} {fd : FuncData} (F : Fun K "_law_whole" "_law_whole" s__law_whole f fd) (gm : mg "_law_whole" = some (.ref f)) (N : Fre K mg)  : C8.Cal P w K mg base 1 "_law_whole" (spN K w 1 m__law_whole) [] := by
  refine mkCal F gm sc__law_whole (F.binds (ps := ["thing"]) fun _ _ _ _ _ _ us hl => match us, hl with | [_], _ => rfl) (fun vs H Q E h => ?_) (fun cdv A outer s H vs Q E hr h => ?_)
  · obtain ⟨_, _, _, hl, _⟩ := h
    exact hl
  · refine ⟨_, (pss_one (ps_ret (pe_and (pe_callB (show CallR _ _ (rIsi K) from call_isi) (by rfl) N.isinstance (by decide +kernel) (pa_cons (pv 0) (pa_cons (pe_bltn (v := .ty "int") (u := .type "int") rfl N.int (by decide +kernel) rfl) pa_nil))) (pe_one (pe_not (pe_callB (show CallR _ _ (rIsi K) from call_isi) (by rfl) N.isinstance (by decide +kernel) (pa_cons (pv 0) (pa_cons (pe_bltn (v := .ty "bool") (u := .type "bool") rfl N.bool (by decide +kernel) rfl) pa_nil)))))))), ?_⟩
    exact spN_body (b := b__law_whole) (show RS K w WF _ b__law_whole from (rs_ret (re_and (re_cb rl_isi (ra_cons (re_var (i := 0)) (ra_cons (re_c fun _ _ => .ty _) ra_nil))) (re_not (re_cb rl_isi (ra_cons (re_var (i := 0)) (ra_cons (re_c fun _ _ => .ty _) ra_nil))))))) h
theorem st__law_whole (a0 : A) (st : Sto) : m__law_whole [a0] st = fin (b__law_whole [some a0] st) := rfl

/-! ### _law_within -/
abbrev s__law_within : Stmt := topS 16
theorem sc__law_within : FnScope ["thing", "least", "most"] ["thing", "least", "most"] (defScope s__law_within) := ⟨rfl, rfl, rfl, by decide +kernel, rfl, by decide +kernel, by decide +kernel⟩

noncomputable def b__law_within : MS := (sRet (mAnd (mCB oIsi (mCons (mVar 0) (mCons (mC (.ty "int")) mNil))) (mAnd (mNot (mCB oIsi (mCons (mVar 0) (mCons (mC (.ty "bool")) mNil)))) (mChain oLe oLe (mVar 1) (mVar 0) (mVar 2)))))
noncomputable def m__law_within : List A → Sto → Res A := runB 3 b__law_within
theorem ok__law_within {f : Addr} {fd : FuncData} (F : Fun K "_law_within" "_law_within" s__law_within f fd) (gm : mg "_law_within" = some (.ref f)) (N : Fre K mg)  : C8.Cal P w K mg base 1 "_law_within" (spN K w 3 m__law_within) [] := by
  refine mkCal F gm sc__law_within (F.binds (ps := ["thing", "least", "most"]) fun _ _ _ _ _ _ us hl => match us, hl with | [_, _, _], _ => rfl) (fun vs H Q E h => ?_) (fun cdv A outer s H vs Q E hr h => ?_)
  · obtain ⟨_, _, _, hl, _⟩ := h
    exact hl
  · refine ⟨_, (pss_one (ps_ret (pe_and (pe_callB (show CallR _ _ (rIsi K) from call_isi) (by rfl) N.isinstance (by decide +kernel) (pa_cons (pv 0) (pa_cons (pe_bltn (v := .ty "int") (u := .type "int") rfl N.int (by decide +kernel) rfl) pa_nil))) (pe_and (pe_not (pe_callB (show CallR _ _ (rIsi K) from call_isi) (by rfl) N.isinstance (by decide +kernel) (pa_cons (pv 0) (pa_cons (pe_bltn (v := .ty "bool") (u := .type "bool") rfl N.bool (by decide +kernel) rfl) pa_nil)))) (pe_one (pe_chain (show OpR _ _ rLeD from dLe) (show OpR _ _ rLeD from dLe) (pv 1) (pv 0) (pv 2))))))), ?_⟩
    exact spN_body (b := b__law_within) (show RS K w WF _ b__law_within from (rs_ret (re_and (re_cb rl_isi (ra_cons (re_var (i := 0)) (ra_cons (re_c fun _ _ => .ty _) ra_nil))) (re_and (re_not (re_cb rl_isi (ra_cons (re_var (i := 0)) (ra_cons (re_c fun _ _ => .ty _) ra_nil)))) (re_chain r2_le r2_le (re_var (i := 1)) (re_var (i := 0)) (re_var (i := 2))))))) h
theorem st__law_within (a0 a1 a2 : A) (st : Sto) : m__law_within [a0, a1, a2] st = fin (b__law_within [some a0, some a1, some a2] st) := rfl

/-! ### _law_odd -/
abbrev s__law_odd : Stmt := topS 17
theorem sc__law_odd : FnScope ["bag", "some"] ["bag"] (defScope s__law_odd) := ⟨rfl, rfl, rfl, by decide +kernel, rfl, by decide +kernel, by decide +kernel⟩

noncomputable def b__law_odd : MS := (sSeq (sAsg (mLst (mCons (mC .non) (mCons (mC (.bl true)) (mCons (mC (.bl false)) (mCons (mC (.int 0)) (mCons (mC (.int 1)) (mCons (mUn oNegX (mC (.int 1))) (mCons (mC (.int 5)) (mCons (mC (.int 51)) (mCons (mC (.int 100)) (mCons (mC (.int 201)) (mCons (mC (.int 1001)) (mCons (mOp oPow (mC (.int 10)) (mC (.int 30))) (mCons (mC (.str "")) (mCons (mC (.str "a")) (mCons (mC (.str "server")) (mCons (mC (.str "Ann")) (mCons (mC (.str "a b")) mNil)))))))))))))))))) (mgName 1))
 (sSeq (sAsg (mOp oAddX (mVar 1) (mLst (mCons (mC (.str "read")) (mCons (mC (.str "write")) (mCons (mC (.str "abcdefghi")) (mCons (mTup mNil) (mCons (mLst mNil) (mCons (mTup (mCons (mC (.str "a")) (mCons (mC (.int 1)) mNil))) (mCons (mTup (mCons (mTup (mCons (mC (.str "a")) (mCons (mC (.int 1)) mNil))) mNil)) (mCons (mLst (mCons (mC (.str "a")) mNil)) (mCons (mTup (mCons (mC (.str "a")) (mCons (mC (.int 100)) (mCons (mC (.int 0)) mNil)))) (mCons (mLst (mCons (mC (.int 1)) mNil)) (mCons (mTup (mCons (mC .non) mNil)) mNil))))))))))))) (mgName 1))
 (sRet (mOp oIxD (mVar 1) (mCall 2 m__law_take (mCons (mVar 0) (mCons (mCB oLen (mCons (mVar 1) mNil)) mNil)))))))
noncomputable def m__law_odd : List A → Sto → Res A := runB 2 b__law_odd
theorem ok__law_odd {f : Addr} {fd : FuncData} (F : Fun K "_law_odd" "_law_odd" s__law_odd f fd) (gm : mg "_law_odd" = some (.ref f)) (N : Fre K mg) (c__law_take : C8.Cal P w K mg base 1 "_law_take" (spN K w 2 m__law_take) []) : C8.Cal P w K mg base 2 "_law_odd" (spN K w 1 m__law_odd) [] := by
  refine mkCal F gm sc__law_odd (F.binds (ps := ["bag"]) fun _ _ _ _ _ _ us hl => match us, hl with | [_], _ => rfl) (fun vs H Q E h => ?_) (fun cdv A outer s H vs Q E hr h => ?_)
  · obtain ⟨_, _, _, hl, _⟩ := h
    exact hl
  · refine ⟨_, (pss_cons (ps_set (i := 1) sc__law_odd.nd rfl (.inl rfl) (pe_lst (pa_cons pe_non (pa_cons pe_bl (pa_cons pe_bl (pa_cons pe_int (pa_cons pe_int (pa_cons (pe_un un_negX pe_int) (pa_cons pe_int (pa_cons pe_int (pa_cons pe_int (pa_cons pe_int (pa_cons pe_int (pa_cons (pe_op (show OpR _ _ rPowD from dPow) pe_int pe_int) (pa_cons pe_str (pa_cons pe_str (pa_cons pe_str (pa_cons pe_str (pa_cons pe_str pa_nil)))))))))))))))))))
 (pss_cons (ps_set (i := 1) sc__law_odd.nd rfl (.inl rfl) (pe_op (show OpR _ _ (rAddX K) from dAddX) (pv 1) (pe_lst (pa_cons pe_str (pa_cons pe_str (pa_cons pe_str (pa_cons (pe_tup pa_nil) (pa_cons (pe_lst pa_nil) (pa_cons (pe_tup (pa_cons pe_str (pa_cons pe_int pa_nil))) (pa_cons (pe_tup (pa_cons (pe_tup (pa_cons pe_str (pa_cons pe_int pa_nil))) pa_nil)) (pa_cons (pe_lst (pa_cons pe_str pa_nil)) (pa_cons (pe_tup (pa_cons pe_str (pa_cons pe_int (pa_cons pe_int pa_nil)))) (pa_cons (pe_lst (pa_cons pe_int pa_nil)) (pa_cons (pe_tup (pa_cons pe_non pa_nil)) pa_nil))))))))))))))
 (pss_one (ps_ret (pe_ix (show IxR _ (rIxAny K) from dIx) (pv 1) (C8.pe_c c__law_take hr (by decide) rfl (pa_cons (pv 0) (pa_cons (pe_callB (show CallR _ _ (rLenAny K) from call_lenAny) (by rfl) N.len (by decide +kernel) (pa_cons (pv 1) pa_nil)) pa_nil))) (fun _ _ => rfl)))))), ?_⟩
    exact spN_body (b := b__law_odd) (show RS K w WF _ b__law_odd from (rs_seq (rs_asg (re_lst (ra_cons re_non (ra_cons re_bl (ra_cons re_bl (ra_cons re_int (ra_cons re_int (ra_cons (re_un r1_negX re_int) (ra_cons re_int (ra_cons re_int (ra_cons re_int (ra_cons re_int (ra_cons re_int (ra_cons (re_op r2_pow re_int re_int) (ra_cons re_str (ra_cons re_str (ra_cons re_str (ra_cons re_str (ra_cons re_str ra_nil)))))))))))))))))) (rg_name (i := 1) (vs := [1]) (by decide)))
 (rs_seq (rs_asg (re_op r2_addX (re_var (i := 1)) (re_lst (ra_cons re_str (ra_cons re_str (ra_cons re_str (ra_cons (re_tup ra_nil) (ra_cons (re_lst ra_nil) (ra_cons (re_tup (ra_cons re_str (ra_cons re_int ra_nil))) (ra_cons (re_tup (ra_cons (re_tup (ra_cons re_str (ra_cons re_int ra_nil))) ra_nil)) (ra_cons (re_lst (ra_cons re_str ra_nil)) (ra_cons (re_tup (ra_cons re_str (ra_cons re_int (ra_cons re_int ra_nil)))) (ra_cons (re_lst (ra_cons re_int ra_nil)) (ra_cons (re_tup (ra_cons re_non ra_nil)) ra_nil))))))))))))) (rg_name (i := 1) (vs := [1]) (by decide)))
 (rs_ret (re_op r2_ixD (re_var (i := 1)) (re_call (ra_cons (re_var (i := 0)) (ra_cons (re_cb rl_len (ra_cons (re_var (i := 1)) ra_nil)) ra_nil)))))))) h
theorem st__law_odd (a0 : A) (st : Sto) : m__law_odd [a0] st = fin (b__law_odd [some a0, none] st) := rfl

/-! ### _law_spoilt, which calls itself -/
abbrev s__law_spoilt : Stmt := topS 18
theorem sc__law_spoilt : FnScope ["bag", "thing", "way", "rows", "at", "other"] ["bag", "thing"] (defScope s__law_spoilt) := ⟨rfl, rfl, rfl, by decide +kernel, rfl, by decide +kernel, by decide +kernel⟩
noncomputable def b__law_spoilt (self_ : List A → Sto → Res A) : MS := (sSeq (sAsg (mCall 2 m__law_take (mCons (mVar 0) (mCons (mC (.int 9)) mNil))) (mgName 2))
 (sSeq (sIf (mAndT (mTest (mIsiT "tuple" "list" (mVar 1))) (mAndT (mTest (mOp oGt (mCB oLen (mCons (mVar 1) mNil)) (mC (.int 0)))) (mTest (mOp oGt (mVar 2) (mC (.int 0))))))
 (sSeq (sAsg (mCB oList (mCons (mVar 1) mNil)) (mgName 3))
 (sSeq (sAsg (mCall 2 m__law_take (mCons (mVar 0) (mCons (mCB oLen (mCons (mVar 3) mNil)) mNil))) (mgName 4))
 (sSeq (sIf (mTest (mOp oEqX (mVar 2) (mC (.int 1))))
 (sAsg (mOp oAddX (mSl oSl (mVar 3) mNoPart (mPart (mVar 4))) (mSl oSl (mVar 3) (mPart (mOp oAddX (mVar 4) (mC (.int 1)))) mNoPart)) (mgName 3))
 (sIf (mTest (mOp oEqX (mVar 2) (mC (.int 2))))
 (sAsg (mOp oAddX (mSl oSl (mVar 3) mNoPart (mPart (mOp oAddX (mVar 4) (mC (.int 1))))) (mSl oSl (mVar 3) (mPart (mVar 4)) mNoPart)) (mgName 3))
 (sIf (mTest (mOp oEqX (mVar 2) (mC (.int 3))))
 (sSeq (sAsg (mCall 2 m__law_take (mCons (mVar 0) (mCons (mCB oLen (mCons (mVar 3) mNil)) mNil))) (mgName 5))
 (sPut2 (mTup (mCons (mOp oIxD (mVar 3) (mVar 5)) (mCons (mOp oIxD (mVar 3) (mVar 4)) mNil))) (mVar 3) (mVar 4) (mVar 3) (mVar 5)))
 (sIf (mTest (mOp oEqX (mVar 2) (mC (.int 4))))
 (sRet (mIfE (mTest (mCB oIsi (mCons (mVar 1) (mCons (mC (.ty "tuple")) mNil)))) (mVar 3) (mCB oTuple (mCons (mVar 3) mNil))))
 (sPutL (mCall 2 self_ (mCons (mVar 0) (mCons (mOp oIxD (mVar 3) (mVar 4)) mNil))) (mVar 3) (mVar 4))))))
 (sRet (mIfE (mTest (mCB oIsi (mCons (mVar 1) (mCons (mC (.ty "tuple")) mNil)))) (mCB oTuple (mCons (mVar 3) mNil)) (mVar 3))))))
 sNext)
 (sSeq (sIf (mAndT (mTest (mCB oIsi (mCons (mVar 1) (mCons (mC (.ty "str")) mNil)))) (mTest (mOp oGt (mVar 2) (mC (.int 1)))))
 (sRet (mOp oIxD (mLst (mCons (mOp oAddX (mVar 1) (mC (.str "a"))) (mCons (mSl oSl (mVar 1) mNoPart (mPart (mUn oNegX (mC (.int 1))))) (mCons (mOp oAddX (mVar 1) (mC (.str " "))) (mCons (mM0 (fun z => if z.length ≤ 5592405 then some (.str (Txt.upper z)) else none) (mVar 1)) (mCons (mOp oAddX (mVar 1) (mVar 1)) (mCons (mOp oAddX (mC (.str "z")) (mVar 1)) (mCons (mC (.str "")) mNil)))))))) (mOp oSubX (mVar 2) (mC (.int 2)))))
 sNext)
 (sSeq (sIf (mAndT (mTest (mCB oIsi (mCons (mVar 1) (mCons (mC (.ty "int")) mNil)))) (mTest (mOp oGt (mVar 2) (mC (.int 1)))))
 (sRet (mOp oIxD (mLst (mCons (mOp oAddX (mVar 1) (mC (.int 1))) (mCons (mOp oSubX (mVar 1) (mC (.int 1))) (mCons (mUn oNegX (mVar 1)) (mCons (mOp oMulX (mVar 1) (mC (.int 100))) (mCons (mCB oStrX (mCons (mVar 1) mNil)) (mCons (mOp oAddX (mVar 1) (mC (.int 50))) (mCons (mTup (mCons (mVar 1) mNil)) mNil)))))))) (mOp oSubX (mVar 2) (mC (.int 2)))))
 sNext)
 (sRet (mCall 1 m__law_odd (mCons (mVar 0) mNil)))))))
noncomputable def r__law_spoilt : Nat → List A → Sto → Res A
  | 0 => fun _ _ => .no
  | k + 1 => runB 6 (b__law_spoilt (r__law_spoilt k))
noncomputable def m__law_spoilt : List A → Sto → Res A := r__law_spoilt 24
theorem rec__law_spoilt {f : Addr} {fd : FuncData} (F : Fun K "_law_spoilt" "_law_spoilt" s__law_spoilt f fd) (gm : mg "_law_spoilt" = some (.ref f)) (N : Fre K mg) (c__law_odd : C8.Cal P w K mg base 2 "_law_odd" (spN K w 1 m__law_odd) []) (c__law_take : C8.Cal P w K mg base 1 "_law_take" (spN K w 2 m__law_take) []) : ∀ k : Nat, C8.Cal P w K mg base (3 + k) "_law_spoilt" (spN K w 2 (r__law_spoilt k)) []
  | 0 => by
    refine mkCal (k := 2) F gm sc__law_spoilt (F.binds (ps := ["bag", "thing"]) fun _ _ _ _ _ _ us hl => match us, hl with | [_, _], _ => rfl) (fun vs H Q E h => ?_) (fun cdv A outer s H vs Q E hr h => ?_)
    · obtain ⟨_, _, _, hl, _⟩ := h
      exact hl
    · obtain ⟨_, _, _, _, _, _, z⟩ := h
      exact z.elim
  | k + 1 => by
    have c__law_spoilt := rec__law_spoilt F gm N c__law_odd c__law_take k
    refine mkCal (k := 3 + k) F gm sc__law_spoilt (F.binds (ps := ["bag", "thing"]) fun _ _ _ _ _ _ us hl => match us, hl with | [_, _], _ => rfl) (fun vs H Q E h => ?_) (fun cdv A outer s H vs Q E hr h => ?_)
    · obtain ⟨_, _, _, hl, _⟩ := h
      exact hl
    · refine ⟨_, (pss_cons (ps_set (i := 2) sc__law_spoilt.nd rfl (.inl rfl) (C8.pe_c c__law_take hr (by omega) rfl (pa_cons (pv 0) (pa_cons pe_int pa_nil))))
 (pss_cons (ps_if (PW.pt (pw_and (pt_val (pe_callB (show CallR _ _ (rIsiT K) from call_isiT) (by rfl) N.isinstance (by decide +kernel) (pa_cons (pv 1) (pa_cons (pe_tup (pa_cons (pe_bltn (v := .ty "tuple") (u := .type "tuple") rfl N.tuple (by decide +kernel) rfl) (pa_cons (pe_bltn (v := .ty "list") (u := .type "list") rfl N.list (by decide +kernel) rfl) pa_nil))) pa_nil)))) (pw_and (pt_cmpR (show OpR _ _ rGtD from dGt) (pe_callB (show CallR _ _ (rLenAny K) from call_lenAny) (by rfl) N.len (by decide +kernel) (pa_cons (pv 1) pa_nil)) pe_int (nomark _)) (pw_and1 (pt_cmpR (show OpR _ _ rGtD from dGt) (pv 2) pe_int (nomark _))))))
 (pss_cons (ps_set (i := 3) sc__law_spoilt.nd rfl (.inl rfl) (pe_callTy call_list_of (by rfl) N.list (by decide +kernel) (pa_cons (pv 1) pa_nil)))
 (pss_cons (ps_set (i := 4) sc__law_spoilt.nd rfl (.inl rfl) (C8.pe_c c__law_take hr (by omega) rfl (pa_cons (pv 0) (pa_cons (pe_callB (show CallR _ _ (rLenAny K) from call_lenAny) (by rfl) N.len (by decide +kernel) (pa_cons (pv 3) pa_nil)) pa_nil))))
 (pss_cons (ps_if (pt_cmpR (show OpR _ _ (rEqX K) from (dEqX hr.units)) (pv 2) pe_int (nomark _))
 (pss_one (ps_set (i := 3) sc__law_spoilt.nd rfl (.inl rfl) (pe_op (show OpR _ _ (rAddX K) from dAddX) (pe_slice (show SlR _ (rSlAny K) from sl_any) (pv 3) po_none (po_some (pv 4))) (pe_slice (show SlR _ (rSlAny K) from sl_any) (pv 3) (po_some (pe_op (show OpR _ _ (rAddX K) from dAddX) (pv 4) pe_int)) po_none))))
 (pss_one (ps_if (pt_cmpR (show OpR _ _ (rEqX K) from (dEqX hr.units)) (pv 2) pe_int (nomark _))
 (pss_one (ps_set (i := 3) sc__law_spoilt.nd rfl (.inl rfl) (pe_op (show OpR _ _ (rAddX K) from dAddX) (pe_slice (show SlR _ (rSlAny K) from sl_any) (pv 3) po_none (po_some (pe_op (show OpR _ _ (rAddX K) from dAddX) (pv 4) pe_int))) (pe_slice (show SlR _ (rSlAny K) from sl_any) (pv 3) (po_some (pv 4)) po_none))))
 (pss_one (ps_if (pt_cmpR (show OpR _ _ (rEqX K) from (dEqX hr.units)) (pv 2) pe_int (nomark _))
 (pss_cons (ps_set (i := 5) sc__law_spoilt.nd rfl (.inl rfl) (C8.pe_c c__law_take hr (by omega) rfl (pa_cons (pv 0) (pa_cons (pe_callB (show CallR _ _ (rLenAny K) from call_lenAny) (by rfl) N.len (by decide +kernel) (pa_cons (pv 3) pa_nil)) pa_nil))))
 (pss_one (ps_asg (pe_tup (pa_cons (pe_ix (show IxR _ (rIxAny K) from dIx) (pv 3) (pv 5) (fun _ _ => rfl)) (pa_cons (pe_ix (show IxR _ (rIxAny K) from dIx) (pv 3) (pv 4) (fun _ _ => rfl)) pa_nil))) (pg_tup rfl (pgs_cons (pg_sub (pv 3) (pv 4) set_list) (pgs_cons (pg_sub (pv 3) (pv 5) set_list) pgs_nil))))))
 (pss_one (ps_if (pt_cmpR (show OpR _ _ (rEqX K) from (dEqX hr.units)) (pv 2) pe_int (nomark _))
 (pss_one (ps_ret (pe_ifExp (pt_val (pe_callB (show CallR _ _ (rIsi K) from call_isi) (by rfl) N.isinstance (by decide +kernel) (pa_cons (pv 1) (pa_cons (pe_bltn (v := .ty "tuple") (u := .type "tuple") rfl N.tuple (by decide +kernel) rfl) pa_nil)))) (pv 3) (pe_callTy call_tuple_of (by rfl) N.tuple (by decide +kernel) (pa_cons (pv 3) pa_nil)))))
 (pss_one (ps_asg (C8.pe_c c__law_spoilt hr (Nat.le_refl _) rfl (pa_cons (pv 0) (pa_cons (pe_ix (show IxR _ (rIxAny K) from dIx) (pv 3) (pv 4) (fun _ _ => rfl)) pa_nil))) (pg_sub (pv 3) (pv 4) set_list))))))))))
 (pss_one (ps_ret (pe_ifExp (pt_val (pe_callB (show CallR _ _ (rIsi K) from call_isi) (by rfl) N.isinstance (by decide +kernel) (pa_cons (pv 1) (pa_cons (pe_bltn (v := .ty "tuple") (u := .type "tuple") rfl N.tuple (by decide +kernel) rfl) pa_nil)))) (pe_callTy call_tuple_of (by rfl) N.tuple (by decide +kernel) (pa_cons (pv 3) pa_nil)) (pv 3)))))))
 pss_nil)
 (pss_cons (ps_if (PW.pt (pw_and (pt_val (pe_callB (show CallR _ _ (rIsi K) from call_isi) (by rfl) N.isinstance (by decide +kernel) (pa_cons (pv 1) (pa_cons (pe_bltn (v := .ty "str") (u := .type "str") rfl N.str (by decide +kernel) rfl) pa_nil)))) (pw_and1 (pt_cmpR (show OpR _ _ rGtD from dGt) (pv 2) pe_int (nomark _)))))
 (pss_one (ps_ret (pe_ix (show IxR _ (rIxAny K) from dIx) (pe_lst (pa_cons (pe_op (show OpR _ _ (rAddX K) from dAddX) (pv 1) pe_str) (pa_cons (pe_slice (show SlR _ (rSlAny K) from sl_any) (pv 1) po_none (po_some (pe_un un_negX pe_int))) (pa_cons (pe_op (show OpR _ _ (rAddX K) from dAddX) (pv 1) pe_str) (pa_cons (pe_upper (pv 1)) (pa_cons (pe_op (show OpR _ _ (rAddX K) from dAddX) (pv 1) (pv 1)) (pa_cons (pe_op (show OpR _ _ (rAddX K) from dAddX) pe_str (pv 1)) (pa_cons pe_str pa_nil)))))))) (pe_op (show OpR _ _ rSubX from dSubX) (pv 2) pe_int) (fun _ _ => rfl))))
 pss_nil)
 (pss_cons (ps_if (PW.pt (pw_and (pt_val (pe_callB (show CallR _ _ (rIsi K) from call_isi) (by rfl) N.isinstance (by decide +kernel) (pa_cons (pv 1) (pa_cons (pe_bltn (v := .ty "int") (u := .type "int") rfl N.int (by decide +kernel) rfl) pa_nil)))) (pw_and1 (pt_cmpR (show OpR _ _ rGtD from dGt) (pv 2) pe_int (nomark _)))))
 (pss_one (ps_ret (pe_ix (show IxR _ (rIxAny K) from dIx) (pe_lst (pa_cons (pe_op (show OpR _ _ (rAddX K) from dAddX) (pv 1) pe_int) (pa_cons (pe_op (show OpR _ _ rSubX from dSubX) (pv 1) pe_int) (pa_cons (pe_un un_negX (pv 1)) (pa_cons (pe_op (show OpR _ _ rMulX from dMulX) (pv 1) pe_int) (pa_cons (pe_callTy (show CallR _ _ rStrX from call_strX) (by rfl) N.str (by decide +kernel) (pa_cons (pv 1) pa_nil)) (pa_cons (pe_op (show OpR _ _ (rAddX K) from dAddX) (pv 1) pe_int) (pa_cons (pe_tup (pa_cons (pv 1) pa_nil)) pa_nil)))))))) (pe_op (show OpR _ _ rSubX from dSubX) (pv 2) pe_int) (fun _ _ => rfl))))
 pss_nil)
 (pss_one (ps_ret (C8.pe_c c__law_odd hr (by omega) rfl (pa_cons (pv 0) pa_nil)))))))), ?_⟩
      exact spN_body (b := b__law_spoilt (r__law_spoilt k)) (show RS K w WF _ (b__law_spoilt (r__law_spoilt k)) from (rs_seq (rs_asg (re_call (ra_cons (re_var (i := 0)) (ra_cons re_int ra_nil))) (rg_name (i := 2) (vs := [2]) (by decide)))
 (rs_seq (rs_if (rt_and (rt_val (re_isiT (re_var (i := 1)))) (rt_and (rt_test (re_op r2_gt (re_cb rl_len (ra_cons (re_var (i := 1)) ra_nil)) re_int)) (rt_test (re_op r2_gt (re_var (i := 2)) re_int))))
 (rs_seq (rs_asg (re_cb rl_list (ra_cons (re_var (i := 1)) ra_nil)) (rg_name (i := 3) (vs := [3]) (by decide)))
 (rs_seq (rs_asg (re_call (ra_cons (re_var (i := 0)) (ra_cons (re_cb rl_len (ra_cons (re_var (i := 3)) ra_nil)) ra_nil))) (rg_name (i := 4) (vs := [4]) (by decide)))
 (rs_seq (rs_if (rt_test (re_op r2_eqX (re_var (i := 2)) re_int))
 (rs_asg (re_op r2_addX (re_sl rsl_any (re_var (i := 3)) ro_none (ro_some (re_var (i := 4)))) (re_sl rsl_any (re_var (i := 3)) (ro_some (re_op r2_addX (re_var (i := 4)) re_int)) ro_none)) (rg_name (i := 3) (vs := [3]) (by decide)))
 (rs_if (rt_test (re_op r2_eqX (re_var (i := 2)) re_int))
 (rs_asg (re_op r2_addX (re_sl rsl_any (re_var (i := 3)) ro_none (ro_some (re_op r2_addX (re_var (i := 4)) re_int))) (re_sl rsl_any (re_var (i := 3)) (ro_some (re_var (i := 4))) ro_none)) (rg_name (i := 3) (vs := [3]) (by decide)))
 (rs_if (rt_test (re_op r2_eqX (re_var (i := 2)) re_int))
 (rs_seq (rs_asg (re_call (ra_cons (re_var (i := 0)) (ra_cons (re_cb rl_len (ra_cons (re_var (i := 3)) ra_nil)) ra_nil))) (rg_name (i := 5) (vs := [5]) (by decide)))
 (rs_put2 (re_tup (ra_cons (re_op r2_ixD (re_var (i := 3)) (re_var (i := 5))) (ra_cons (re_op r2_ixD (re_var (i := 3)) (re_var (i := 4))) ra_nil))) (re_var (i := 3)) (re_var (i := 4)) (re_var (i := 3)) (re_var (i := 5))))
 (rs_if (rt_test (re_op r2_eqX (re_var (i := 2)) re_int))
 (rs_ret (re_if (rt_val (re_cb rl_isi (ra_cons (re_var (i := 1)) (ra_cons (re_c fun _ _ => .ty _) ra_nil)))) (re_var (i := 3)) (re_cb rl_tuple (ra_cons (re_var (i := 3)) ra_nil))))
 (rs_putL (re_call (ra_cons (re_var (i := 0)) (ra_cons (re_op r2_ixD (re_var (i := 3)) (re_var (i := 4))) ra_nil))) (re_var (i := 3)) (re_var (i := 4)))))))
 (rs_ret (re_if (rt_val (re_cb rl_isi (ra_cons (re_var (i := 1)) (ra_cons (re_c fun _ _ => .ty _) ra_nil)))) (re_cb rl_tuple (ra_cons (re_var (i := 3)) ra_nil)) (re_var (i := 3)))))))
 rs_next)
 (rs_seq (rs_if (rt_and (rt_val (re_cb rl_isi (ra_cons (re_var (i := 1)) (ra_cons (re_c fun _ _ => .ty _) ra_nil)))) (rt_test (re_op r2_gt (re_var (i := 2)) re_int)))
 (rs_ret (re_op r2_ixD (re_lst (ra_cons (re_op r2_addX (re_var (i := 1)) re_str) (ra_cons (re_sl rsl_any (re_var (i := 1)) ro_none (ro_some (re_un r1_negX re_int))) (ra_cons (re_op r2_addX (re_var (i := 1)) re_str) (ra_cons (re_upper (re_var (i := 1))) (ra_cons (re_op r2_addX (re_var (i := 1)) (re_var (i := 1))) (ra_cons (re_op r2_addX re_str (re_var (i := 1))) (ra_cons re_str ra_nil)))))))) (re_op r2_subX (re_var (i := 2)) re_int)))
 rs_next)
 (rs_seq (rs_if (rt_and (rt_val (re_cb rl_isi (ra_cons (re_var (i := 1)) (ra_cons (re_c fun _ _ => .ty _) ra_nil)))) (rt_test (re_op r2_gt (re_var (i := 2)) re_int)))
 (rs_ret (re_op r2_ixD (re_lst (ra_cons (re_op r2_addX (re_var (i := 1)) re_int) (ra_cons (re_op r2_subX (re_var (i := 1)) re_int) (ra_cons (re_un r1_negX (re_var (i := 1))) (ra_cons (re_op r2_mulX (re_var (i := 1)) re_int) (ra_cons (re_cb rl_strX (ra_cons (re_var (i := 1)) ra_nil)) (ra_cons (re_op r2_addX (re_var (i := 1)) re_int) (ra_cons (re_tup (ra_cons (re_var (i := 1)) ra_nil)) ra_nil)))))))) (re_op r2_subX (re_var (i := 2)) re_int)))
 rs_next)
 (rs_ret (re_call (ra_cons (re_var (i := 0)) ra_nil)))))))) h
theorem ok__law_spoilt {f : Addr} {fd : FuncData} (F : Fun K "_law_spoilt" "_law_spoilt" s__law_spoilt f fd) (gm : mg "_law_spoilt" = some (.ref f)) (N : Fre K mg) (c__law_odd : C8.Cal P w K mg base 2 "_law_odd" (spN K w 1 m__law_odd) []) (c__law_take : C8.Cal P w K mg base 1 "_law_take" (spN K w 2 m__law_take) []) : C8.Cal P w K mg base 27 "_law_spoilt" (spN K w 2 m__law_spoilt) [] := rec__law_spoilt F gm N c__law_odd c__law_take 24
theorem st__law_spoilt (k : Nat) (a0 a1 : A) (st : Sto) : r__law_spoilt (k + 1) [a0, a1] st = fin (b__law_spoilt (r__law_spoilt k) [some a0, some a1, none, none, none, none] st) := rfl

/-! ### _law_is_history -/
abbrev s__law_is_history : Stmt := topS 19
theorem sc__law_is_history : FnScope ["thing", "row", "written", "tasks"] ["thing"] (defScope s__law_is_history) := ⟨rfl, rfl, rfl, by decide +kernel, rfl, by decide +kernel, by decide +kernel⟩
noncomputable def lb__law_is_history_1 : MS := (sSeq (sIf (mOrT (mNotT (mTest (mCB oIsi (mCons (mVar 1) (mCons (mC (.ty "tuple")) mNil))))) (mOrT (mTest (mOp oNeX (mCB oLen (mCons (mVar 1) mNil)) (mC (.int 5)))) (mOrT (mNotT (mTest (mCall 1 m__law_whole (mCons (mOp oIxD (mVar 1) (mC (.int 0))) mNil)))) (mTest (mOp oLt (mOp oIxD (mVar 1) (mC (.int 0))) (mC (.int 0)))))))
 (sRet (mC (.bl false)))
 sNext)
 (sSeq (sIf (mOrT (mNotT (mTest (mCB oIsi (mCons (mOp oIxD (mVar 1) (mC (.int 1))) (mCons (mC (.ty "str")) mNil))))) (mOrT (mTest (mOp oNotInX (mOp oIxD (mVar 1) (mC (.int 1))) (mLst (mCons (mC (.str "read")) (mCons (mC (.str "write")) mNil))))) (mNotT (mTest (mCall 3 m__law_within (mCons (mOp oIxD (mVar 1) (mC (.int 2))) (mCons (mC (.int 0)) (mCons (mC (.int 999)) mNil))))))))
 (sRet (mC (.bl false)))
 sNext)
 (sSeq (sIf (mOrT (mNotT (mTest (mCall 3 m__law_within (mCons (mOp oIxD (mVar 1) (mC (.int 3))) (mCons (mC (.int 0)) (mCons (mOp oPow (mC (.int 10)) (mC (.int 6))) mNil)))))) (mNotT (mTest (mCall 3 m__law_within (mCons (mOp oIxD (mVar 1) (mC (.int 4))) (mCons (mOp oAddX (mOp oIxD (mVar 1) (mC (.int 3))) (mC (.int 1))) (mCons (mOp oPow (mC (.int 10)) (mC (.int 6))) mNil)))))))
 (sRet (mC (.bl false)))
 sNext)
 (sIf (mAndT (mTest (mOp oEqX (mOp oIxD (mVar 1) (mC (.int 1))) (mC (.str "write")))) (mTest (mOp oEqX (mOp oIxD (mVar 1) (mC (.int 2))) (mC (.int 0)))))
 (sRet (mC (.bl false)))
 sNext))))
noncomputable def b__law_is_history : MS := (sSeq (sIf (mOrT (mNotT (mTest (mCB oIsi (mCons (mVar 0) (mCons (mC (.ty "list")) mNil))))) (mTest (mOp oGt (mCB oLen (mCons (mVar 0) mNil)) (mC (.int 60)))))
 (sRet (mC (.bl false)))
 sNext)
 (sSeq (sFor (miL (mVar 0)) (mgName 1)
 lb__law_is_history_1)
 (sSeq (sAsg (mLc (miL (mVar 0)) (mgName 1) (mTest (mOp oEqX (mOp oIxD (mVar 1) (mC (.int 1))) (mC (.str "write")))) (mOp oIxD (mVar 1) (mC (.int 2))) [1]) (mgName 2))
 (sSeq (sAsg (mLc (miL (mVar 0)) (mgName 1) mYes (mOp oIxD (mVar 1) (mC (.int 0))) [1]) (mgName 3))
 (sSeq (sIf (mOrT (mTest (mOp oNeX (mLenSet (mVar 2)) (mCB oLen (mCons (mVar 2) mNil)))) (mTest (mOp oNeX (mLenSet (mVar 3)) (mCB oLen (mCons (mVar 0) mNil)))))
 (sRet (mC (.bl false)))
 sNext)
 (sRet (mOp oEqX (mLc (miL (mVar 0)) (mgName 1) (mAndT (mTest (mOp oNeX (mOp oIxD (mVar 1) (mC (.int 2))) (mC (.int 0)))) (mTest (mOp oNotInX (mOp oIxD (mVar 1) (mC (.int 2))) (mVar 2)))) (mVar 1) [1]) (mLst mNil))))))))
noncomputable def m__law_is_history : List A → Sto → Res A := runB 4 b__law_is_history
theorem ok__law_is_history {f : Addr} {fd : FuncData} (F : Fun K "_law_is_history" "_law_is_history" s__law_is_history f fd) (gm : mg "_law_is_history" = some (.ref f)) (N : Fre K mg) (c__law_whole : C8.Cal P w K mg base 1 "_law_whole" (spN K w 1 m__law_whole) []) (c__law_within : C8.Cal P w K mg base 1 "_law_within" (spN K w 3 m__law_within) []) : C8.Cal P w K mg base 2 "_law_is_history" (spN K w 1 m__law_is_history) [] := by
  refine mkCal F gm sc__law_is_history (F.binds (ps := ["thing"]) fun _ _ _ _ _ _ us hl => match us, hl with | [_], _ => rfl) (fun vs H Q E h => ?_) (fun cdv A outer s H vs Q E hr h => ?_)
  · obtain ⟨_, _, _, hl, _⟩ := h
    exact hl
  · refine ⟨_, (pss_cons (ps_if (PW.pt (pw_or (pt_not (pt_val (pe_callB (show CallR _ _ (rIsi K) from call_isi) (by rfl) N.isinstance (by decide +kernel) (pa_cons (pv 0) (pa_cons (pe_bltn (v := .ty "list") (u := .type "list") rfl N.list (by decide +kernel) rfl) pa_nil))))) (pw_or1 (pt_cmpR (show OpR _ _ rGtD from dGt) (pe_callB (show CallR _ _ (rLenAny K) from call_lenAny) (by rfl) N.len (by decide +kernel) (pa_cons (pv 0) pa_nil)) pe_int (nomark _)))))
 (pss_one (ps_ret pe_bl))
 pss_nil)
 (pss_cons (ps_for PassesOwn.never rfl (pi_list (pv 0)) (pg_name (i := 1) sc__law_is_history.nd rfl (.inl rfl))
 (pss_cons (ps_if (PW.pt (pw_or (pt_not (pt_val (pe_callB (show CallR _ _ (rIsi K) from call_isi) (by rfl) N.isinstance (by decide +kernel) (pa_cons (pv 1) (pa_cons (pe_bltn (v := .ty "tuple") (u := .type "tuple") rfl N.tuple (by decide +kernel) rfl) pa_nil))))) (pw_or (pt_cmpR (show OpR _ _ (rNeX K) from (dNeX hr.units)) (pe_callB (show CallR _ _ (rLenAny K) from call_lenAny) (by rfl) N.len (by decide +kernel) (pa_cons (pv 1) pa_nil)) pe_int (nomark _)) (pw_or (pt_not (pt_val (C8.pe_c c__law_whole hr (by decide) rfl (pa_cons (pe_ix (show IxR _ (rIxAny K) from dIx) (pv 1) pe_int (fun _ _ => rfl)) pa_nil)))) (pw_or1 (pt_cmpR (show OpR _ _ rLtD from dLt) (pe_ix (show IxR _ (rIxAny K) from dIx) (pv 1) pe_int (fun _ _ => rfl)) pe_int (nomark _)))))))
 (pss_one (ps_ret pe_bl))
 pss_nil)
 (pss_cons (ps_if (PW.pt (pw_or (pt_not (pt_val (pe_callB (show CallR _ _ (rIsi K) from call_isi) (by rfl) N.isinstance (by decide +kernel) (pa_cons (pe_ix (show IxR _ (rIxAny K) from dIx) (pv 1) pe_int (fun _ _ => rfl)) (pa_cons (pe_bltn (v := .ty "str") (u := .type "str") rfl N.str (by decide +kernel) rfl) pa_nil))))) (pw_or (pt_cmpR (show OpR _ _ (rNotInX K) from (dNotInX (hu65 hr))) (pe_ix (show IxR _ (rIxAny K) from dIx) (pv 1) pe_int (fun _ _ => rfl)) (pe_lst (pa_cons pe_str (pa_cons pe_str pa_nil))) (by with_unfolding_all rfl)) (pw_or1 (pt_not (pt_val (C8.pe_c c__law_within hr (by decide) rfl (pa_cons (pe_ix (show IxR _ (rIxAny K) from dIx) (pv 1) pe_int (fun _ _ => rfl)) (pa_cons pe_int (pa_cons pe_int pa_nil))))))))))
 (pss_one (ps_ret pe_bl))
 pss_nil)
 (pss_cons (ps_if (PW.pt (pw_or (pt_not (pt_val (C8.pe_c c__law_within hr (by decide) rfl (pa_cons (pe_ix (show IxR _ (rIxAny K) from dIx) (pv 1) pe_int (fun _ _ => rfl)) (pa_cons pe_int (pa_cons (pe_op (show OpR _ _ rPowD from dPow) pe_int pe_int) pa_nil)))))) (pw_or1 (pt_not (pt_val (C8.pe_c c__law_within hr (by decide) rfl (pa_cons (pe_ix (show IxR _ (rIxAny K) from dIx) (pv 1) pe_int (fun _ _ => rfl)) (pa_cons (pe_op (show OpR _ _ (rAddX K) from dAddX) (pe_ix (show IxR _ (rIxAny K) from dIx) (pv 1) pe_int (fun _ _ => rfl)) pe_int) (pa_cons (pe_op (show OpR _ _ rPowD from dPow) pe_int pe_int) pa_nil)))))))))
 (pss_one (ps_ret pe_bl))
 pss_nil)
 (pss_one (ps_if (PW.pt (pw_and (pt_cmpR (show OpR _ _ (rEqX K) from (dEqX hr.units)) (pe_ix (show IxR _ (rIxAny K) from dIx) (pv 1) pe_int (fun _ _ => rfl)) pe_str (nomark _)) (pw_and1 (pt_cmpR (show OpR _ _ (rEqX K) from (dEqX hr.units)) (pe_ix (show IxR _ (rIxAny K) from dIx) (pv 1) pe_int (fun _ _ => rfl)) pe_int (nomark _)))))
 (pss_one (ps_ret pe_bl))
 pss_nil))))))
 (pss_cons (ps_set (i := 2) sc__law_is_history.nd rfl (.inr rfl) (pe_lc (own := [("row", 1)]) (g := gName 1) rfl sc__law_is_history.nd (pi_list (pv 0)) (blkOk_by (N := ["thing", "row", "written", "tasks"]) (sc := defScope s__law_is_history) (by decide +kernel)) (fun _ _ _ _ _ => pg_name (i := 1) sc__law_is_history.nd rfl (Or.inl rfl)) (fun _ _ _ _ _ => pts_one (pt_cmpR (show OpR _ _ (rEqX K) from (dEqX hr.units)) (pe_ix (show IxR _ (rIxAny K) from dIx) (pv 1) pe_int (fun _ _ => rfl)) pe_str (nomark _))) (fun _ _ _ _ _ => (pe_ix (show IxR _ (rIxAny K) from dIx) (pv 1) pe_int (fun _ _ => rfl)))))
 (pss_cons (ps_setLc (i := 3) (own := [("row", 1)]) (g := gName 1) (tt := tYes) rfl sc__law_is_history.nd rfl rfl (sw_true rfl rfl rfl (by decide +kernel)) (pi_list (pv 0)) (blkOk_by (N := ["thing", "row", "written", "tasks"]) (sc := defScope s__law_is_history) (by decide +kernel)) (fun _ _ _ _ _ => pg_name (i := 1) sc__law_is_history.nd rfl (Or.inl rfl)) (fun _ _ _ _ _ => pts_nil) (fun _ _ _ _ _ => (pe_ix (show IxR _ (rIxAny K) from dIx) (pv 1) pe_int (fun _ _ => rfl))))
 (pss_cons (ps_if (PW.pt (pw_or (pt_cmpR (show OpR _ _ (rNeX K) from (dNeX hr.units)) (pe_lenSet rfl (by rfl) N.len (by rfl) N.set (pv 2)) (pe_callB (show CallR _ _ (rLenAny K) from call_lenAny) (by rfl) N.len (by decide +kernel) (pa_cons (pv 2) pa_nil)) (nomark _)) (pw_or1 (pt_cmpR (show OpR _ _ (rNeX K) from (dNeX hr.units)) (pe_lenSet rfl (by rfl) N.len (by rfl) N.set (pv 3)) (pe_callB (show CallR _ _ (rLenAny K) from call_lenAny) (by rfl) N.len (by decide +kernel) (pa_cons (pv 0) pa_nil)) (nomark _)))))
 (pss_one (ps_ret pe_bl))
 pss_nil)
 (pss_one (ps_ret (pe_cmpR (show OpR _ _ (rEqX K) from (dEqX hr.units)) (pe_lc (own := [("row", 1)]) (g := gName 1) rfl sc__law_is_history.nd (pi_list (pv 0)) (blkOk_by (N := ["thing", "row", "written", "tasks"]) (sc := defScope s__law_is_history) (by decide +kernel)) (fun _ _ _ _ _ => pg_name (i := 1) sc__law_is_history.nd rfl (Or.inl rfl)) (fun _ _ _ _ _ => pts_one (PW.pt (pw_and (pt_cmpR (show OpR _ _ (rNeX K) from (dNeX hr.units)) (pe_ix (show IxR _ (rIxAny K) from dIx) (pv 1) pe_int (fun _ _ => rfl)) pe_int (nomark _)) (pw_and1 (pt_cmpR (show OpR _ _ (rNotInX K) from (dNotInX (hu65 hr))) (pe_ix (show IxR _ (rIxAny K) from dIx) (pv 1) pe_int (fun _ _ => rfl)) (pv 2) (by with_unfolding_all rfl)))))) (fun _ _ _ _ _ => (pv 1))) (pe_lst pa_nil) (nomark _))))))))), ?_⟩
    exact spN_body (b := b__law_is_history) (show RS K w WF _ b__law_is_history from (rs_seq (rs_if (rt_or (rt_not (rt_val (re_cb rl_isi (ra_cons (re_var (i := 0)) (ra_cons (re_c fun _ _ => .ty _) ra_nil))))) (rt_test (re_op r2_gt (re_cb rl_len (ra_cons (re_var (i := 0)) ra_nil)) re_int)))
 (rs_ret re_bl)
 rs_next)
 (rs_seq (rs_for (ri_list (re_var (i := 0))) (rg_name (i := 1) (vs := [1]) (by decide))
 (rs_seq (rs_if (rt_or (rt_not (rt_val (re_cb rl_isi (ra_cons (re_var (i := 1)) (ra_cons (re_c fun _ _ => .ty _) ra_nil))))) (rt_or (rt_test (re_op r2_neX (re_cb rl_len (ra_cons (re_var (i := 1)) ra_nil)) re_int)) (rt_or (rt_not (rt_val (re_call (ra_cons (re_op r2_ixD (re_var (i := 1)) re_int) ra_nil)))) (rt_test (re_op r2_lt (re_op r2_ixD (re_var (i := 1)) re_int) re_int)))))
 (rs_ret re_bl)
 rs_next)
 (rs_seq (rs_if (rt_or (rt_not (rt_val (re_cb rl_isi (ra_cons (re_op r2_ixD (re_var (i := 1)) re_int) (ra_cons (re_c fun _ _ => .ty _) ra_nil))))) (rt_or (rt_test (re_op r2_notInX (re_op r2_ixD (re_var (i := 1)) re_int) (re_lst (ra_cons re_str (ra_cons re_str ra_nil))))) (rt_not (rt_val (re_call (ra_cons (re_op r2_ixD (re_var (i := 1)) re_int) (ra_cons re_int (ra_cons re_int ra_nil))))))))
 (rs_ret re_bl)
 rs_next)
 (rs_seq (rs_if (rt_or (rt_not (rt_val (re_call (ra_cons (re_op r2_ixD (re_var (i := 1)) re_int) (ra_cons re_int (ra_cons (re_op r2_pow re_int re_int) ra_nil)))))) (rt_not (rt_val (re_call (ra_cons (re_op r2_ixD (re_var (i := 1)) re_int) (ra_cons (re_op r2_addX (re_op r2_ixD (re_var (i := 1)) re_int) re_int) (ra_cons (re_op r2_pow re_int re_int) ra_nil)))))))
 (rs_ret re_bl)
 rs_next)
 (rs_if (rt_and (rt_test (re_op r2_eqX (re_op r2_ixD (re_var (i := 1)) re_int) re_str)) (rt_test (re_op r2_eqX (re_op r2_ixD (re_var (i := 1)) re_int) re_int)))
 (rs_ret re_bl)
 rs_next)))))
 (rs_seq (rs_asg (re_lc (ri_list (re_var (i := 0))) (rg_name (i := 1) (vs := [1]) (by decide)) (rt_test (re_op r2_eqX (re_op r2_ixD (re_var (i := 1)) re_int) re_str)) (re_op r2_ixD (re_var (i := 1)) re_int)) (rg_name (i := 2) (vs := [2]) (by decide)))
 (rs_seq (rs_asg (re_lc (ri_list (re_var (i := 0))) (rg_name (i := 1) (vs := [1]) (by decide)) rt_yes (re_op r2_ixD (re_var (i := 1)) re_int)) (rg_name (i := 3) (vs := [3]) (by decide)))
 (rs_seq (rs_if (rt_or (rt_test (re_op r2_neX (re_lenSet (re_var (i := 2))) (re_cb rl_len (ra_cons (re_var (i := 2)) ra_nil)))) (rt_test (re_op r2_neX (re_lenSet (re_var (i := 3))) (re_cb rl_len (ra_cons (re_var (i := 0)) ra_nil)))))
 (rs_ret re_bl)
 rs_next)
 (rs_ret (re_op r2_eqX (re_lc (ri_list (re_var (i := 0))) (rg_name (i := 1) (vs := [1]) (by decide)) (rt_and (rt_test (re_op r2_neX (re_op r2_ixD (re_var (i := 1)) re_int) re_int)) (rt_test (re_op r2_notInX (re_op r2_ixD (re_var (i := 1)) re_int) (re_var (i := 2))))) (re_var (i := 1))) (re_lst ra_nil))))))))) h
theorem st__law_is_history (a0 : A) (st : Sto) : m__law_is_history [a0] st = fin (b__law_is_history [some a0, none, none, none] st) := rfl

/-! ### _law_history -/
abbrev s__law_history : Stmt := topS 20
theorem sc__law_history : FnScope ["bag", "most", "many", "loose", "wild", "values", "rows", "numbers", "turn", "time", "start", "end", "number", "value", "left"] ["bag", "most"] (defScope s__law_history) := ⟨rfl, rfl, rfl, by decide +kernel, rfl, by decide +kernel, by decide +kernel⟩
noncomputable def lb__law_history_1 : MS := (sDrop (mMeth oAppend (mVar 6) (mCons (mMeth oPopAt (mVar 14) (mCons (mCall 2 m__law_take (mCons (mVar 0) (mCons (mCB oLen (mCons (mVar 14) mNil)) mNil))) mNil)) mNil)))
noncomputable def lb__law_history_2 : MS := (sSeq (sAsg (mOp oAddX (mOp oMulX (mC (.int 10)) (mVar 8)) (mC (.int 1))) (mgName 9))
 (sSeq (sAsg (mCB oMax2 (mCons (mC (.int 0)) (mCons (mOp oSubX (mVar 9) (mCall 2 m__law_take (mCons (mVar 0) (mCons (mOp oMulX (mC (.int 10)) (mVar 3)) mNil)))) mNil))) (mgName 10))
 (sSeq (sAsg (mOp oAddX (mOp oAddX (mVar 9) (mC (.int 1))) (mCall 2 m__law_take (mCons (mVar 0) (mCons (mOp oMulX (mC (.int 10)) (mVar 3)) mNil)))) (mgName 11))
 (sSeq (sAsg (mMeth oPopAt (mVar 7) (mCons (mCall 2 m__law_take (mCons (mVar 0) (mCons (mCB oLen (mCons (mVar 7) mNil)) mNil))) mNil)) (mgName 12))
 (sIf (mTest (mOp oEqX (mCall 2 m__law_take (mCons (mVar 0) (mCons (mC (.int 2)) mNil))) (mC (.int 0))))
 (sSeq (sDrop (mMeth oAppend (mVar 5) (mCons (mOp oAddX (mC (.int 1)) (mOp oMod (mOp oAddX (mOp oMulX (mVar 8) (mC (.int 100))) (mC (.int 11))) (mC (.int 999)))) mNil)))
 (sDrop (mMeth oAppend (mVar 6) (mCons (mTup (mCons (mVar 12) (mCons (mC (.str "write")) (mCons (mOp oIxD (mVar 5) (mUn oNegX (mC (.int 1)))) (mCons (mVar 10) (mCons (mVar 11) mNil)))))) mNil))))
 (sSeq (sAsg (mOp oIxD (mVar 5) (mUn oNegX (mC (.int 1)))) (mgName 13))
 (sSeq (sIf (mAndT (mTest (mOp oEqX (mVar 4) (mC (.int 0)))) (mTest (mOp oEqX (mCall 2 m__law_take (mCons (mVar 0) (mCons (mC (.int 2)) mNil))) (mC (.int 0)))))
 (sAsg (mOp oIxD (mVar 5) (mCall 2 m__law_take (mCons (mVar 0) (mCons (mCB oLen (mCons (mVar 5) mNil)) mNil)))) (mgName 13))
 sNext)
 (sDrop (mMeth oAppend (mVar 6) (mCons (mTup (mCons (mVar 12) (mCons (mC (.str "read")) (mCons (mVar 13) (mCons (mVar 10) (mCons (mVar 11) mNil)))))) mNil))))))))))
noncomputable def b__law_history : MS := (sSeq (sAsg (mCall 2 m__law_take (mCons (mVar 0) (mCons (mOp oAddX (mVar 1) (mC (.int 1))) mNil))) (mgName 2))
 (sSeq (sAsg (mOp oIxD (mLst (mCons (mC (.int 1)) (mCons (mC (.int 3)) (mCons (mC (.int 8)) (mCons (mC (.int 40)) mNil))))) (mCall 2 m__law_take (mCons (mVar 0) (mCons (mC (.int 4)) mNil)))) (mgName 3))
 (sSeq (sAsg (mCall 2 m__law_take (mCons (mVar 0) (mCons (mC (.int 4)) mNil))) (mgName 4))
 (sSeq (sAsg (mLst (mCons (mC (.int 0)) mNil)) (mgName 5))
 (sSeq (sAsg (mLst mNil) (mgName 6))
 (sSeq (sAsg (mListR (mC (.int 70))) (mgName 7))
 (sSeq (sFor (miR1 (mCons (mVar 2) mNil)) (mgName 8)
 lb__law_history_2)
 (sSeq (sAsg (mCB oList (mCons (mVar 6) mNil)) (mgName 14))
 (sSeq (sAsg (mLst mNil) (mgName 6))
 (sSeq (whileF (mTest (mOp oNeX (mVar 14) (mLst mNil)))
 lb__law_history_1 100)
 (sRet (mVar 6))))))))))))
noncomputable def m__law_history : List A → Sto → Res A := runB 15 b__law_history
theorem ok__law_history {f : Addr} {fd : FuncData} (F : Fun K "_law_history" "_law_history" s__law_history f fd) (gm : mg "_law_history" = some (.ref f)) (N : Fre K mg) (c__law_take : C8.Cal P w K mg base 1 "_law_take" (spN K w 2 m__law_take) []) : C8.Cal P w K mg base 2 "_law_history" (spN K w 2 m__law_history) [] := by
  refine mkCal F gm sc__law_history (F.binds (ps := ["bag", "most"]) fun _ _ _ _ _ _ us hl => match us, hl with | [_, _], _ => rfl) (fun vs H Q E h => ?_) (fun cdv A outer s H vs Q E hr h => ?_)
  · obtain ⟨_, _, _, hl, _⟩ := h
    exact hl
  · refine ⟨_, (pss_cons (ps_set (i := 2) sc__law_history.nd rfl (.inl rfl) (C8.pe_c c__law_take hr (by decide) rfl (pa_cons (pv 0) (pa_cons (pe_op (show OpR _ _ (rAddX K) from dAddX) (pv 1) pe_int) pa_nil))))
 (pss_cons (ps_set (i := 3) sc__law_history.nd rfl (.inl rfl) (pe_ix (show IxR _ (rIxAny K) from dIx) (pe_lst (pa_cons pe_int (pa_cons pe_int (pa_cons pe_int (pa_cons pe_int pa_nil))))) (C8.pe_c c__law_take hr (by decide) rfl (pa_cons (pv 0) (pa_cons pe_int pa_nil))) (fun _ _ => rfl)))
 (pss_cons (ps_set (i := 4) sc__law_history.nd rfl (.inl rfl) (C8.pe_c c__law_take hr (by decide) rfl (pa_cons (pv 0) (pa_cons pe_int pa_nil))))
 (pss_cons (ps_set (i := 5) sc__law_history.nd rfl (.inl rfl) (pe_lst (pa_cons pe_int pa_nil)))
 (pss_cons (ps_set (i := 6) sc__law_history.nd rfl (.inl rfl) (pe_lst pa_nil))
 (pss_cons (ps_set (i := 7) sc__law_history.nd rfl (.inl rfl) (pe_listRg rfl (by rfl) N.list (prg_1 (by rfl) N.range pe_int)))
 (pss_cons (ps_for PassesOwn.never rfl (pi_range1 (by rfl) N.range (pa_cons (pv 2) pa_nil)) (pg_name (i := 8) sc__law_history.nd rfl (.inl rfl))
 (pss_cons (ps_set (i := 9) sc__law_history.nd rfl (.inl rfl) (pe_op (show OpR _ _ (rAddX K) from dAddX) (pe_op (show OpR _ _ rMulX from dMulX) pe_int (pv 8)) pe_int))
 (pss_cons (ps_set (i := 10) sc__law_history.nd rfl (.inl rfl) (pe_callB (call_max2 rfl) (by rfl) N.max (by decide +kernel) (pa_cons pe_int (pa_cons (pe_op (show OpR _ _ rSubX from dSubX) (pv 9) (C8.pe_c c__law_take hr (by decide) rfl (pa_cons (pv 0) (pa_cons (pe_op (show OpR _ _ rMulX from dMulX) pe_int (pv 3)) pa_nil)))) pa_nil))))
 (pss_cons (ps_set (i := 11) sc__law_history.nd rfl (.inl rfl) (pe_op (show OpR _ _ (rAddX K) from dAddX) (pe_op (show OpR _ _ (rAddX K) from dAddX) (pv 9) pe_int) (C8.pe_c c__law_take hr (by decide) rfl (pa_cons (pv 0) (pa_cons (pe_op (show OpR _ _ rMulX from dMulX) pe_int (pv 3)) pa_nil)))))
 (pss_cons (ps_set (i := 12) sc__law_history.nd rfl (.inl rfl) (pe_bm PySem.F.plainAttrs_list PySem.F.slot_list_pop PySem.F.type_list_pop mt_popAt (pv 7) (pa_cons (C8.pe_c c__law_take hr (by decide) rfl (pa_cons (pv 0) (pa_cons (pe_callB (show CallR _ _ (rLenAny K) from call_lenAny) (by rfl) N.len (by decide +kernel) (pa_cons (pv 7) pa_nil)) pa_nil))) pa_nil)))
 (pss_one (ps_if (pt_cmpR (show OpR _ _ (rEqX K) from (dEqX hr.units)) (C8.pe_c c__law_take hr (by decide) rfl (pa_cons (pv 0) (pa_cons pe_int pa_nil))) pe_int (nomark _))
 (pss_cons (ps_expr (pe_bm PySem.F.plainAttrs_list PySem.F.slot_list_append PySem.F.type_list_append mt_append (pv 5) (pa_cons (pe_op (show OpR _ _ (rAddX K) from dAddX) pe_int (pe_op (show OpR _ _ rModD from dMod) (pe_op (show OpR _ _ (rAddX K) from dAddX) (pe_op (show OpR _ _ rMulX from dMulX) (pv 8) pe_int) pe_int) pe_int)) pa_nil)))
 (pss_one (ps_expr (pe_bm PySem.F.plainAttrs_list PySem.F.slot_list_append PySem.F.type_list_append mt_append (pv 6) (pa_cons (pe_tup (pa_cons (pv 12) (pa_cons pe_str (pa_cons (pe_ix (show IxR _ (rIxAny K) from dIx) (pv 5) (pe_un un_negX pe_int) (fun _ _ => rfl)) (pa_cons (pv 10) (pa_cons (pv 11) pa_nil)))))) pa_nil)))))
 (pss_cons (ps_set (i := 13) sc__law_history.nd rfl (.inl rfl) (pe_ix (show IxR _ (rIxAny K) from dIx) (pv 5) (pe_un un_negX pe_int) (fun _ _ => rfl)))
 (pss_cons (ps_if (PW.pt (pw_and (pt_cmpR (show OpR _ _ (rEqX K) from (dEqX hr.units)) (pv 4) pe_int (nomark _)) (pw_and1 (pt_cmpR (show OpR _ _ (rEqX K) from (dEqX hr.units)) (C8.pe_c c__law_take hr (by decide) rfl (pa_cons (pv 0) (pa_cons pe_int pa_nil))) pe_int (nomark _)))))
 (pss_one (ps_set (i := 13) sc__law_history.nd rfl (.inl rfl) (pe_ix (show IxR _ (rIxAny K) from dIx) (pv 5) (C8.pe_c c__law_take hr (by decide) rfl (pa_cons (pv 0) (pa_cons (pe_callB (show CallR _ _ (rLenAny K) from call_lenAny) (by rfl) N.len (by decide +kernel) (pa_cons (pv 5) pa_nil)) pa_nil))) (fun _ _ => rfl))))
 pss_nil)
 (pss_one (ps_expr (pe_bm PySem.F.plainAttrs_list PySem.F.slot_list_append PySem.F.type_list_append mt_append (pv 6) (pa_cons (pe_tup (pa_cons (pv 12) (pa_cons pe_str (pa_cons (pv 13) (pa_cons (pv 10) (pa_cons (pv 11) pa_nil)))))) pa_nil)))))))))))))
 (pss_cons (ps_set (i := 14) sc__law_history.nd rfl (.inl rfl) (pe_callTy call_list_of (by rfl) N.list (by decide +kernel) (pa_cons (pv 6) pa_nil)))
 (pss_cons (ps_set (i := 6) sc__law_history.nd rfl (.inl rfl) (pe_lst pa_nil))
 (pss_cons (ps_while PassesOwn.never (pt_cmpR (show OpR _ _ (rNeX K) from (dNeX hr.units)) (pv 14) (pe_lst pa_nil) (nomark _))
 (pss_one (ps_expr (pe_bm PySem.F.plainAttrs_list PySem.F.slot_list_append PySem.F.type_list_append mt_append (pv 6) (pa_cons (pe_bm PySem.F.plainAttrs_list PySem.F.slot_list_pop PySem.F.type_list_pop mt_popAt (pv 14) (pa_cons (C8.pe_c c__law_take hr (by decide) rfl (pa_cons (pv 0) (pa_cons (pe_callB (show CallR _ _ (rLenAny K) from call_lenAny) (by rfl) N.len (by decide +kernel) (pa_cons (pv 14) pa_nil)) pa_nil))) pa_nil)) pa_nil)))))
 (pss_one (ps_ret (pv 6))))))))))))), ?_⟩
    exact spN_body (b := b__law_history) (show RS K w WF _ b__law_history from (rs_seq (rs_asg (re_call (ra_cons (re_var (i := 0)) (ra_cons (re_op r2_addX (re_var (i := 1)) re_int) ra_nil))) (rg_name (i := 2) (vs := [2]) (by decide)))
 (rs_seq (rs_asg (re_op r2_ixD (re_lst (ra_cons re_int (ra_cons re_int (ra_cons re_int (ra_cons re_int ra_nil))))) (re_call (ra_cons (re_var (i := 0)) (ra_cons re_int ra_nil)))) (rg_name (i := 3) (vs := [3]) (by decide)))
 (rs_seq (rs_asg (re_call (ra_cons (re_var (i := 0)) (ra_cons re_int ra_nil))) (rg_name (i := 4) (vs := [4]) (by decide)))
 (rs_seq (rs_asg (re_lst (ra_cons re_int ra_nil)) (rg_name (i := 5) (vs := [5]) (by decide)))
 (rs_seq (rs_asg (re_lst ra_nil) (rg_name (i := 6) (vs := [6]) (by decide)))
 (rs_seq (rs_asg (re_listR re_int) (rg_name (i := 7) (vs := [7]) (by decide)))
 (rs_seq (rs_for (ri_range1 (ra_cons (re_var (i := 2)) ra_nil)) (rg_name (i := 8) (vs := [8]) (by decide))
 (rs_seq (rs_asg (re_op r2_addX (re_op r2_mulX re_int (re_var (i := 8))) re_int) (rg_name (i := 9) (vs := [9]) (by decide)))
 (rs_seq (rs_asg (re_cb rl_max2 (ra_cons re_int (ra_cons (re_op r2_subX (re_var (i := 9)) (re_call (ra_cons (re_var (i := 0)) (ra_cons (re_op r2_mulX re_int (re_var (i := 3))) ra_nil)))) ra_nil))) (rg_name (i := 10) (vs := [10]) (by decide)))
 (rs_seq (rs_asg (re_op r2_addX (re_op r2_addX (re_var (i := 9)) re_int) (re_call (ra_cons (re_var (i := 0)) (ra_cons (re_op r2_mulX re_int (re_var (i := 3))) ra_nil)))) (rg_name (i := 11) (vs := [11]) (by decide)))
 (rs_seq (rs_asg (re_meth rm_popAt (re_var (i := 7)) (ra_cons (re_call (ra_cons (re_var (i := 0)) (ra_cons (re_cb rl_len (ra_cons (re_var (i := 7)) ra_nil)) ra_nil))) ra_nil)) (rg_name (i := 12) (vs := [12]) (by decide)))
 (rs_if (rt_test (re_op r2_eqX (re_call (ra_cons (re_var (i := 0)) (ra_cons re_int ra_nil))) re_int))
 (rs_seq (rs_drop (re_meth rm_append (re_var (i := 5)) (ra_cons (re_op r2_addX re_int (re_op r2_mod (re_op r2_addX (re_op r2_mulX (re_var (i := 8)) re_int) re_int) re_int)) ra_nil)))
 (rs_drop (re_meth rm_append (re_var (i := 6)) (ra_cons (re_tup (ra_cons (re_var (i := 12)) (ra_cons re_str (ra_cons (re_op r2_ixD (re_var (i := 5)) (re_un r1_negX re_int)) (ra_cons (re_var (i := 10)) (ra_cons (re_var (i := 11)) ra_nil)))))) ra_nil))))
 (rs_seq (rs_asg (re_op r2_ixD (re_var (i := 5)) (re_un r1_negX re_int)) (rg_name (i := 13) (vs := [13]) (by decide)))
 (rs_seq (rs_if (rt_and (rt_test (re_op r2_eqX (re_var (i := 4)) re_int)) (rt_test (re_op r2_eqX (re_call (ra_cons (re_var (i := 0)) (ra_cons re_int ra_nil))) re_int)))
 (rs_asg (re_op r2_ixD (re_var (i := 5)) (re_call (ra_cons (re_var (i := 0)) (ra_cons (re_cb rl_len (ra_cons (re_var (i := 5)) ra_nil)) ra_nil)))) (rg_name (i := 13) (vs := [13]) (by decide)))
 rs_next)
 (rs_drop (re_meth rm_append (re_var (i := 6)) (ra_cons (re_tup (ra_cons (re_var (i := 12)) (ra_cons re_str (ra_cons (re_var (i := 13)) (ra_cons (re_var (i := 10)) (ra_cons (re_var (i := 11)) ra_nil)))))) ra_nil)))))))))))
 (rs_seq (rs_asg (re_cb rl_list (ra_cons (re_var (i := 6)) ra_nil)) (rg_name (i := 14) (vs := [14]) (by decide)))
 (rs_seq (rs_asg (re_lst ra_nil) (rg_name (i := 6) (vs := [6]) (by decide)))
 (rs_seq (rs_while (rt_test (re_op r2_neX (re_var (i := 14)) (re_lst ra_nil)))
 (rs_drop (re_meth rm_append (re_var (i := 6)) (ra_cons (re_meth rm_popAt (re_var (i := 14)) (ra_cons (re_call (ra_cons (re_var (i := 0)) (ra_cons (re_cb rl_len (ra_cons (re_var (i := 14)) ra_nil)) ra_nil))) ra_nil)) ra_nil))))
 (rs_ret (re_var (i := 6)))))))))))))) h
theorem st__law_history (a0 a1 : A) (st : Sto) : m__law_history [a0, a1] st = fin (b__law_history [some a0, some a1, none, none, none, none, none, none, none, none, none, none, none, none, none] st) := rfl

/-! ### the law -/
abbrev s_law : Stmt := topS 21
theorem sc_law : FnScope ["script", "k", "bag", "thing", "row", "rows", "odd", "some", "turn", "found", "at"] ["script"] (defScope s_law) := ⟨rfl, rfl, rfl, by decide +kernel, rfl, by decide +kernel, by decide +kernel⟩
noncomputable def lb_law_1 : MS := (sSeq (sAsg (mCall 1 m_is_history (mCons (mVar 3) mNil)) (mgName 9))
 (sSeq (sIf (mOrT (mNotT (mTest (mCB oIsi (mCons (mVar 9) (mCons (mC (.ty "bool")) mNil))))) (mTest (mOp oNeX (mVar 9) (mCall 1 m__law_is_history (mCons (mVar 3) mNil)))))
 (sRet (mC (.bl false)))
 sNext)
 (sAsg (mCall 2 m__law_spoilt (mCons (mVar 2) (mCons (mVar 3) mNil))) (mgName 3))))
noncomputable def lb_law_2 : MS := (sIf (mTest (mOp oNeX (mCall 1 m_is_history (mCons (mVar 3) mNil)) (mCall 1 m__law_is_history (mCons (mVar 3) mNil))))
 (sRet (mC (.bl false)))
 sNext)
noncomputable def lb_law_3 : MS := (sSeq (sAsg (mCall 2 m__law_bag (mCons (mVar 0) (mCons (mVar 1) mNil))) (mgName 2))
 (sSeq (sAsg (mCall 2 m__law_history (mCons (mVar 2) (mCons (mC (.int 12)) mNil))) (mgName 3))
 (sSeq (sIf (mTest (mOp oEqX (mVar 1) (mC (.int 0))))
 (sSeq (sAsg (mTup (mCons (mC (.int 7)) (mCons (mC (.str "read")) (mCons (mC (.int 0)) (mCons (mC (.int 0)) (mCons (mOp oPow (mC (.int 10)) (mC (.int 6))) mNil)))))) (mgName 4))
 (sSeq (sAsg (mLc (miR1 (mCons (mC (.int 60)) mNil)) (mgName 10) mYes (mTup (mCons (mVar 10) (mCons (mC (.str "read")) (mCons (mC (.int 0)) (mCons (mVar 10) (mCons (mOp oAddX (mVar 10) (mC (.int 1))) mNil)))))) [10]) (mgName 5))
 (sSeq (sAsg (mLst (mCons (mTup (mCons (mC (.int 7)) (mCons (mC (.str "write")) (mCons (mC (.int 999)) (mCons (mOp oSubX (mOp oPow (mC (.int 10)) (mC (.int 6))) (mC (.int 1))) (mCons (mOp oPow (mC (.int 10)) (mC (.int 6))) mNil)))))) (mCons (mTup (mCons (mC (.int 8)) (mCons (mC (.str "read")) (mCons (mC (.int 999)) (mCons (mC (.int 5)) (mCons (mC (.int 5)) mNil)))))) (mCons (mTup (mCons (mC (.int 9)) (mCons (mC (.str "write")) (mCons (mC (.int 0)) (mCons (mC (.int 1)) (mCons (mC (.int 2)) mNil)))))) mNil)))) (mgName 6))
 (sSeq (sAsg (mLst (mCons (mVar 5) (mCons (mOp oAddX (mVar 5) (mLst (mCons (mTup (mCons (mC (.int 60)) (mCons (mC (.str "read")) (mCons (mC (.int 0)) (mCons (mC (.int 1)) (mCons (mC (.int 2)) mNil)))))) mNil))) (mCons (mLst (mCons (mVar 4) mNil)) (mCons (mSl oSl (mVar 6) mNoPart (mPart (mC (.int 1)))) (mCons (mSl oSl (mVar 6) mNoPart (mPart (mC (.int 2)))) (mCons (mSl oSl (mVar 6) (mPart (mC (.int 2))) (mPart (mC (.int 3)))) (mCons (mLst (mCons (mVar 4) (mCons (mVar 4) mNil))) mNil)))))))) (mgName 7))
 (sFor (miL (mOp oAddX (mVar 7) (mLst (mCons (mLst (mCons (mTup (mCons (mC (.int 10)) (mCons (mC (.str "read")) (mCons (mC (.int 1)) (mCons (mC (.int 1)) (mCons (mC (.int 2)) mNil)))))) mNil)) (mCons (mCall 1 m__law_odd (mCons (mVar 2) mNil)) (mCons (mLst mNil) (mCons (mVar 3) mNil))))))) (mgName 3)
 lb_law_2)))))
 sNext)
 (sFor (miR1 (mCons (mC (.int 8)) mNil)) (mgName 8)
 lb_law_1))))
noncomputable def b_law : MS := (sSeq (sFor (miR1 (mCons (mOp oAddX (mC (.int 1)) (mCB oMin2 (mCons (mCB oLen (mCons (mVar 0) mNil)) (mCons (mC (.int 20)) mNil)))) mNil)) (mgName 1)
 lb_law_3)
 (sRet (mC (.bl true))))
noncomputable def m_law : List A → Sto → Res A := runB 11 b_law
theorem st_law (a0 : A) (st : Sto) : m_law [a0] st = fin (b_law [some a0, none, none, none, none, none, none, none, none, none, none] st) := rfl
def splaw (K : PySem.W.Frag) : Sp := fun vs H Q _ => ∃ (a : Addr) (ns : List Int), vs = [.ref a] ∧ Only H ∧ SqL K H a (ns.map V.int) ∧ ns.length ≤ 63 ∧ ∀ H', Q (.bl true) H'
theorem law_start {w : World} {H : Hp} {a : Addr} {ns : List Int} {Q : VK} {E : XK} (ho : Only H) (hS : SqL K H a (ns.map V.int)) (h : ∃ st, m_law [.lit (ns.map A.int)] [] = .ok (.bl true) st) (q : ∀ H', Q (.bl true) H') : spN K w 1 m_law [.ref a] H Q E := by
  obtain ⟨st, e⟩ := h
  have hl : (∃ o, H a = some (.frz o (.lst (ns.map V.int)))) ∨ SqL K (fun _ => none) a (ns.map V.int) := by
    rcases hS with (h | ⟨o, h⟩) | h
    · rcases ho a with z | ⟨o, xs, z⟩
      · rw [z] at h
        cases h
      · rw [z] at h
        cases h
    · exact .inl ⟨o, h⟩
    · exact .inr (.inr h)
  refine ⟨[], [], [.lit (ns.map A.int)], rfl, ⟨rfl, List.nodup_nil, fun n a o h => by simp at h⟩, .cons (.lit hl (Rvs.ints ns)) .nil, ?_⟩
  show Post K w [] H (noX (m_law [.lit (ns.map A.int)] [])) _ _
  rw [e]
  exact fun ρ' H' e' r' v hv => by
    cases hv
    exact q H'
theorem ok_law_of (lt : ∀ ns : List Int, ns.length ≤ 63 → ∃ st, m_law [.lit (ns.map A.int)] [] = .ok (.bl true) st) {f : Addr} {fd : FuncData} (F : Fun K "law" "law" s_law f fd) (N : Fre K mg) (c__law_bag : C8.Cal P w K mg base 1 "_law_bag" (spN K w 2 m__law_bag) []) (c__law_history : C8.Cal P w K mg base 2 "_law_history" (spN K w 2 m__law_history) []) (c__law_is_history : C8.Cal P w K mg base 2 "_law_is_history" (spN K w 1 m__law_is_history) []) (c__law_odd : C8.Cal P w K mg base 2 "_law_odd" (spN K w 1 m__law_odd) []) (c__law_spoilt : C8.Cal P w K mg base 27 "_law_spoilt" (spN K w 2 m__law_spoilt) []) (c_is_history : C8.Cal P w K mg base 4 "is_history" (spN K w 1 m_is_history) []) : FnOk P w K mg base CX0 28 f fd ["script"] (splaw K) := by
  refine F.ok sc_law (fun vs H Q E h => ?_) (fun cdv A outer s H vs Q E hr h => ?_)
  · obtain ⟨a, ns, rfl, _⟩ := h
    rfl
  · obtain ⟨a, ns, rfl, ho, hS, hlen, q⟩ := h
    refine ⟨_, (pss_cons (ps_for PassesOwn.never rfl (pi_range1 (by rfl) N.range (pa_cons (pe_op (show OpR _ _ (rAddX K) from dAddX) pe_int (pe_callB (call_min2 rfl) (by rfl) N.min (by decide +kernel) (pa_cons (pe_callB (show CallR _ _ (rLenAny K) from call_lenAny) (by rfl) N.len (by decide +kernel) (pa_cons (pv 0) pa_nil)) (pa_cons pe_int pa_nil)))) pa_nil)) (pg_name (i := 1) sc_law.nd rfl (.inl rfl))
 (pss_cons (ps_set (i := 2) sc_law.nd rfl (.inl rfl) (C8.pe_c c__law_bag hr (by decide) rfl (pa_cons (pv 0) (pa_cons (pv 1) pa_nil))))
 (pss_cons (ps_set (i := 3) sc_law.nd rfl (.inl rfl) (C8.pe_c c__law_history hr (by decide) rfl (pa_cons (pv 2) (pa_cons pe_int pa_nil))))
 (pss_cons (ps_if (pt_cmpR (show OpR _ _ (rEqX K) from (dEqX hr.units)) (pv 1) pe_int (nomark _))
 (pss_cons (ps_set (i := 4) sc_law.nd rfl (.inl rfl) (pe_tup (pa_cons pe_int (pa_cons pe_str (pa_cons pe_int (pa_cons pe_int (pa_cons (pe_op (show OpR _ _ rPowD from dPow) pe_int pe_int) pa_nil)))))))
 (pss_cons (ps_setLc (i := 5) (own := [("at", 10)]) (g := gName 10) (tt := tYes) rfl sc_law.nd rfl rfl (sw_true rfl rfl rfl (by decide +kernel)) (pi_range1 (by rfl) N.range (pa_cons pe_int pa_nil)) (blkOk_by (N := ["script", "k", "bag", "thing", "row", "rows", "odd", "some", "turn", "found", "at"]) (sc := defScope s_law) (by decide +kernel)) (fun _ _ _ _ _ => pg_name (i := 10) sc_law.nd rfl (Or.inl rfl)) (fun _ _ _ _ _ => pts_nil) (fun _ _ _ _ _ => (pe_tup (pa_cons (pv 10) (pa_cons pe_str (pa_cons pe_int (pa_cons (pv 10) (pa_cons (pe_op (show OpR _ _ (rAddX K) from dAddX) (pv 10) pe_int) pa_nil))))))))
 (pss_cons (ps_set (i := 6) sc_law.nd rfl (.inl rfl) (pe_lst (pa_cons (pe_tup (pa_cons pe_int (pa_cons pe_str (pa_cons pe_int (pa_cons (pe_op (show OpR _ _ rSubX from dSubX) (pe_op (show OpR _ _ rPowD from dPow) pe_int pe_int) pe_int) (pa_cons (pe_op (show OpR _ _ rPowD from dPow) pe_int pe_int) pa_nil)))))) (pa_cons (pe_tup (pa_cons pe_int (pa_cons pe_str (pa_cons pe_int (pa_cons pe_int (pa_cons pe_int pa_nil)))))) (pa_cons (pe_tup (pa_cons pe_int (pa_cons pe_str (pa_cons pe_int (pa_cons pe_int (pa_cons pe_int pa_nil)))))) pa_nil)))))
 (pss_cons (ps_set (i := 7) sc_law.nd rfl (.inl rfl) (pe_lst (pa_cons (pv 5) (pa_cons (pe_op (show OpR _ _ (rAddX K) from dAddX) (pv 5) (pe_lst (pa_cons (pe_tup (pa_cons pe_int (pa_cons pe_str (pa_cons pe_int (pa_cons pe_int (pa_cons pe_int pa_nil)))))) pa_nil))) (pa_cons (pe_lst (pa_cons (pv 4) pa_nil)) (pa_cons (pe_slice (show SlR _ (rSlAny K) from sl_any) (pv 6) po_none (po_some pe_int)) (pa_cons (pe_slice (show SlR _ (rSlAny K) from sl_any) (pv 6) po_none (po_some pe_int)) (pa_cons (pe_slice (show SlR _ (rSlAny K) from sl_any) (pv 6) (po_some pe_int) (po_some pe_int)) (pa_cons (pe_lst (pa_cons (pv 4) (pa_cons (pv 4) pa_nil))) pa_nil)))))))))
 (pss_one (ps_for PassesOwn.never rfl (pi_list (pe_op (show OpR _ _ (rAddX K) from dAddX) (pv 7) (pe_lst (pa_cons (pe_lst (pa_cons (pe_tup (pa_cons pe_int (pa_cons pe_str (pa_cons pe_int (pa_cons pe_int (pa_cons pe_int pa_nil)))))) pa_nil)) (pa_cons (C8.pe_c c__law_odd hr (by decide) rfl (pa_cons (pv 2) pa_nil)) (pa_cons (pe_lst pa_nil) (pa_cons (pv 3) pa_nil))))))) (pg_name (i := 3) sc_law.nd rfl (.inl rfl))
 (pss_one (ps_if (pt_cmpR (show OpR _ _ (rNeX K) from (dNeX hr.units)) (C8.pe_c c_is_history hr (by decide) rfl (pa_cons (pv 3) pa_nil)) (C8.pe_c c__law_is_history hr (by decide) rfl (pa_cons (pv 3) pa_nil)) (nomark _))
 (pss_one (ps_ret pe_bl))
 pss_nil))))))))
 pss_nil)
 (pss_one (ps_for PassesOwn.never rfl (pi_range1 (by rfl) N.range (pa_cons pe_int pa_nil)) (pg_name (i := 8) sc_law.nd rfl (.inl rfl))
 (pss_cons (ps_set (i := 9) sc_law.nd rfl (.inl rfl) (C8.pe_c c_is_history hr (by decide) rfl (pa_cons (pv 3) pa_nil)))
 (pss_cons (ps_if (PW.pt (pw_or (pt_not (pt_val (pe_callB (show CallR _ _ (rIsi K) from call_isi) (by rfl) N.isinstance (by decide +kernel) (pa_cons (pv 9) (pa_cons (pe_bltn (v := .ty "bool") (u := .type "bool") rfl N.bool (by decide +kernel) rfl) pa_nil))))) (pw_or1 (pt_cmpR (show OpR _ _ (rNeX K) from (dNeX hr.units)) (pv 9) (C8.pe_c c__law_is_history hr (by decide) rfl (pa_cons (pv 3) pa_nil)) (nomark _)))))
 (pss_one (ps_ret pe_bl))
 pss_nil)
 (pss_one (ps_set (i := 3) sc_law.nd rfl (.inl rfl) (C8.pe_c c__law_spoilt hr (by decide) rfl (pa_cons (pv 2) (pa_cons (pv 3) pa_nil)))))))))))))
 (pss_one (ps_ret pe_bl))), ?_⟩
    exact spN_body (b := b_law) (show RS K w WF _ b_law from (rs_seq (rs_for (ri_range1 (ra_cons (re_op r2_addX re_int (re_cb rl_min2 (ra_cons (re_cb rl_len (ra_cons (re_var (i := 0)) ra_nil)) (ra_cons re_int ra_nil)))) ra_nil)) (rg_name (i := 1) (vs := [1]) (by decide))
 (rs_seq (rs_asg (re_call (ra_cons (re_var (i := 0)) (ra_cons (re_var (i := 1)) ra_nil))) (rg_name (i := 2) (vs := [2]) (by decide)))
 (rs_seq (rs_asg (re_call (ra_cons (re_var (i := 2)) (ra_cons re_int ra_nil))) (rg_name (i := 3) (vs := [3]) (by decide)))
 (rs_seq (rs_if (rt_test (re_op r2_eqX (re_var (i := 1)) re_int))
 (rs_seq (rs_asg (re_tup (ra_cons re_int (ra_cons re_str (ra_cons re_int (ra_cons re_int (ra_cons (re_op r2_pow re_int re_int) ra_nil)))))) (rg_name (i := 4) (vs := [4]) (by decide)))
 (rs_seq (rs_asg (re_lc (ri_range1 (ra_cons re_int ra_nil)) (rg_name (i := 10) (vs := [10]) (by decide)) rt_yes (re_tup (ra_cons (re_var (i := 10)) (ra_cons re_str (ra_cons re_int (ra_cons (re_var (i := 10)) (ra_cons (re_op r2_addX (re_var (i := 10)) re_int) ra_nil))))))) (rg_name (i := 5) (vs := [5]) (by decide)))
 (rs_seq (rs_asg (re_lst (ra_cons (re_tup (ra_cons re_int (ra_cons re_str (ra_cons re_int (ra_cons (re_op r2_subX (re_op r2_pow re_int re_int) re_int) (ra_cons (re_op r2_pow re_int re_int) ra_nil)))))) (ra_cons (re_tup (ra_cons re_int (ra_cons re_str (ra_cons re_int (ra_cons re_int (ra_cons re_int ra_nil)))))) (ra_cons (re_tup (ra_cons re_int (ra_cons re_str (ra_cons re_int (ra_cons re_int (ra_cons re_int ra_nil)))))) ra_nil)))) (rg_name (i := 6) (vs := [6]) (by decide)))
 (rs_seq (rs_asg (re_lst (ra_cons (re_var (i := 5)) (ra_cons (re_op r2_addX (re_var (i := 5)) (re_lst (ra_cons (re_tup (ra_cons re_int (ra_cons re_str (ra_cons re_int (ra_cons re_int (ra_cons re_int ra_nil)))))) ra_nil))) (ra_cons (re_lst (ra_cons (re_var (i := 4)) ra_nil)) (ra_cons (re_sl rsl_any (re_var (i := 6)) ro_none (ro_some re_int)) (ra_cons (re_sl rsl_any (re_var (i := 6)) ro_none (ro_some re_int)) (ra_cons (re_sl rsl_any (re_var (i := 6)) (ro_some re_int) (ro_some re_int)) (ra_cons (re_lst (ra_cons (re_var (i := 4)) (ra_cons (re_var (i := 4)) ra_nil))) ra_nil)))))))) (rg_name (i := 7) (vs := [7]) (by decide)))
 (rs_for (ri_list (re_op r2_addX (re_var (i := 7)) (re_lst (ra_cons (re_lst (ra_cons (re_tup (ra_cons re_int (ra_cons re_str (ra_cons re_int (ra_cons re_int (ra_cons re_int ra_nil)))))) ra_nil)) (ra_cons (re_call (ra_cons (re_var (i := 2)) ra_nil)) (ra_cons (re_lst ra_nil) (ra_cons (re_var (i := 3)) ra_nil))))))) (rg_name (i := 3) (vs := [3]) (by decide))
 (rs_if (rt_test (re_op r2_neX (re_call (ra_cons (re_var (i := 3)) ra_nil)) (re_call (ra_cons (re_var (i := 3)) ra_nil))))
 (rs_ret re_bl)
 rs_next))))))
 rs_next)
 (rs_for (ri_range1 (ra_cons re_int ra_nil)) (rg_name (i := 8) (vs := [8]) (by decide))
 (rs_seq (rs_asg (re_call (ra_cons (re_var (i := 3)) ra_nil)) (rg_name (i := 9) (vs := [9]) (by decide)))
 (rs_seq (rs_if (rt_or (rt_not (rt_val (re_cb rl_isi (ra_cons (re_var (i := 9)) (ra_cons (re_c fun _ _ => .ty _) ra_nil))))) (rt_test (re_op r2_neX (re_var (i := 9)) (re_call (ra_cons (re_var (i := 3)) ra_nil)))))
 (rs_ret re_bl)
 rs_next)
 (rs_asg (re_call (ra_cons (re_var (i := 2)) (ra_cons (re_var (i := 3)) ra_nil))) (rg_name (i := 3) (vs := [3]) (by decide))))))))))
 (rs_ret re_bl))) (law_start (E := E) ho hS (lt ns hlen) q)


/-! ### data of any kind, as it stands in a store -/
def asc (x : Str) : Bool := x.cps.all (· < 128)
def gs (s : Nat) : A → Prop
  | .non => True
  | .bl _ => True
  | .int i => i.natAbs < 2 ^ (100 + 8 * s)
  | .str x => asc x = true ∧ x.length ≤ 64 * 4 ^ s
  | _ => False
/-- data of depth k at most; s tells how great it may be; the bag is no part of it -/
def gd (st : Sto) (E : Nat → Prop) (s : Nat) : Nat → A → Prop
  | 0, a => gs s a
  | k + 1, a => gs s a ∨ (∃ xs, a = .tup xs ∧ xs.length ≤ 70 + s ∧ ∀ x ∈ xs, gd st E s k x) ∨ ∃ n xs, a = .ref n ∧ ¬ E n ∧ st[n]? = some (.lst xs) ∧ xs.length ≤ 70 + s ∧ ∀ x ∈ xs, gd st E s k x
theorem gs_up {s : Nat} {a : A} (h : gs s a) : gs (s + 1) a := by
  cases a with
  | non => trivial
  | bl _ => trivial
  | int i => exact Nat.lt_of_lt_of_le (show i.natAbs < _ from h) (Nat.pow_le_pow_right (by decide) (by omega))
  | str x => exact ⟨h.1, Nat.le_trans h.2 (by rw [Nat.pow_succ]; omega)⟩
  | _ => exact h
theorem gd_up {st : Sto} {E : Nat → Prop} {s : Nat} : ∀ {k : Nat} {a : A}, gd st E s k a → gd st E (s + 1) k a
  | 0, _, h => gs_up h
  | k + 1, _, h => by
    rcases h with h | ⟨xs, e, h1, h2⟩ | ⟨n, xs, e, h0, h1, h2, h3⟩
    · exact .inl (gs_up h)
    · exact .inr (.inl ⟨xs, e, by omega, fun x hx => gd_up (h2 x hx)⟩)
    · exact .inr (.inr ⟨n, xs, e, h0, h1, by omega, fun x hx => gd_up (h3 x hx)⟩)
theorem gd_ups {st : Sto} {E : Nat → Prop} {s : Nat} {k : Nat} {a : A} (h : gd st E s k a) : ∀ {s' : Nat}, s ≤ s' → gd st E s' k a
  | s', hs => by
    obtain ⟨d, rfl⟩ := Nat.exists_eq_add_of_le hs
    clear hs
    induction d with
    | zero => exact h
    | succ d ih => exact gd_up ih
theorem gd_s {st : Sto} {E : Nat → Prop} {s : Nat} : ∀ {k : Nat} {a : A}, gs s a → gd st E s k a
  | 0, _, h => h
  | _ + 1, _, h => .inl h
theorem gd_deep {st : Sto} {E : Nat → Prop} {s : Nat} : ∀ {k : Nat} {a : A}, gd st E s k a → gd st E s (k + 1) a
  | 0, _, h => .inl h
  | k + 1, _, h => by
    rcases h with h | ⟨xs, e, h1, h2⟩ | ⟨n, xs, e, h0, h1, h2, h3⟩
    · exact .inl h
    · exact .inr (.inl ⟨xs, e, h1, fun x hx => gd_deep (h2 x hx)⟩)
    · exact .inr (.inr ⟨n, xs, e, h0, h1, h2, fun x hx => gd_deep (h3 x hx)⟩)
theorem gd_deeps {st : Sto} {E : Nat → Prop} {s : Nat} {k : Nat} {a : A} (h : gd st E s k a) : ∀ {k' : Nat}, k ≤ k' → gd st E s k' a
  | k', hs => by
    obtain ⟨d, rfl⟩ := Nat.exists_eq_add_of_le hs
    clear hs
    induction d with
    | zero => exact h
    | succ d ih => exact gd_deep ih
theorem gd_old {st st' : Sto} {b : Nat} {E : Nat → Prop} {s : Nat} (hE : E b) (o : Old b st st') : ∀ {k : Nat} {a : A}, gd st E s k a → gd st' E s k a
  | 0, _, h => h
  | k + 1, _, h => by
    rcases h with h | ⟨xs, e, h1, h2⟩ | ⟨n, xs, e, h0, h1, h2, h3⟩
    · exact .inl h
    · exact .inr (.inl ⟨xs, e, h1, fun x hx => gd_old hE o (h2 x hx)⟩)
    · exact .inr (.inr ⟨n, xs, e, h0, o.get h1 (fun z => h0 (z ▸ hE)), h2, fun x hx => gd_old hE o (h3 x hx)⟩)
/-- its kind -/
theorem gd_ty {st : Sto} {E : Nat → Prop} {s k : Nat} {a : A} (h : gd st E s k a) : ∃ t, tyA st a = some t := by
  have one : gs s a → ∃ t, tyA st a = some t := fun h => by
    cases a with
    | non => exact ⟨_, rfl⟩
    | bl _ => exact ⟨_, rfl⟩
    | int _ => exact ⟨_, rfl⟩
    | str _ => exact ⟨_, rfl⟩
    | _ => exact h.elim
  cases k with
  | zero => exact one h
  | succ k =>
    rcases h with h | ⟨xs, rfl, h1, h2⟩ | ⟨n, xs, rfl, h0, h1, h2, h3⟩
    · exact one h
    · exact ⟨_, rfl⟩
    · exact ⟨"list", by simp only [tyA, h1]⟩
/-! texts of signs below 128 -/
theorem asc_mem {x : Str} : asc x = true ↔ ∀ c ∈ x.cps.toList, c < 128 := by
  unfold asc
  rw [Array.all_eq_true_iff_forall_mem]
  simp
theorem asc_app {x y : Str} (hx : asc x = true) (hy : asc y = true) : asc (x ++ y) = true := by
  rw [asc_mem] at hx hy ⊢
  intro c hc
  have : (x ++ y).cps = x.cps ++ y.cps := rfl
  rw [this, Array.toList_append, List.mem_append] at hc
  rcases hc with hc | hc
  · exact hx c hc
  · exact hy c hc
theorem len_app (x y : Str) : (x ++ y).length = x.length + y.length := by
  show (x.cps ++ y.cps).size = _
  rw [Array.size_append]
  rfl
theorem upper_one : ∀ c < 128, ∀ d ∈ Unicode.upperOf c, d < 128 := by decide +kernel
theorem asc_upper {x : Str} (hx : asc x = true) : asc (Txt.upper x) = true := by
  rw [asc_mem] at hx ⊢
  intro c hc
  have hc : c ∈ placed x fun _ c => Unicode.upperOf c := by
    rw [← Array.mem_toList_iff]
    exact hc
  unfold placed at hc
  rw [Array.mem_flatten] at hc
  obtain ⟨ys, h1, h2⟩ := hc
  rw [Array.mem_mapIdx] at h1
  obtain ⟨i, hi, rfl⟩ := h1
  exact upper_one _ (hx x.cps[i] (by simp)) _ (by simpa using h2)
/-! ### a thing of any kind -/
def odd1 : List A := [A.non, A.bl true, A.bl false, A.int 0, A.int 1, A.int (-1), A.int 5, A.int 51, A.int 100, A.int 201, A.int 1001, A.int 1000000000000000000000000000000, A.str "", A.str "a", A.str "server", A.str "Ann", A.str "a b"]
def odd2 (n : Nat) : List A := [A.str "read", A.str "write", A.str "abcdefghi", A.tup [], A.ref (n + 1), A.tup [A.str "a", A.int 1], A.tup [A.tup [A.str "a", A.int 1]], A.ref (n + 2), A.tup [A.str "a", A.int 100, A.int 0], A.ref (n + 3), A.tup [A.non]]
def oddL (n : Nat) : Sto := [.lst odd1, .lst [], .lst [.str "a"], .lst [.int 1], .lst (odd2 n), .lst (odd1 ++ odd2 n)]
theorem gs_word {s : Nat} {x : Str} (h : asc x = true) (h2 : x.length ≤ 64) : gs s (.str x) := ⟨h, Nat.le_trans h2 (Nat.le_mul_of_pos_right 64 (Nat.pow_pos (by decide)))⟩
theorem gs_num {s : Nat} {i : Int} (h : i.natAbs < 2 ^ 100) : gs s (.int i) := Nat.lt_of_lt_of_le h (Nat.pow_le_pow_right (by decide) (by omega))
theorem gd_tup {st : Sto} {E : Nat → Prop} {s k : Nat} {xs : List A} (h : xs.length ≤ 70 + s) (h2 : ∀ x ∈ xs, gd st E s k x) : gd st E s (k + 1) (.tup xs) := .inr (.inl ⟨xs, rfl, h, h2⟩)
theorem gd_ref {st : Sto} {E : Nat → Prop} {s k n : Nat} {xs : List A} (nb : ¬ E n) (e : st[n]? = some (.lst xs)) (h : xs.length ≤ 70 + s) (h2 : ∀ x ∈ xs, gd st E s k x) : gd st E s (k + 1) (.ref n) := .inr (.inr ⟨n, xs, rfl, nb, e, h, h2⟩)
theorem odd_all {st : Sto} {E : Nat → Prop} (hb : ∀ n, E n → n < st.length) : ∀ a ∈ odd1 ++ odd2 st.length, gd (st ++ oddL st.length) E 0 2 a := by
  have ga : gs 0 (.str "a") := gs_word (by decide +kernel) (by decide)
  have e1 : (st ++ oddL st.length)[st.length + 1]? = some (.lst []) := ev_appk
  have e2 : (st ++ oddL st.length)[st.length + 2]? = some (.lst [.str "a"]) := ev_appk
  have e3 : (st ++ oddL st.length)[st.length + 3]? = some (.lst [.int 1]) := ev_appk
  intro a ha
  rcases List.mem_append.mp ha with ha | ha
  · unfold odd1 at ha
    simp only [List.mem_cons, List.not_mem_nil, or_false] at ha
    rcases ha with rfl | rfl | rfl | rfl | rfl | rfl | rfl | rfl | rfl | rfl | rfl | rfl | rfl | rfl | rfl | rfl | rfl
    · exact gd_s trivial
    · exact gd_s trivial
    · exact gd_s trivial
    all_goals first
      | exact gd_s (gs_num (by decide))
      | exact gd_s (gs_word (by decide +kernel) (by decide))
  · unfold odd2 at ha
    simp only [List.mem_cons, List.not_mem_nil, or_false] at ha
    rcases ha with rfl | rfl | rfl | rfl | rfl | rfl | rfl | rfl | rfl | rfl | rfl
    · exact gd_s (gs_word (by decide +kernel) (by decide))
    · exact gd_s (gs_word (by decide +kernel) (by decide))
    · exact gd_s (gs_word (by decide +kernel) (by decide))
    · exact gd_tup (by decide) (fun x hx => by cases hx)
    · exact gd_ref (fun z => by have := hb _ z; omega) e1 (by decide) (fun x hx => by cases hx)
    · refine gd_tup (by decide) fun x hx => ?_
      simp only [List.mem_cons, List.not_mem_nil, or_false] at hx
      rcases hx with rfl | rfl
      · exact gd_s ga
      · exact gd_s (gs_num (by decide))
    · refine gd_tup (by decide) fun x hx => ?_
      simp only [List.mem_cons, List.not_mem_nil, or_false] at hx
      subst hx
      refine gd_tup (by decide) fun x hx => ?_
      simp only [List.mem_cons, List.not_mem_nil, or_false] at hx
      rcases hx with rfl | rfl
      · exact gd_s ga
      · exact gd_s (gs_num (by decide))
    · refine gd_ref (fun z => by have := hb _ z; omega) e2 (by decide) fun x hx => ?_
      simp only [List.mem_cons, List.not_mem_nil, or_false] at hx
      subst hx
      exact gd_s ga
    · refine gd_tup (by decide) fun x hx => ?_
      simp only [List.mem_cons, List.not_mem_nil, or_false] at hx
      rcases hx with rfl | rfl | rfl
      · exact gd_s ga
      · exact gd_s (gs_num (by decide))
      · exact gd_s (gs_num (by decide))
    · refine gd_ref (fun z => by have := hb _ z; omega) e3 (by decide) fun x hx => ?_
      simp only [List.mem_cons, List.not_mem_nil, or_false] at hx
      subst hx
      exact gd_s (gs_num (by decide))
    · refine gd_tup (by decide) fun x hx => ?_
      simp only [List.mem_cons, List.not_mem_nil, or_false] at hx
      subst hx
      exact gd_s trivial
theorem at_pick {xs : List A} {i : Int} (h0 : 0 ≤ i) (h1 : i < xs.length) : ∃ a, atI xs i = some a ∧ a ∈ xs ∧ xs[i.toNat]? = some a := by
  obtain ⟨k, rfl⟩ : ∃ k : Nat, i = (k : Int) := ⟨i.toNat, by omega⟩
  have hk : k < xs.length := by omega
  exact ⟨xs[k], atI_nat (List.getElem?_eq_getElem hk), List.getElem_mem hk, by rw [Int.toNat_natCast]; exact List.getElem?_eq_getElem hk⟩
theorem odd_ev {st : Sto} {b : Nat} {E : Nat → Prop} (hE : E b) (hb : ∀ n, E n → n < st.length) (hB : BagAt st b) : ∃ a st', m__law_odd [.ref b] st = .ok a st' ∧ gd st' E 0 2 a ∧ Old b st st' ∧ BagAt st' b := by
  obtain ⟨r, st', e, r0, r1, o1, B1, l1⟩ := take_ev (st := st ++ oddL st.length) (m := 28) (hB.apps _) (by decide) (by decide)
  obtain ⟨a, ea, ma, _⟩ := at_pick (xs := odd1 ++ odd2 st.length) r0 (by show r < 28; exact r1)
  have hl := hB.lt
  have eL : st'[st.length + 5]? = some (.lst (odd1 ++ odd2 st.length)) := o1.get ev_appk (by omega)
  have ga := gd_old hE o1 (odd_all hb a ma)
  refine ⟨a, st', ?_, ga, (Old.apps b st _).trans o1, B1⟩
  unfold oddL odd1 odd2 at e
  unfold odd1 odd2 at ea eL
  simp only [List.cons_append, List.nil_append] at e ea eL
  rw [st__law_odd]
  unfold b__law_odd
  simp only [ev_bok, ev_bno, ev_bex, ev_tok, ev_tno, ev_tex, ev_nnx, ev_nrt, ev_nbk, ev_nct, ev_nex, ev_nno, ev_frt, ev_fnx, ev_fex, ev_xok, ev_lsome, ev_lnone, ev_seq, ev_if, ev_ret, ev_retN, ev_drop, ev_nop, ev_brk, ev_cont, ev_asgN, ev_asgT, ev_asgO, ev_mgTup, ev_mgN, ev_mgC, ev_mg0, ev_putL, ev_putO, ev_var, ev_vr, ev_c, ev_op, ev_un, ev_test, ev_tb, ev_notT, ev_andT, ev_orT, ev_ifE, ev_not, ev_nb, ev_and, ev_andK, ev_or, ev_orK, ev_chain, ev_chK, ev_nil, ev_cons, ev_tup, ev_lst, ev_new, ev_call, ev_cb, ev_size, ev_addI, ev_addS, ev_addT, ev_addL, ev_catO, ev_sub, ev_mul, ev_div, ev_mod, ev_p5, ev_p6, ev_p12, ev_p18, ev_p30, ev_neg, ev_ltI, ev_ltS, ev_leI, ev_leS, ev_gt, ev_ge, ev_eqI, ev_eqS, ev_neI, ev_neS, ev_neB, ev_eqB, ev_is, ev_isnot, ev_ixT, ev_ixS, ev_ixR, ev_ixL, ev_ixK, ev_getL, ev_getM, ev_gL, ev_gM, ev_at0, ev_at1, ev_at2, ev_at3, ev_at4, ev_lenS, ev_lenR, ev_lenT, ev_lenL, ev_lenO, ev_lenD, ev_abs, ev_min2, ev_max2, ev_intI, ev_intB, ev_set, ev_fc, ev_setset, ev_last, ev_appk, ev_app0, ev_setk, ev_set0, ev_assoc, ev_lapp, ev_lappA, ev_sl, ev_nopart, ev_part, ev_ptK, ev_slT, ev_slS, ev_slR, ev_slK, ev_tyN, ev_tyB, ev_tyI, ev_tyS, ev_tyT, ev_tyL, ev_tyR, ev_tyRL, ev_isi, ev_isi1, ev_isi2, ev_isi3, ev_isi4, ev_isi5, ev_isiT, ev_isi2K, ev_isTy, ev_list, ev_listK, ev_tuple, ev_tupK, ev_getST, ev_getSR, ev_getSL, ev_all, ev_allK, ev_eqXI, ev_eqXS, ev_neXI, ev_neXS, ev_neXB, ev_eqXB, ev_eqXR, ev_neXR, ev_nil2, ev_eqK, ev_neK, ev_meth, ev_meth0, ev_mth1, ev_mth2, ev_mth3, ev_append, ev_m0, ev_m0K, ev_str, ev_for, ev_miR1, ev_rg1K, ev_miL, ev_liK, ev_miT, ev_tiK, ev_lc, ev_wipe0, ev_wipeS, ev_yes, ev_lenSet, ev_lenSetK, ev_listR, ev_lrK, ev_put2, ev_p2A, ev_p2K, ev_p2E, ev_put1, ev_pt1, ev_addXI, ev_addXB, ev_addXS, ev_addXT, ev_addXL, ev_subXI, ev_subXB, ev_mulXI, ev_mulXB, ev_mulXL, ev_negXI, ev_negXB, ev_strXI, ev_strXB, List.getElem?_cons_zero, List.getElem?_cons_succ, List.set_cons_zero, List.set_cons_succ, List.length_cons, List.length_nil, List.cons_append, List.nil_append, if_true, if_false, Bool.false_eq_true, Bool.true_eq_false, reduceIte, Bool.not_true, Bool.not_false, Bool.and_true, Bool.true_and, Bool.and_false, Bool.false_and, Bool.or_true, Bool.true_or, Bool.or_false, Bool.false_or, decide_eq_true_eq, Nat.reduceAdd, Nat.reduceLeDiff, Nat.zero_add, Int.reduceLT, Int.reduceLE, Int.reduceEq, Int.reduceNeg, Nat.reduceEqDiff, and_self, and_true, true_and, decide_true, decide_false, eq_self, ite_true, ite_false, Int.reduceSub, Int.reduceAdd, Int.cast_ofNat_Int, Int.natCast_add, Int.cast_ofNat_Int, Nat.reduceSub, Nat.add_assoc, String.reduceBEq, String.reduceEq, Bool.or_not_self, beq_self_eq_true, e, eL, ea]

/-! ### a thing with one part spoilt -/
theorem cutA_to (xs : List A) {i : Int} (h0 : 0 ≤ i) : cutA xs none (some i) = xs.take i.toNat := by
  obtain ⟨k, rfl⟩ : ∃ k : Nat, i = (k : Int) := ⟨i.toNat, by omega⟩
  unfold cutA
  rw [HT.sIx_none, HT.sIx_nat]
  have e3 : ((k : Nat) : Int).toNat = k := by omega
  rw [e3, Nat.sub_zero]
  show (xs.drop 0).take (min k xs.length) = xs.take k
  rw [List.drop_zero]
  by_cases h : k ≤ xs.length
  · rw [Nat.min_eq_left h]
  · rw [Nat.min_eq_right (by omega), List.take_of_length_le (Nat.le_refl _), List.take_of_length_le (by omega)]
theorem cutA_from (xs : List A) {i : Int} (h0 : 0 ≤ i) : cutA xs (some i) none = xs.drop i.toNat := by
  obtain ⟨k, rfl⟩ : ∃ k : Nat, i = (k : Int) := ⟨i.toNat, by omega⟩
  unfold cutA
  rw [HT.sIx_none, HT.sIx_nat]
  have e3 : ((k : Nat) : Int).toNat = k := by omega
  rw [e3]
  by_cases h : k ≤ xs.length
  · rw [Nat.min_eq_left h]
    exact List.take_of_length_le (by rw [List.length_drop]; exact Nat.le_refl _)
  · rw [Nat.min_eq_right (by omega), List.drop_of_length_le (Nat.le_refl _), List.drop_of_length_le (by omega), List.take_nil]
theorem mem_erase1 {xs : List A} {k : Nat} {x : A} (h : x ∈ xs.take k ++ xs.drop (k + 1)) : x ∈ xs := by
  rcases List.mem_append.mp h with h | h
  · exact List.mem_of_mem_take h
  · exact List.mem_of_mem_drop h
theorem mem_twice {xs : List A} {k : Nat} {x : A} (h : x ∈ xs.take (k + 1) ++ xs.drop k) : x ∈ xs := by
  rcases List.mem_append.mp h with h | h
  · exact List.mem_of_mem_take h
  · exact List.mem_of_mem_drop h
theorem ixN_is {n : Nat} {i : Int} (h0 : 0 ≤ i) (h1 : i < n) : ixN n i = some i.toNat := by
  unfold ixN
  rw [if_pos h0, if_pos h1]
theorem pow_len {s n : Nat} (hs : s ≤ 12) (h : n ≤ 64 * 4 ^ s) : n ≤ 16777216 * 64 := by
  have : 4 ^ s ≤ 4 ^ 12 := Nat.pow_le_pow_right (by decide) hs
  have e : 4 ^ 12 = 16777216 := by decide
  omega
theorem log_small {i : Int} {k : Nat} (h : i.natAbs < 2 ^ k) (hk : 0 < k) : i.natAbs.log2 < k := by
  by_cases h0 : i.natAbs = 0
  · rw [h0]
    exact hk
  · exact (Nat.log2_lt h0).mpr h
theorem asc_num (i : Int) : asc (toString i : String) = true := by
  rw [asc_mem, Str.ofString_eq_toList]
  intro c hc
  have hc : c ∈ (toString i).toList.map Char.toNat := by simpa using hc
  obtain ⟨ch, hch, rfl⟩ := List.mem_map.mp hc
  have dig : ∀ (n : Nat) (ch : Char), ch ∈ (Nat.repr n).toList → ch.toNat < 128 := fun n ch h => by
    have h : ch ∈ Nat.toDigits 10 n := by
      unfold Nat.repr at h
      simpa using h
    have := Nat.isDigit_of_mem_toDigits (by decide) (by decide) h
    simp [Char.isDigit] at this
    have h2 := this.2
    have : ch.toNat ≤ 57 := h2
    omega
  cases i with
  | ofNat n => exact dig n ch hch
  | negSucc n =>
    have hch : ch ∈ ("-" ++ Nat.repr (n + 1)).toList := hch
    rw [String.toList_append, List.mem_append] at hch
    rcases hch with h | h
    · have : ch = '-' := by simpa using h
      rw [this]
      decide
    · exact dig _ ch h
theorem asc_cut {x : Str} (hx : asc x = true) (lo hi : Option Int) : asc (cutS x lo hi) = true := by
  rw [asc_mem] at hx ⊢
  intro c hc
  unfold cutS at hc
  exact hx c (List.mem_of_mem_drop (List.mem_of_mem_take (by simpa using hc)))
theorem len_cut (x : Str) (lo hi : Option Int) : (cutS x lo hi).length ≤ x.length := by
  unfold cutS
  show ((x.cps.toList.drop _).take _).toArray.size ≤ x.cps.size
  rw [List.size_toArray, List.length_take, List.length_drop]
  have : x.cps.toList.length = x.cps.size := by simp
  omega
/-- one of a list of things, by a number drawn -/
theorem pick_ev {xs : List A} {w : Int} {st1 : Sto} {env : AEnv} {k : MS} (h0 : 0 ≤ w - 2) (h1 : w - 2 < xs.length) : ∃ a ∈ xs, fin (((lift (atI xs (w - 2)) (st1 ++ [.lst xs])).thenS env fun a s => RF.fl (.rt a) s).next k) = .ok a (st1 ++ [.lst xs]) := by
  obtain ⟨a, e, m, _⟩ := at_pick h0 h1
  refine ⟨a, m, ?_⟩
  rw [e]
  rfl
theorem gs_int {s : Nat} {i j : Int} (h : i.natAbs < 2 ^ (100 + 8 * s)) (hj : j.natAbs ≤ 100 * i.natAbs + 100) : gs (s + 1) (.int j) := by
  show j.natAbs < 2 ^ (100 + 8 * (s + 1))
  have e : 2 ^ (100 + 8 * (s + 1)) = 2 ^ (100 + 8 * s) * 256 := by
    rw [show 100 + 8 * (s + 1) = (100 + 8 * s) + 8 by omega, Nat.pow_add]
  have : 100 ≤ 2 ^ (100 + 8 * s) := Nat.le_trans (by decide : 100 ≤ 2 ^ 100) (Nat.pow_le_pow_right (by decide) (by omega))
  omega
theorem gs_text {s : Nat} {x y : Str} (hx : x.length ≤ 64 * 4 ^ s) (ha : asc y = true) (h : y.length ≤ 3 * x.length + 1) : gs (s + 1) (.str y) := by
  refine ⟨ha, ?_⟩
  have e : 64 * 4 ^ (s + 1) = 4 * (64 * 4 ^ s) := by rw [Nat.pow_succ]; omega
  have : 1 ≤ 4 ^ s := Nat.pow_pos (by decide)
  omega
theorem spoilt_leaf {d : Nat} {st : Sto} {b s : Nat} {E : Nat → Prop} {a : A} (hE : E b) (hEb : ∀ n, E n → n < st.length) (hB : BagAt st b) (hs : s ≤ 8) (ha : gs s a) : ∃ a' st', r__law_spoilt (d + 1) [.ref b, a] st = .ok a' st' ∧ gd st' E (s + 1) 2 a' ∧ Old b st st' ∧ BagAt st' b := by
  obtain ⟨w, st1, e1, w0, w1, o1, B1, l1⟩ := take_ev (m := 9) hB (by decide) (by decide)
  obtain ⟨a', st', e2, g2, o2, B2⟩ := odd_ev hE (fun n z => by have := hEb n z; have := o1.le; omega) B1
  have g2 : gd st' E (s + 1) 2 a' := gd_ups g2 (by omega)
  have o2 := o1.trans o2
  rw [st__law_spoilt]
  unfold b__law_spoilt
  have up : ∀ (xs : List A), Old b st (st1 ++ [.lst xs]) := fun xs => o1.trans (Old.apps b st1 _)
  have ub : ∀ (xs : List A), BagAt (st1 ++ [.lst xs]) b := fun xs => B1.apps _
  cases a with
  | non =>
    simp only [ev_bok, ev_bno, ev_bex, ev_tok, ev_tno, ev_tex, ev_nnx, ev_nrt, ev_nbk, ev_nct, ev_nex, ev_nno, ev_frt, ev_fnx, ev_fex, ev_xok, ev_lsome, ev_lnone, ev_seq, ev_if, ev_ret, ev_retN, ev_drop, ev_nop, ev_brk, ev_cont, ev_asgN, ev_asgT, ev_asgO, ev_mgTup, ev_mgN, ev_mgC, ev_mg0, ev_putL, ev_putO, ev_var, ev_vr, ev_c, ev_op, ev_un, ev_test, ev_tb, ev_notT, ev_andT, ev_orT, ev_ifE, ev_not, ev_nb, ev_and, ev_andK, ev_or, ev_orK, ev_chain, ev_chK, ev_nil, ev_cons, ev_tup, ev_lst, ev_new, ev_call, ev_cb, ev_size, ev_addI, ev_addS, ev_addT, ev_addL, ev_catO, ev_sub, ev_mul, ev_div, ev_mod, ev_p5, ev_p6, ev_p12, ev_p18, ev_p30, ev_neg, ev_ltI, ev_ltS, ev_leI, ev_leS, ev_gt, ev_ge, ev_eqI, ev_eqS, ev_neI, ev_neS, ev_neB, ev_eqB, ev_is, ev_isnot, ev_ixT, ev_ixS, ev_ixR, ev_ixL, ev_ixK, ev_getL, ev_getM, ev_gL, ev_gM, ev_at0, ev_at1, ev_at2, ev_at3, ev_at4, ev_lenS, ev_lenR, ev_lenT, ev_lenL, ev_lenO, ev_lenD, ev_abs, ev_min2, ev_max2, ev_intI, ev_intB, ev_set, ev_fc, ev_setset, ev_last, ev_appk, ev_app0, ev_setk, ev_set0, ev_assoc, ev_lapp, ev_lappA, ev_sl, ev_nopart, ev_part, ev_ptK, ev_slT, ev_slS, ev_slR, ev_slK, ev_tyN, ev_tyB, ev_tyI, ev_tyS, ev_tyT, ev_tyL, ev_tyR, ev_tyRL, ev_isi, ev_isi1, ev_isi2, ev_isi3, ev_isi4, ev_isi5, ev_isiT, ev_isi2K, ev_isTy, ev_list, ev_listK, ev_tuple, ev_tupK, ev_getST, ev_getSR, ev_getSL, ev_all, ev_allK, ev_eqXI, ev_eqXS, ev_neXI, ev_neXS, ev_neXB, ev_eqXB, ev_eqXR, ev_neXR, ev_nil2, ev_eqK, ev_neK, ev_meth, ev_meth0, ev_mth1, ev_mth2, ev_mth3, ev_append, ev_m0, ev_m0K, ev_str, ev_for, ev_miR1, ev_rg1K, ev_miL, ev_liK, ev_miT, ev_tiK, ev_lc, ev_wipe0, ev_wipeS, ev_yes, ev_lenSet, ev_lenSetK, ev_listR, ev_lrK, ev_put2, ev_p2A, ev_p2K, ev_p2E, ev_put1, ev_pt1, ev_addXI, ev_addXB, ev_addXS, ev_addXT, ev_addXL, ev_subXI, ev_subXB, ev_mulXI, ev_mulXB, ev_mulXL, ev_negXI, ev_negXB, ev_strXI, ev_strXB, List.getElem?_cons_zero, List.getElem?_cons_succ, List.set_cons_zero, List.set_cons_succ, List.length_cons, List.length_nil, List.cons_append, List.nil_append, if_true, if_false, Bool.false_eq_true, Bool.true_eq_false, reduceIte, Bool.not_true, Bool.not_false, Bool.and_true, Bool.true_and, Bool.and_false, Bool.false_and, Bool.or_true, Bool.true_or, Bool.or_false, Bool.false_or, decide_eq_true_eq, Nat.reduceAdd, Nat.reduceLeDiff, Nat.zero_add, Int.reduceLT, Int.reduceLE, Int.reduceEq, Int.reduceNeg, Nat.reduceEqDiff, and_self, and_true, true_and, decide_true, decide_false, eq_self, ite_true, ite_false, Int.reduceSub, Int.reduceAdd, Int.cast_ofNat_Int, Int.natCast_add, Int.cast_ofNat_Int, Nat.reduceSub, Nat.add_assoc, String.reduceBEq, String.reduceEq, Bool.or_not_self, beq_self_eq_true, e1, e2]
    exact ⟨a', st', rfl, g2, o2, B2⟩
  | bl c =>
    by_cases hw : 1 < w
    · simp only [ev_bok, ev_bno, ev_bex, ev_tok, ev_tno, ev_tex, ev_nnx, ev_nrt, ev_nbk, ev_nct, ev_nex, ev_nno, ev_frt, ev_fnx, ev_fex, ev_xok, ev_lsome, ev_lnone, ev_seq, ev_if, ev_ret, ev_retN, ev_drop, ev_nop, ev_brk, ev_cont, ev_asgN, ev_asgT, ev_asgO, ev_mgTup, ev_mgN, ev_mgC, ev_mg0, ev_putL, ev_putO, ev_var, ev_vr, ev_c, ev_op, ev_un, ev_test, ev_tb, ev_notT, ev_andT, ev_orT, ev_ifE, ev_not, ev_nb, ev_and, ev_andK, ev_or, ev_orK, ev_chain, ev_chK, ev_nil, ev_cons, ev_tup, ev_lst, ev_new, ev_call, ev_cb, ev_size, ev_addI, ev_addS, ev_addT, ev_addL, ev_catO, ev_sub, ev_mul, ev_div, ev_mod, ev_p5, ev_p6, ev_p12, ev_p18, ev_p30, ev_neg, ev_ltI, ev_ltS, ev_leI, ev_leS, ev_gt, ev_ge, ev_eqI, ev_eqS, ev_neI, ev_neS, ev_neB, ev_eqB, ev_is, ev_isnot, ev_ixT, ev_ixS, ev_ixR, ev_ixL, ev_ixK, ev_getL, ev_getM, ev_gL, ev_gM, ev_at0, ev_at1, ev_at2, ev_at3, ev_at4, ev_lenS, ev_lenR, ev_lenT, ev_lenL, ev_lenO, ev_lenD, ev_abs, ev_min2, ev_max2, ev_intI, ev_intB, ev_set, ev_fc, ev_setset, ev_last, ev_appk, ev_app0, ev_setk, ev_set0, ev_assoc, ev_lapp, ev_lappA, ev_sl, ev_nopart, ev_part, ev_ptK, ev_slT, ev_slS, ev_slR, ev_slK, ev_tyN, ev_tyB, ev_tyI, ev_tyS, ev_tyT, ev_tyL, ev_tyR, ev_tyRL, ev_isi, ev_isi1, ev_isi2, ev_isi3, ev_isi4, ev_isi5, ev_isiT, ev_isi2K, ev_isTy, ev_list, ev_listK, ev_tuple, ev_tupK, ev_getST, ev_getSR, ev_getSL, ev_all, ev_allK, ev_eqXI, ev_eqXS, ev_neXI, ev_neXS, ev_neXB, ev_eqXB, ev_eqXR, ev_neXR, ev_nil2, ev_eqK, ev_neK, ev_meth, ev_meth0, ev_mth1, ev_mth2, ev_mth3, ev_append, ev_m0, ev_m0K, ev_str, ev_for, ev_miR1, ev_rg1K, ev_miL, ev_liK, ev_miT, ev_tiK, ev_lc, ev_wipe0, ev_wipeS, ev_yes, ev_lenSet, ev_lenSetK, ev_listR, ev_lrK, ev_put2, ev_p2A, ev_p2K, ev_p2E, ev_put1, ev_pt1, ev_addXI, ev_addXB, ev_addXS, ev_addXT, ev_addXL, ev_subXI, ev_subXB, ev_mulXI, ev_mulXB, ev_mulXL, ev_negXI, ev_negXB, ev_strXI, ev_strXB, List.getElem?_cons_zero, List.getElem?_cons_succ, List.set_cons_zero, List.set_cons_succ, List.length_cons, List.length_nil, List.cons_append, List.nil_append, if_true, if_false, Bool.false_eq_true, Bool.true_eq_false, reduceIte, Bool.not_true, Bool.not_false, Bool.and_true, Bool.true_and, Bool.and_false, Bool.false_and, Bool.or_true, Bool.true_or, Bool.or_false, Bool.false_or, decide_eq_true_eq, Nat.reduceAdd, Nat.reduceLeDiff, Nat.zero_add, Int.reduceLT, Int.reduceLE, Int.reduceEq, Int.reduceNeg, Nat.reduceEqDiff, and_self, and_true, true_and, decide_true, decide_false, eq_self, ite_true, ite_false, Int.reduceSub, Int.reduceAdd, Int.cast_ofNat_Int, Int.natCast_add, Int.cast_ofNat_Int, Nat.reduceSub, Nat.add_assoc, String.reduceBEq, String.reduceEq, Bool.or_not_self, beq_self_eq_true, e1, hw]
      obtain ⟨x, mx, ex⟩ := pick_ev (xs := [A.int (b2i c + 1), A.int (b2i c - 1), A.int (-b2i c), A.int (b2i c * 100), A.str (blS c), A.int (b2i c + 50), A.tup [A.bl c]]) (st1 := st1) (env := [some (A.ref b), some (A.bl c), some (A.int w), none, none, none]) (k := sRet (mCall 1 m__law_odd (mCons (mVar 0) mNil))) (w := w) (by omega) (by show w - 2 < 7; omega)
      refine ⟨x, _, ex, ?_, up _, ub _⟩
      simp only [List.mem_cons, List.not_mem_nil, or_false] at mx
      rcases mx with rfl | rfl | rfl | rfl | rfl | rfl | rfl
      · exact gd_s (gs_num (by cases c <;> decide))
      · exact gd_s (gs_num (by cases c <;> decide))
      · exact gd_s (gs_num (by cases c <;> decide))
      · exact gd_s (gs_num (by cases c <;> decide))
      · exact gd_s (gs_word (by cases c <;> decide +kernel) (by cases c <;> decide))
      · exact gd_s (gs_num (by cases c <;> decide))
      · exact gd_tup (by show 1 ≤ _; omega) fun x hx => by
          rw [List.mem_singleton.mp hx]
          exact gd_s trivial
    · simp only [ev_bok, ev_bno, ev_bex, ev_tok, ev_tno, ev_tex, ev_nnx, ev_nrt, ev_nbk, ev_nct, ev_nex, ev_nno, ev_frt, ev_fnx, ev_fex, ev_xok, ev_lsome, ev_lnone, ev_seq, ev_if, ev_ret, ev_retN, ev_drop, ev_nop, ev_brk, ev_cont, ev_asgN, ev_asgT, ev_asgO, ev_mgTup, ev_mgN, ev_mgC, ev_mg0, ev_putL, ev_putO, ev_var, ev_vr, ev_c, ev_op, ev_un, ev_test, ev_tb, ev_notT, ev_andT, ev_orT, ev_ifE, ev_not, ev_nb, ev_and, ev_andK, ev_or, ev_orK, ev_chain, ev_chK, ev_nil, ev_cons, ev_tup, ev_lst, ev_new, ev_call, ev_cb, ev_size, ev_addI, ev_addS, ev_addT, ev_addL, ev_catO, ev_sub, ev_mul, ev_div, ev_mod, ev_p5, ev_p6, ev_p12, ev_p18, ev_p30, ev_neg, ev_ltI, ev_ltS, ev_leI, ev_leS, ev_gt, ev_ge, ev_eqI, ev_eqS, ev_neI, ev_neS, ev_neB, ev_eqB, ev_is, ev_isnot, ev_ixT, ev_ixS, ev_ixR, ev_ixL, ev_ixK, ev_getL, ev_getM, ev_gL, ev_gM, ev_at0, ev_at1, ev_at2, ev_at3, ev_at4, ev_lenS, ev_lenR, ev_lenT, ev_lenL, ev_lenO, ev_lenD, ev_abs, ev_min2, ev_max2, ev_intI, ev_intB, ev_set, ev_fc, ev_setset, ev_last, ev_appk, ev_app0, ev_setk, ev_set0, ev_assoc, ev_lapp, ev_lappA, ev_sl, ev_nopart, ev_part, ev_ptK, ev_slT, ev_slS, ev_slR, ev_slK, ev_tyN, ev_tyB, ev_tyI, ev_tyS, ev_tyT, ev_tyL, ev_tyR, ev_tyRL, ev_isi, ev_isi1, ev_isi2, ev_isi3, ev_isi4, ev_isi5, ev_isiT, ev_isi2K, ev_isTy, ev_list, ev_listK, ev_tuple, ev_tupK, ev_getST, ev_getSR, ev_getSL, ev_all, ev_allK, ev_eqXI, ev_eqXS, ev_neXI, ev_neXS, ev_neXB, ev_eqXB, ev_eqXR, ev_neXR, ev_nil2, ev_eqK, ev_neK, ev_meth, ev_meth0, ev_mth1, ev_mth2, ev_mth3, ev_append, ev_m0, ev_m0K, ev_str, ev_for, ev_miR1, ev_rg1K, ev_miL, ev_liK, ev_miT, ev_tiK, ev_lc, ev_wipe0, ev_wipeS, ev_yes, ev_lenSet, ev_lenSetK, ev_listR, ev_lrK, ev_put2, ev_p2A, ev_p2K, ev_p2E, ev_put1, ev_pt1, ev_addXI, ev_addXB, ev_addXS, ev_addXT, ev_addXL, ev_subXI, ev_subXB, ev_mulXI, ev_mulXB, ev_mulXL, ev_negXI, ev_negXB, ev_strXI, ev_strXB, List.getElem?_cons_zero, List.getElem?_cons_succ, List.set_cons_zero, List.set_cons_succ, List.length_cons, List.length_nil, List.cons_append, List.nil_append, if_true, if_false, Bool.false_eq_true, Bool.true_eq_false, reduceIte, Bool.not_true, Bool.not_false, Bool.and_true, Bool.true_and, Bool.and_false, Bool.false_and, Bool.or_true, Bool.true_or, Bool.or_false, Bool.false_or, decide_eq_true_eq, Nat.reduceAdd, Nat.reduceLeDiff, Nat.zero_add, Int.reduceLT, Int.reduceLE, Int.reduceEq, Int.reduceNeg, Nat.reduceEqDiff, and_self, and_true, true_and, decide_true, decide_false, eq_self, ite_true, ite_false, Int.reduceSub, Int.reduceAdd, Int.cast_ofNat_Int, Int.natCast_add, Int.cast_ofNat_Int, Nat.reduceSub, Nat.add_assoc, String.reduceBEq, String.reduceEq, Bool.or_not_self, beq_self_eq_true, e1, e2, hw]
      exact ⟨a', st', rfl, g2, o2, B2⟩
  | int i =>
    have hi : i.natAbs < 2 ^ (100 + 8 * s) := ha
    have hlog : i.natAbs.log2 < 100 + 8 * s := log_small hi (by omega)
    by_cases hw : 1 < w
    · have c1 : cMul i 100 = true := cMul_r (by decide)
      have c2 : i.natAbs.log2 < 1920 := by omega
      simp only [ev_bok, ev_bno, ev_bex, ev_tok, ev_tno, ev_tex, ev_nnx, ev_nrt, ev_nbk, ev_nct, ev_nex, ev_nno, ev_frt, ev_fnx, ev_fex, ev_xok, ev_lsome, ev_lnone, ev_seq, ev_if, ev_ret, ev_retN, ev_drop, ev_nop, ev_brk, ev_cont, ev_asgN, ev_asgT, ev_asgO, ev_mgTup, ev_mgN, ev_mgC, ev_mg0, ev_putL, ev_putO, ev_var, ev_vr, ev_c, ev_op, ev_un, ev_test, ev_tb, ev_notT, ev_andT, ev_orT, ev_ifE, ev_not, ev_nb, ev_and, ev_andK, ev_or, ev_orK, ev_chain, ev_chK, ev_nil, ev_cons, ev_tup, ev_lst, ev_new, ev_call, ev_cb, ev_size, ev_addI, ev_addS, ev_addT, ev_addL, ev_catO, ev_sub, ev_mul, ev_div, ev_mod, ev_p5, ev_p6, ev_p12, ev_p18, ev_p30, ev_neg, ev_ltI, ev_ltS, ev_leI, ev_leS, ev_gt, ev_ge, ev_eqI, ev_eqS, ev_neI, ev_neS, ev_neB, ev_eqB, ev_is, ev_isnot, ev_ixT, ev_ixS, ev_ixR, ev_ixL, ev_ixK, ev_getL, ev_getM, ev_gL, ev_gM, ev_at0, ev_at1, ev_at2, ev_at3, ev_at4, ev_lenS, ev_lenR, ev_lenT, ev_lenL, ev_lenO, ev_lenD, ev_abs, ev_min2, ev_max2, ev_intI, ev_intB, ev_set, ev_fc, ev_setset, ev_last, ev_appk, ev_app0, ev_setk, ev_set0, ev_assoc, ev_lapp, ev_lappA, ev_sl, ev_nopart, ev_part, ev_ptK, ev_slT, ev_slS, ev_slR, ev_slK, ev_tyN, ev_tyB, ev_tyI, ev_tyS, ev_tyT, ev_tyL, ev_tyR, ev_tyRL, ev_isi, ev_isi1, ev_isi2, ev_isi3, ev_isi4, ev_isi5, ev_isiT, ev_isi2K, ev_isTy, ev_list, ev_listK, ev_tuple, ev_tupK, ev_getST, ev_getSR, ev_getSL, ev_all, ev_allK, ev_eqXI, ev_eqXS, ev_neXI, ev_neXS, ev_neXB, ev_eqXB, ev_eqXR, ev_neXR, ev_nil2, ev_eqK, ev_neK, ev_meth, ev_meth0, ev_mth1, ev_mth2, ev_mth3, ev_append, ev_m0, ev_m0K, ev_str, ev_for, ev_miR1, ev_rg1K, ev_miL, ev_liK, ev_miT, ev_tiK, ev_lc, ev_wipe0, ev_wipeS, ev_yes, ev_lenSet, ev_lenSetK, ev_listR, ev_lrK, ev_put2, ev_p2A, ev_p2K, ev_p2E, ev_put1, ev_pt1, ev_addXI, ev_addXB, ev_addXS, ev_addXT, ev_addXL, ev_subXI, ev_subXB, ev_mulXI, ev_mulXB, ev_mulXL, ev_negXI, ev_negXB, ev_strXI, ev_strXB, List.getElem?_cons_zero, List.getElem?_cons_succ, List.set_cons_zero, List.set_cons_succ, List.length_cons, List.length_nil, List.cons_append, List.nil_append, if_true, if_false, Bool.false_eq_true, Bool.true_eq_false, reduceIte, Bool.not_true, Bool.not_false, Bool.and_true, Bool.true_and, Bool.and_false, Bool.false_and, Bool.or_true, Bool.true_or, Bool.or_false, Bool.false_or, decide_eq_true_eq, Nat.reduceAdd, Nat.reduceLeDiff, Nat.zero_add, Int.reduceLT, Int.reduceLE, Int.reduceEq, Int.reduceNeg, Nat.reduceEqDiff, and_self, and_true, true_and, decide_true, decide_false, eq_self, ite_true, ite_false, Int.reduceSub, Int.reduceAdd, Int.cast_ofNat_Int, Int.natCast_add, Int.cast_ofNat_Int, Nat.reduceSub, Nat.add_assoc, String.reduceBEq, String.reduceEq, Bool.or_not_self, beq_self_eq_true, e1, hw, c1, c2]
      obtain ⟨x, mx, ex⟩ := pick_ev (xs := [A.int (i + 1), A.int (i - 1), A.int (-i), A.int (i * 100), A.str (toString i : String), A.int (i + 50), A.tup [A.int i]]) (st1 := st1) (env := [some (A.ref b), some (A.int i), some (A.int w), none, none, none]) (k := sRet (mCall 1 m__law_odd (mCons (mVar 0) mNil))) (w := w) (by omega) (by show w - 2 < 7; omega)
      refine ⟨x, _, ex, ?_, up _, ub _⟩
      simp only [List.mem_cons, List.not_mem_nil, or_false] at mx
      rcases mx with rfl | rfl | rfl | rfl | rfl | rfl | rfl
      · exact gd_s (gs_int hi (by omega))
      · exact gd_s (gs_int hi (by omega))
      · exact gd_s (gs_int hi (by omega))
      · exact gd_s (gs_int hi (by omega))
      · refine gd_s ⟨asc_num i, ?_⟩
        have h1 := int_text_length_le (a := i) (k := 100 + 8 * s) (by omega) hlog
        rw [PySem.ofString_length]
        have : 4 ≤ 4 ^ (s + 1) := by rw [Nat.pow_succ]; have : 1 ≤ 4 ^ s := Nat.pow_pos (by decide); omega
        omega
      · exact gd_s (gs_int hi (by omega))
      · exact gd_tup (by show 1 ≤ _; omega) fun x hx => by
          rw [List.mem_singleton.mp hx]
          exact gd_up (gd_s (show gs s (.int i) from hi))
    · simp only [ev_bok, ev_bno, ev_bex, ev_tok, ev_tno, ev_tex, ev_nnx, ev_nrt, ev_nbk, ev_nct, ev_nex, ev_nno, ev_frt, ev_fnx, ev_fex, ev_xok, ev_lsome, ev_lnone, ev_seq, ev_if, ev_ret, ev_retN, ev_drop, ev_nop, ev_brk, ev_cont, ev_asgN, ev_asgT, ev_asgO, ev_mgTup, ev_mgN, ev_mgC, ev_mg0, ev_putL, ev_putO, ev_var, ev_vr, ev_c, ev_op, ev_un, ev_test, ev_tb, ev_notT, ev_andT, ev_orT, ev_ifE, ev_not, ev_nb, ev_and, ev_andK, ev_or, ev_orK, ev_chain, ev_chK, ev_nil, ev_cons, ev_tup, ev_lst, ev_new, ev_call, ev_cb, ev_size, ev_addI, ev_addS, ev_addT, ev_addL, ev_catO, ev_sub, ev_mul, ev_div, ev_mod, ev_p5, ev_p6, ev_p12, ev_p18, ev_p30, ev_neg, ev_ltI, ev_ltS, ev_leI, ev_leS, ev_gt, ev_ge, ev_eqI, ev_eqS, ev_neI, ev_neS, ev_neB, ev_eqB, ev_is, ev_isnot, ev_ixT, ev_ixS, ev_ixR, ev_ixL, ev_ixK, ev_getL, ev_getM, ev_gL, ev_gM, ev_at0, ev_at1, ev_at2, ev_at3, ev_at4, ev_lenS, ev_lenR, ev_lenT, ev_lenL, ev_lenO, ev_lenD, ev_abs, ev_min2, ev_max2, ev_intI, ev_intB, ev_set, ev_fc, ev_setset, ev_last, ev_appk, ev_app0, ev_setk, ev_set0, ev_assoc, ev_lapp, ev_lappA, ev_sl, ev_nopart, ev_part, ev_ptK, ev_slT, ev_slS, ev_slR, ev_slK, ev_tyN, ev_tyB, ev_tyI, ev_tyS, ev_tyT, ev_tyL, ev_tyR, ev_tyRL, ev_isi, ev_isi1, ev_isi2, ev_isi3, ev_isi4, ev_isi5, ev_isiT, ev_isi2K, ev_isTy, ev_list, ev_listK, ev_tuple, ev_tupK, ev_getST, ev_getSR, ev_getSL, ev_all, ev_allK, ev_eqXI, ev_eqXS, ev_neXI, ev_neXS, ev_neXB, ev_eqXB, ev_eqXR, ev_neXR, ev_nil2, ev_eqK, ev_neK, ev_meth, ev_meth0, ev_mth1, ev_mth2, ev_mth3, ev_append, ev_m0, ev_m0K, ev_str, ev_for, ev_miR1, ev_rg1K, ev_miL, ev_liK, ev_miT, ev_tiK, ev_lc, ev_wipe0, ev_wipeS, ev_yes, ev_lenSet, ev_lenSetK, ev_listR, ev_lrK, ev_put2, ev_p2A, ev_p2K, ev_p2E, ev_put1, ev_pt1, ev_addXI, ev_addXB, ev_addXS, ev_addXT, ev_addXL, ev_subXI, ev_subXB, ev_mulXI, ev_mulXB, ev_mulXL, ev_negXI, ev_negXB, ev_strXI, ev_strXB, List.getElem?_cons_zero, List.getElem?_cons_succ, List.set_cons_zero, List.set_cons_succ, List.length_cons, List.length_nil, List.cons_append, List.nil_append, if_true, if_false, Bool.false_eq_true, Bool.true_eq_false, reduceIte, Bool.not_true, Bool.not_false, Bool.and_true, Bool.true_and, Bool.and_false, Bool.false_and, Bool.or_true, Bool.true_or, Bool.or_false, Bool.false_or, decide_eq_true_eq, Nat.reduceAdd, Nat.reduceLeDiff, Nat.zero_add, Int.reduceLT, Int.reduceLE, Int.reduceEq, Int.reduceNeg, Nat.reduceEqDiff, and_self, and_true, true_and, decide_true, decide_false, eq_self, ite_true, ite_false, Int.reduceSub, Int.reduceAdd, Int.cast_ofNat_Int, Int.natCast_add, Int.cast_ofNat_Int, Nat.reduceSub, Nat.add_assoc, String.reduceBEq, String.reduceEq, Bool.or_not_self, beq_self_eq_true, e1, e2, hw]
      exact ⟨a', st', rfl, g2, o2, B2⟩
  | str x =>
    obtain ⟨hx, hxl⟩ := ha
    have hP : 4 ^ s ≤ 65536 := Nat.le_trans (Nat.pow_le_pow_right (by decide) hs) (by decide)
    have hl : x.length ≤ 4194304 := by omega
    by_cases hw : 1 < w
    · have la : ("a" : Str).length = 1 := by decide
      have lb : (" " : Str).length = 1 := by decide
      have lz : ("z" : Str).length = 1 := by decide
      have c1 : x.length + ("a" : Str).length ≤ 16777216 := by omega
      have c2 : x.length + (" " : Str).length ≤ 16777216 := by omega
      have c3 : x.length + x.length ≤ 16777216 := by omega
      have c4 : ("z" : Str).length + x.length ≤ 16777216 := by omega
      have c5 : x.length ≤ 5592405 := by omega
      have c6 : x.length ≤ 16777216 := by omega
      simp only [ev_bok, ev_bno, ev_bex, ev_tok, ev_tno, ev_tex, ev_nnx, ev_nrt, ev_nbk, ev_nct, ev_nex, ev_nno, ev_frt, ev_fnx, ev_fex, ev_xok, ev_lsome, ev_lnone, ev_seq, ev_if, ev_ret, ev_retN, ev_drop, ev_nop, ev_brk, ev_cont, ev_asgN, ev_asgT, ev_asgO, ev_mgTup, ev_mgN, ev_mgC, ev_mg0, ev_putL, ev_putO, ev_var, ev_vr, ev_c, ev_op, ev_un, ev_test, ev_tb, ev_notT, ev_andT, ev_orT, ev_ifE, ev_not, ev_nb, ev_and, ev_andK, ev_or, ev_orK, ev_chain, ev_chK, ev_nil, ev_cons, ev_tup, ev_lst, ev_new, ev_call, ev_cb, ev_size, ev_addI, ev_addS, ev_addT, ev_addL, ev_catO, ev_sub, ev_mul, ev_div, ev_mod, ev_p5, ev_p6, ev_p12, ev_p18, ev_p30, ev_neg, ev_ltI, ev_ltS, ev_leI, ev_leS, ev_gt, ev_ge, ev_eqI, ev_eqS, ev_neI, ev_neS, ev_neB, ev_eqB, ev_is, ev_isnot, ev_ixT, ev_ixS, ev_ixR, ev_ixL, ev_ixK, ev_getL, ev_getM, ev_gL, ev_gM, ev_at0, ev_at1, ev_at2, ev_at3, ev_at4, ev_lenS, ev_lenR, ev_lenT, ev_lenL, ev_lenO, ev_lenD, ev_abs, ev_min2, ev_max2, ev_intI, ev_intB, ev_set, ev_fc, ev_setset, ev_last, ev_appk, ev_app0, ev_setk, ev_set0, ev_assoc, ev_lapp, ev_lappA, ev_sl, ev_nopart, ev_part, ev_ptK, ev_slT, ev_slS, ev_slR, ev_slK, ev_tyN, ev_tyB, ev_tyI, ev_tyS, ev_tyT, ev_tyL, ev_tyR, ev_tyRL, ev_isi, ev_isi1, ev_isi2, ev_isi3, ev_isi4, ev_isi5, ev_isiT, ev_isi2K, ev_isTy, ev_list, ev_listK, ev_tuple, ev_tupK, ev_getST, ev_getSR, ev_getSL, ev_all, ev_allK, ev_eqXI, ev_eqXS, ev_neXI, ev_neXS, ev_neXB, ev_eqXB, ev_eqXR, ev_neXR, ev_nil2, ev_eqK, ev_neK, ev_meth, ev_meth0, ev_mth1, ev_mth2, ev_mth3, ev_append, ev_m0, ev_m0K, ev_str, ev_for, ev_miR1, ev_rg1K, ev_miL, ev_liK, ev_miT, ev_tiK, ev_lc, ev_wipe0, ev_wipeS, ev_yes, ev_lenSet, ev_lenSetK, ev_listR, ev_lrK, ev_put2, ev_p2A, ev_p2K, ev_p2E, ev_put1, ev_pt1, ev_addXI, ev_addXB, ev_addXS, ev_addXT, ev_addXL, ev_subXI, ev_subXB, ev_mulXI, ev_mulXB, ev_mulXL, ev_negXI, ev_negXB, ev_strXI, ev_strXB, List.getElem?_cons_zero, List.getElem?_cons_succ, List.set_cons_zero, List.set_cons_succ, List.length_cons, List.length_nil, List.cons_append, List.nil_append, if_true, if_false, Bool.false_eq_true, Bool.true_eq_false, reduceIte, Bool.not_true, Bool.not_false, Bool.and_true, Bool.true_and, Bool.and_false, Bool.false_and, Bool.or_true, Bool.true_or, Bool.or_false, Bool.false_or, decide_eq_true_eq, Nat.reduceAdd, Nat.reduceLeDiff, Nat.zero_add, Int.reduceLT, Int.reduceLE, Int.reduceEq, Int.reduceNeg, Nat.reduceEqDiff, and_self, and_true, true_and, decide_true, decide_false, eq_self, ite_true, ite_false, Int.reduceSub, Int.reduceAdd, Int.cast_ofNat_Int, Int.natCast_add, Int.cast_ofNat_Int, Nat.reduceSub, Nat.add_assoc, String.reduceBEq, String.reduceEq, Bool.or_not_self, beq_self_eq_true, e1, hw, c1, c2, c3, c4, c5, c6]
      obtain ⟨y, my, ey⟩ := pick_ev (xs := [A.str (x ++ "a"), A.str (cutS x none (some (-1))), A.str (x ++ " "), A.str (Txt.upper x), A.str (x ++ x), A.str ("z" ++ x), A.str ""]) (st1 := st1) (env := [some (A.ref b), some (A.str x), some (A.int w), none, none, none]) (k := sSeq (sIf (mAndT (mTest (mCB oIsi (mCons (mVar 1) (mCons (mC (.ty "int")) mNil)))) (mTest (mOp oGt (mVar 2) (mC (.int 1))))) (sRet (mOp oIxD (mLst (mCons (mOp oAddX (mVar 1) (mC (.int 1))) (mCons (mOp oSubX (mVar 1) (mC (.int 1))) (mCons (mUn oNegX (mVar 1)) (mCons (mOp oMulX (mVar 1) (mC (.int 100))) (mCons (mCB oStrX (mCons (mVar 1) mNil)) (mCons (mOp oAddX (mVar 1) (mC (.int 50))) (mCons (mTup (mCons (mVar 1) mNil)) mNil)))))))) (mOp oSubX (mVar 2) (mC (.int 2))))) sNext) (sRet (mCall 1 m__law_odd (mCons (mVar 0) mNil)))) (w := w) (by omega) (by show w - 2 < 7; omega)
      refine ⟨y, _, ey, ?_, up _, ub _⟩
      simp only [List.mem_cons, List.not_mem_nil, or_false] at my
      rcases my with rfl | rfl | rfl | rfl | rfl | rfl | rfl
      · exact gd_s (gs_text hxl (asc_app hx (by decide +kernel)) (by rw [len_app]; omega))
      · exact gd_s (gs_text hxl (asc_cut hx _ _) (by have := len_cut x none (some (-1)); omega))
      · exact gd_s (gs_text hxl (asc_app hx (by decide +kernel)) (by rw [len_app]; omega))
      · exact gd_s (gs_text hxl (asc_upper hx) (by have := len_upper x; omega))
      · exact gd_s (gs_text hxl (asc_app hx hx) (by rw [len_app]; omega))
      · exact gd_s (gs_text hxl (asc_app (by decide +kernel) hx) (by rw [len_app]; omega))
      · exact gd_s (gs_word (by decide +kernel) (by decide))
    · simp only [ev_bok, ev_bno, ev_bex, ev_tok, ev_tno, ev_tex, ev_nnx, ev_nrt, ev_nbk, ev_nct, ev_nex, ev_nno, ev_frt, ev_fnx, ev_fex, ev_xok, ev_lsome, ev_lnone, ev_seq, ev_if, ev_ret, ev_retN, ev_drop, ev_nop, ev_brk, ev_cont, ev_asgN, ev_asgT, ev_asgO, ev_mgTup, ev_mgN, ev_mgC, ev_mg0, ev_putL, ev_putO, ev_var, ev_vr, ev_c, ev_op, ev_un, ev_test, ev_tb, ev_notT, ev_andT, ev_orT, ev_ifE, ev_not, ev_nb, ev_and, ev_andK, ev_or, ev_orK, ev_chain, ev_chK, ev_nil, ev_cons, ev_tup, ev_lst, ev_new, ev_call, ev_cb, ev_size, ev_addI, ev_addS, ev_addT, ev_addL, ev_catO, ev_sub, ev_mul, ev_div, ev_mod, ev_p5, ev_p6, ev_p12, ev_p18, ev_p30, ev_neg, ev_ltI, ev_ltS, ev_leI, ev_leS, ev_gt, ev_ge, ev_eqI, ev_eqS, ev_neI, ev_neS, ev_neB, ev_eqB, ev_is, ev_isnot, ev_ixT, ev_ixS, ev_ixR, ev_ixL, ev_ixK, ev_getL, ev_getM, ev_gL, ev_gM, ev_at0, ev_at1, ev_at2, ev_at3, ev_at4, ev_lenS, ev_lenR, ev_lenT, ev_lenL, ev_lenO, ev_lenD, ev_abs, ev_min2, ev_max2, ev_intI, ev_intB, ev_set, ev_fc, ev_setset, ev_last, ev_appk, ev_app0, ev_setk, ev_set0, ev_assoc, ev_lapp, ev_lappA, ev_sl, ev_nopart, ev_part, ev_ptK, ev_slT, ev_slS, ev_slR, ev_slK, ev_tyN, ev_tyB, ev_tyI, ev_tyS, ev_tyT, ev_tyL, ev_tyR, ev_tyRL, ev_isi, ev_isi1, ev_isi2, ev_isi3, ev_isi4, ev_isi5, ev_isiT, ev_isi2K, ev_isTy, ev_list, ev_listK, ev_tuple, ev_tupK, ev_getST, ev_getSR, ev_getSL, ev_all, ev_allK, ev_eqXI, ev_eqXS, ev_neXI, ev_neXS, ev_neXB, ev_eqXB, ev_eqXR, ev_neXR, ev_nil2, ev_eqK, ev_neK, ev_meth, ev_meth0, ev_mth1, ev_mth2, ev_mth3, ev_append, ev_m0, ev_m0K, ev_str, ev_for, ev_miR1, ev_rg1K, ev_miL, ev_liK, ev_miT, ev_tiK, ev_lc, ev_wipe0, ev_wipeS, ev_yes, ev_lenSet, ev_lenSetK, ev_listR, ev_lrK, ev_put2, ev_p2A, ev_p2K, ev_p2E, ev_put1, ev_pt1, ev_addXI, ev_addXB, ev_addXS, ev_addXT, ev_addXL, ev_subXI, ev_subXB, ev_mulXI, ev_mulXB, ev_mulXL, ev_negXI, ev_negXB, ev_strXI, ev_strXB, List.getElem?_cons_zero, List.getElem?_cons_succ, List.set_cons_zero, List.set_cons_succ, List.length_cons, List.length_nil, List.cons_append, List.nil_append, if_true, if_false, Bool.false_eq_true, Bool.true_eq_false, reduceIte, Bool.not_true, Bool.not_false, Bool.and_true, Bool.true_and, Bool.and_false, Bool.false_and, Bool.or_true, Bool.true_or, Bool.or_false, Bool.false_or, decide_eq_true_eq, Nat.reduceAdd, Nat.reduceLeDiff, Nat.zero_add, Int.reduceLT, Int.reduceLE, Int.reduceEq, Int.reduceNeg, Nat.reduceEqDiff, and_self, and_true, true_and, decide_true, decide_false, eq_self, ite_true, ite_false, Int.reduceSub, Int.reduceAdd, Int.cast_ofNat_Int, Int.natCast_add, Int.cast_ofNat_Int, Nat.reduceSub, Nat.add_assoc, String.reduceBEq, String.reduceEq, Bool.or_not_self, beq_self_eq_true, e1, e2, hw]
      exact ⟨a', st', rfl, g2, o2, B2⟩
  | _ => exact ha.elim
theorem fin_seq {S : Sto} {E : Nat → Prop} {s d n : Nat} {ys : List A} {tt : Bool} (nb : ¬ E n) (e : S[n]? = some (.lst ys)) (h : ys.length ≤ 71 + s) (hy : ∀ y ∈ ys, gd S E (s + 1) (d + 2) y) : gd S E (s + 1) (d + 3) (if tt = true then .tup ys else .ref n) := by
  cases tt with
  | true => exact gd_tup (by omega) hy
  | false => exact gd_ref nb e (by omega) hy
theorem spoilt_seq {d f : Nat} {st : Sto} {b s : Nat} {E : Nat → Prop} {a : A} {xs : List A} {T : String} {tt : Bool} (hE : E b) (hEb : ∀ n, E n → n < st.length) (hB : BagAt st b) (hs : s ≤ 8) (t1 : isTy T "tuple" = tt) (t2 : isTy T "list" = !tt) (t3 : isTy T "str" = false) (t4 : isTy T "int" = false)
    (hf : ∀ st2, Old b st st2 → tyA st2 a = some T ∧ getS st2 a = some xs ∧ oLen [a] st2 = .ok (.int xs.length) st2) (hx : ∀ x ∈ xs, gd st E s d x) (hl : xs.length ≤ 70 + s)
    (ih : ∀ {st : Sto} {b s : Nat} {E : Nat → Prop} {a : A}, E b → (∀ n, E n → n < st.length) → BagAt st b → s ≤ 8 → gd st E s d a → ∃ a' st', r__law_spoilt (f + 1) [.ref b, a] st = .ok a' st' ∧ gd st' E (s + 1) (d + 2) a' ∧ Old b st st' ∧ BagAt st' b) :
    ∃ a' st', r__law_spoilt (f + 2) [.ref b, a] st = .ok a' st' ∧ gd st' E (s + 1) (d + 3) a' ∧ Old b st st' ∧ BagAt st' b := by
  obtain ⟨w, st1, e1, w0, w1, o1, B1, l1⟩ := take_ev (m := 9) hB (by decide) (by decide)
  obtain ⟨f1, f2, f3⟩ := hf st1 o1
  have odd : ∃ a' st', m__law_odd [.ref b] st1 = .ok a' st' ∧ gd st' E (s + 1) (d + 3) a' ∧ Old b st st' ∧ BagAt st' b := by
    obtain ⟨a', st', e2, g2, o2, B2⟩ := odd_ev hE (fun n z => by have := hEb n z; have := o1.le; omega) B1
    exact ⟨a', st', e2, gd_ups (gd_deeps g2 (by omega)) (by omega), o1.trans o2, B2⟩
  rw [st__law_spoilt]
  unfold b__law_spoilt
  by_cases hn : xs = []
  · subst hn
    obtain ⟨a', st', e2, r2⟩ := odd
    simp only [ev_bok, ev_bno, ev_bex, ev_tok, ev_tno, ev_tex, ev_nnx, ev_nrt, ev_nbk, ev_nct, ev_nex, ev_nno, ev_frt, ev_fnx, ev_fex, ev_xok, ev_lsome, ev_lnone, ev_seq, ev_if, ev_ret, ev_retN, ev_drop, ev_nop, ev_brk, ev_cont, ev_asgN, ev_asgT, ev_asgO, ev_mgTup, ev_mgN, ev_mgC, ev_mg0, ev_putL, ev_putO, ev_var, ev_vr, ev_c, ev_op, ev_un, ev_test, ev_tb, ev_notT, ev_andT, ev_orT, ev_ifE, ev_not, ev_nb, ev_and, ev_andK, ev_or, ev_orK, ev_chain, ev_chK, ev_nil, ev_cons, ev_tup, ev_lst, ev_new, ev_call, ev_cb, ev_size, ev_addI, ev_addS, ev_addT, ev_addL, ev_catO, ev_sub, ev_mul, ev_div, ev_mod, ev_p5, ev_p6, ev_p12, ev_p18, ev_p30, ev_neg, ev_ltI, ev_ltS, ev_leI, ev_leS, ev_gt, ev_ge, ev_eqI, ev_eqS, ev_neI, ev_neS, ev_neB, ev_eqB, ev_is, ev_isnot, ev_ixT, ev_ixS, ev_ixR, ev_ixL, ev_ixK, ev_getL, ev_getM, ev_gL, ev_gM, ev_at0, ev_at1, ev_at2, ev_at3, ev_at4, ev_lenS, ev_lenR, ev_lenT, ev_lenL, ev_lenO, ev_lenD, ev_abs, ev_min2, ev_max2, ev_intI, ev_intB, ev_set, ev_fc, ev_setset, ev_last, ev_appk, ev_app0, ev_setk, ev_set0, ev_assoc, ev_lapp, ev_lappA, ev_sl, ev_nopart, ev_part, ev_ptK, ev_slT, ev_slS, ev_slR, ev_slK, ev_tyN, ev_tyB, ev_tyI, ev_tyS, ev_tyT, ev_tyL, ev_tyR, ev_tyRL, ev_isi, ev_isi1, ev_isi2, ev_isi3, ev_isi4, ev_isi5, ev_isiT, ev_isi2K, ev_list, ev_listK, ev_tuple, ev_tupK, ev_getST, ev_getSR, ev_getSL, ev_all, ev_allK, ev_eqXI, ev_eqXS, ev_neXI, ev_neXS, ev_neXB, ev_eqXB, ev_eqXR, ev_neXR, ev_nil2, ev_eqK, ev_neK, ev_meth, ev_meth0, ev_mth1, ev_mth2, ev_mth3, ev_append, ev_m0, ev_m0K, ev_str, ev_for, ev_miR1, ev_rg1K, ev_miL, ev_liK, ev_miT, ev_tiK, ev_lc, ev_wipe0, ev_wipeS, ev_yes, ev_lenSet, ev_lenSetK, ev_listR, ev_lrK, ev_put2, ev_p2A, ev_p2K, ev_p2E, ev_put1, ev_pt1, ev_addXI, ev_addXB, ev_addXS, ev_addXT, ev_addXL, ev_subXI, ev_subXB, ev_mulXI, ev_mulXB, ev_mulXL, ev_negXI, ev_negXB, ev_strXI, ev_strXB, List.getElem?_cons_zero, List.getElem?_cons_succ, List.set_cons_zero, List.set_cons_succ, List.length_cons, List.length_nil, List.cons_append, List.nil_append, if_true, if_false, Bool.false_eq_true, Bool.true_eq_false, reduceIte, Bool.not_true, Bool.not_false, Bool.and_true, Bool.true_and, Bool.and_false, Bool.false_and, Bool.or_true, Bool.true_or, Bool.or_false, Bool.false_or, decide_eq_true_eq, Nat.reduceAdd, Nat.reduceLeDiff, Nat.zero_add, Int.reduceLT, Int.reduceLE, Int.reduceEq, Int.reduceNeg, Nat.reduceEqDiff, and_self, and_true, true_and, decide_true, decide_false, eq_self, ite_true, ite_false, Int.reduceSub, Int.reduceAdd, Int.cast_ofNat_Int, Int.natCast_add, Int.cast_ofNat_Int, Nat.reduceSub, Nat.add_assoc, String.reduceBEq, String.reduceEq, Bool.or_not_self, beq_self_eq_true, e1, f1, f2, f3, t1, t2, t3, t4, e2, Int.lt_irrefl]
    exact ⟨a', st', rfl, r2⟩
  · by_cases hw : 0 < w
    · have pos : (0 : Int) < (xs.length : Nat) := by
        have := List.length_pos_iff.mpr hn
        omega
      have hb := hB.lt
      obtain ⟨p, st2, e2, p0, p1, o2, B2, l2⟩ := take_ev (st := st1 ++ [.lst xs]) (m := (xs.length : Nat)) (B1.apps _) pos (by omega)
      have eR : st2[st1.length]? = some (.lst xs) := o2.get ev_last (by omega)
      have o12 : Old b st st2 := o1.trans ((Old.apps b st1 _).trans o2)
      have l12 : st2.length = st1.length + 1 := by rw [l2, List.length_append]; rfl
      have hty : ∀ l, tyA (st2 ++ l) a = some T := fun l => (hf _ (o12.trans (Old.apps b st2 l))).1
      obtain ⟨k, hk, ek⟩ : ∃ k : Nat, k < xs.length ∧ p = (k : Int) := ⟨p.toNat, by omega, by omega⟩
      subst ek
      obtain ⟨xk, ak, mk, gk⟩ := at_pick (xs := xs) p0 p1
      have up : ∀ {S : Sto} {y : A}, Old b st S → y ∈ xs → gd S E (s + 1) (d + 2) y := fun o hy => gd_old hE o (gd_deeps (gd_up (hx _ hy)) (by omega))
      have eRl : ∀ l, (st2 ++ l)[st1.length]? = some (.lst xs) := fun l => by rw [List.getElem?_append_left (by omega)]; exact eR
      have nE : ∀ n, st.length ≤ n → ¬ E n := fun n hn z => by have := hEb n z; omega
      by_cases h1 : w = 1
      · subst h1
        have c1 : cutA xs none (some (k : Int)) = xs.take k := cutA_to xs p0
        have c2 : cutA xs (some ((k : Int) + 1)) none = xs.drop (k + 1) := cutA_from xs (by omega)
        have c3 : (xs.take k).length + (xs.drop (k + 1)).length ≤ 16777216 := by rw [List.length_take, List.length_drop]; omega
        cases tt <;> simp only [ev_bok, ev_bno, ev_bex, ev_tok, ev_tno, ev_tex, ev_nnx, ev_nrt, ev_nbk, ev_nct, ev_nex, ev_nno, ev_frt, ev_fnx, ev_fex, ev_xok, ev_lsome, ev_lnone, ev_seq, ev_if, ev_ret, ev_retN, ev_drop, ev_nop, ev_brk, ev_cont, ev_asgN, ev_asgT, ev_asgO, ev_mgTup, ev_mgN, ev_mgC, ev_mg0, ev_putL, ev_putO, ev_var, ev_vr, ev_c, ev_op, ev_un, ev_test, ev_tb, ev_notT, ev_andT, ev_orT, ev_ifE, ev_not, ev_nb, ev_and, ev_andK, ev_or, ev_orK, ev_chain, ev_chK, ev_nil, ev_cons, ev_tup, ev_lst, ev_new, ev_call, ev_cb, ev_size, ev_addI, ev_addS, ev_addT, ev_addL, ev_catO, ev_sub, ev_mul, ev_div, ev_mod, ev_p5, ev_p6, ev_p12, ev_p18, ev_p30, ev_neg, ev_ltI, ev_ltS, ev_leI, ev_leS, ev_gt, ev_ge, ev_eqI, ev_eqS, ev_neI, ev_neS, ev_neB, ev_eqB, ev_is, ev_isnot, ev_ixT, ev_ixS, ev_ixR, ev_ixL, ev_ixK, ev_getL, ev_getM, ev_gL, ev_gM, ev_at0, ev_at1, ev_at2, ev_at3, ev_at4, ev_lenS, ev_lenR, ev_lenT, ev_lenL, ev_lenO, ev_lenD, ev_abs, ev_min2, ev_max2, ev_intI, ev_intB, ev_set, ev_fc, ev_setset, ev_last, ev_appk, ev_app0, ev_setk, ev_set0, ev_assoc, ev_lapp, ev_lappA, ev_sl, ev_nopart, ev_part, ev_ptK, ev_slT, ev_slS, ev_slR, ev_slK, ev_tyN, ev_tyB, ev_tyI, ev_tyS, ev_tyT, ev_tyL, ev_tyR, ev_tyRL, ev_isi, ev_isi1, ev_isi2, ev_isi3, ev_isi4, ev_isi5, ev_isiT, ev_isi2K, ev_list, ev_listK, ev_tuple, ev_tupK, ev_getST, ev_getSR, ev_getSL, ev_all, ev_allK, ev_eqXI, ev_eqXS, ev_neXI, ev_neXS, ev_neXB, ev_eqXB, ev_eqXR, ev_neXR, ev_nil2, ev_eqK, ev_neK, ev_meth, ev_meth0, ev_mth1, ev_mth2, ev_mth3, ev_append, ev_m0, ev_m0K, ev_str, ev_for, ev_miR1, ev_rg1K, ev_miL, ev_liK, ev_miT, ev_tiK, ev_lc, ev_wipe0, ev_wipeS, ev_yes, ev_lenSet, ev_lenSetK, ev_listR, ev_lrK, ev_put2, ev_p2A, ev_p2K, ev_p2E, ev_put1, ev_pt1, ev_addXI, ev_addXB, ev_addXS, ev_addXT, ev_addXL, ev_subXI, ev_subXB, ev_mulXI, ev_mulXB, ev_mulXL, ev_negXI, ev_negXB, ev_strXI, ev_strXB, List.getElem?_cons_zero, List.getElem?_cons_succ, List.set_cons_zero, List.set_cons_succ, List.length_cons, List.length_nil, List.cons_append, List.nil_append, if_true, if_false, Bool.false_eq_true, Bool.true_eq_false, reduceIte, Bool.not_true, Bool.not_false, Bool.and_true, Bool.true_and, Bool.and_false, Bool.false_and, Bool.or_true, Bool.true_or, Bool.or_false, Bool.false_or, decide_eq_true_eq, Nat.reduceAdd, Nat.reduceLeDiff, Nat.zero_add, Int.reduceLT, Int.reduceLE, Int.reduceEq, Int.reduceNeg, Nat.reduceEqDiff, and_self, and_true, true_and, decide_true, decide_false, eq_self, ite_true, ite_false, Int.reduceSub, Int.reduceAdd, Int.cast_ofNat_Int, Int.natCast_add, Int.cast_ofNat_Int, Nat.reduceSub, Nat.add_assoc, String.reduceBEq, String.reduceEq, Bool.or_not_self, beq_self_eq_true, e1, f1, f2, f3, t1, t2, t3, t4, pos, e2, eR, eRl, c1, c2, c3, hty]
        · refine ⟨_, _, rfl, ?_, o12.trans (Old.apps _ _ _), B2.apps _⟩
          exact gd_ref (xs := xs.take k ++ xs.drop (k + 1)) (nE _ (by omega)) ev_appk (by rw [List.length_append, List.length_take, List.length_drop]; omega) fun y hy => up (o12.trans (Old.apps _ _ _)) (mem_erase1 hy)
        · refine ⟨_, _, rfl, ?_, o12.trans (Old.apps _ _ _), B2.apps _⟩
          exact gd_tup (by rw [List.length_append, List.length_take, List.length_drop]; omega) fun y hy => up (o12.trans (Old.apps _ _ _)) (mem_erase1 hy)
      by_cases h2 : w = 2
      · subst h2
        have c1 : cutA xs none (some ((k : Int) + 1)) = xs.take (k + 1) := cutA_to xs (by omega)
        have c2 : cutA xs (some (k : Int)) none = xs.drop k := cutA_from xs p0
        have c3 : (xs.take (k + 1)).length + (xs.drop k).length ≤ 16777216 := by rw [List.length_take, List.length_drop]; omega
        cases tt <;> simp only [ev_bok, ev_bno, ev_bex, ev_tok, ev_tno, ev_tex, ev_nnx, ev_nrt, ev_nbk, ev_nct, ev_nex, ev_nno, ev_frt, ev_fnx, ev_fex, ev_xok, ev_lsome, ev_lnone, ev_seq, ev_if, ev_ret, ev_retN, ev_drop, ev_nop, ev_brk, ev_cont, ev_asgN, ev_asgT, ev_asgO, ev_mgTup, ev_mgN, ev_mgC, ev_mg0, ev_putL, ev_putO, ev_var, ev_vr, ev_c, ev_op, ev_un, ev_test, ev_tb, ev_notT, ev_andT, ev_orT, ev_ifE, ev_not, ev_nb, ev_and, ev_andK, ev_or, ev_orK, ev_chain, ev_chK, ev_nil, ev_cons, ev_tup, ev_lst, ev_new, ev_call, ev_cb, ev_size, ev_addI, ev_addS, ev_addT, ev_addL, ev_catO, ev_sub, ev_mul, ev_div, ev_mod, ev_p5, ev_p6, ev_p12, ev_p18, ev_p30, ev_neg, ev_ltI, ev_ltS, ev_leI, ev_leS, ev_gt, ev_ge, ev_eqI, ev_eqS, ev_neI, ev_neS, ev_neB, ev_eqB, ev_is, ev_isnot, ev_ixT, ev_ixS, ev_ixR, ev_ixL, ev_ixK, ev_getL, ev_getM, ev_gL, ev_gM, ev_at0, ev_at1, ev_at2, ev_at3, ev_at4, ev_lenS, ev_lenR, ev_lenT, ev_lenL, ev_lenO, ev_lenD, ev_abs, ev_min2, ev_max2, ev_intI, ev_intB, ev_set, ev_fc, ev_setset, ev_last, ev_appk, ev_app0, ev_setk, ev_set0, ev_assoc, ev_lapp, ev_lappA, ev_sl, ev_nopart, ev_part, ev_ptK, ev_slT, ev_slS, ev_slR, ev_slK, ev_tyN, ev_tyB, ev_tyI, ev_tyS, ev_tyT, ev_tyL, ev_tyR, ev_tyRL, ev_isi, ev_isi1, ev_isi2, ev_isi3, ev_isi4, ev_isi5, ev_isiT, ev_isi2K, ev_list, ev_listK, ev_tuple, ev_tupK, ev_getST, ev_getSR, ev_getSL, ev_all, ev_allK, ev_eqXI, ev_eqXS, ev_neXI, ev_neXS, ev_neXB, ev_eqXB, ev_eqXR, ev_neXR, ev_nil2, ev_eqK, ev_neK, ev_meth, ev_meth0, ev_mth1, ev_mth2, ev_mth3, ev_append, ev_m0, ev_m0K, ev_str, ev_for, ev_miR1, ev_rg1K, ev_miL, ev_liK, ev_miT, ev_tiK, ev_lc, ev_wipe0, ev_wipeS, ev_yes, ev_lenSet, ev_lenSetK, ev_listR, ev_lrK, ev_put2, ev_p2A, ev_p2K, ev_p2E, ev_put1, ev_pt1, ev_addXI, ev_addXB, ev_addXS, ev_addXT, ev_addXL, ev_subXI, ev_subXB, ev_mulXI, ev_mulXB, ev_mulXL, ev_negXI, ev_negXB, ev_strXI, ev_strXB, List.getElem?_cons_zero, List.getElem?_cons_succ, List.set_cons_zero, List.set_cons_succ, List.length_cons, List.length_nil, List.cons_append, List.nil_append, if_true, if_false, Bool.false_eq_true, Bool.true_eq_false, reduceIte, Bool.not_true, Bool.not_false, Bool.and_true, Bool.true_and, Bool.and_false, Bool.false_and, Bool.or_true, Bool.true_or, Bool.or_false, Bool.false_or, decide_eq_true_eq, Nat.reduceAdd, Nat.reduceLeDiff, Nat.zero_add, Int.reduceLT, Int.reduceLE, Int.reduceEq, Int.reduceNeg, Nat.reduceEqDiff, and_self, and_true, true_and, decide_true, decide_false, eq_self, ite_true, ite_false, Int.reduceSub, Int.reduceAdd, Int.cast_ofNat_Int, Int.natCast_add, Int.cast_ofNat_Int, Nat.reduceSub, Nat.add_assoc, String.reduceBEq, String.reduceEq, Bool.or_not_self, beq_self_eq_true, e1, f1, f2, f3, t1, t2, t3, t4, pos, e2, eR, eRl, c1, c2, c3, hty]
        · refine ⟨_, _, rfl, ?_, o12.trans (Old.apps _ _ _), B2.apps _⟩
          exact gd_ref (xs := xs.take (k + 1) ++ xs.drop k) (nE _ (by omega)) ev_appk (by rw [List.length_append, List.length_take, List.length_drop]; omega) fun y hy => up (o12.trans (Old.apps _ _ _)) (mem_twice hy)
        · refine ⟨_, _, rfl, ?_, o12.trans (Old.apps _ _ _), B2.apps _⟩
          exact gd_tup (by rw [List.length_append, List.length_take, List.length_drop]; omega) fun y hy => up (o12.trans (Old.apps _ _ _)) (mem_twice hy)
      by_cases h4 : w = 4
      · subst h4
        have hty2 : tyA st2 a = some T := (hf _ o12).1
        cases tt <;> simp only [ev_bok, ev_bno, ev_bex, ev_tok, ev_tno, ev_tex, ev_nnx, ev_nrt, ev_nbk, ev_nct, ev_nex, ev_nno, ev_frt, ev_fnx, ev_fex, ev_xok, ev_lsome, ev_lnone, ev_seq, ev_if, ev_ret, ev_retN, ev_drop, ev_nop, ev_brk, ev_cont, ev_asgN, ev_asgT, ev_asgO, ev_mgTup, ev_mgN, ev_mgC, ev_mg0, ev_putL, ev_putO, ev_var, ev_vr, ev_c, ev_op, ev_un, ev_test, ev_tb, ev_notT, ev_andT, ev_orT, ev_ifE, ev_not, ev_nb, ev_and, ev_andK, ev_or, ev_orK, ev_chain, ev_chK, ev_nil, ev_cons, ev_tup, ev_lst, ev_new, ev_call, ev_cb, ev_size, ev_addI, ev_addS, ev_addT, ev_addL, ev_catO, ev_sub, ev_mul, ev_div, ev_mod, ev_p5, ev_p6, ev_p12, ev_p18, ev_p30, ev_neg, ev_ltI, ev_ltS, ev_leI, ev_leS, ev_gt, ev_ge, ev_eqI, ev_eqS, ev_neI, ev_neS, ev_neB, ev_eqB, ev_is, ev_isnot, ev_ixT, ev_ixS, ev_ixR, ev_ixL, ev_ixK, ev_getL, ev_getM, ev_gL, ev_gM, ev_at0, ev_at1, ev_at2, ev_at3, ev_at4, ev_lenS, ev_lenR, ev_lenT, ev_lenL, ev_lenO, ev_lenD, ev_abs, ev_min2, ev_max2, ev_intI, ev_intB, ev_set, ev_fc, ev_setset, ev_last, ev_appk, ev_app0, ev_setk, ev_set0, ev_assoc, ev_lapp, ev_lappA, ev_sl, ev_nopart, ev_part, ev_ptK, ev_slT, ev_slS, ev_slR, ev_slK, ev_tyN, ev_tyB, ev_tyI, ev_tyS, ev_tyT, ev_tyL, ev_tyR, ev_tyRL, ev_isi, ev_isi1, ev_isi2, ev_isi3, ev_isi4, ev_isi5, ev_isiT, ev_isi2K, ev_list, ev_listK, ev_tuple, ev_tupK, ev_getST, ev_getSR, ev_getSL, ev_all, ev_allK, ev_eqXI, ev_eqXS, ev_neXI, ev_neXS, ev_neXB, ev_eqXB, ev_eqXR, ev_neXR, ev_nil2, ev_eqK, ev_neK, ev_meth, ev_meth0, ev_mth1, ev_mth2, ev_mth3, ev_append, ev_m0, ev_m0K, ev_str, ev_for, ev_miR1, ev_rg1K, ev_miL, ev_liK, ev_miT, ev_tiK, ev_lc, ev_wipe0, ev_wipeS, ev_yes, ev_lenSet, ev_lenSetK, ev_listR, ev_lrK, ev_put2, ev_p2A, ev_p2K, ev_p2E, ev_put1, ev_pt1, ev_addXI, ev_addXB, ev_addXS, ev_addXT, ev_addXL, ev_subXI, ev_subXB, ev_mulXI, ev_mulXB, ev_mulXL, ev_negXI, ev_negXB, ev_strXI, ev_strXB, List.getElem?_cons_zero, List.getElem?_cons_succ, List.set_cons_zero, List.set_cons_succ, List.length_cons, List.length_nil, List.cons_append, List.nil_append, if_true, if_false, Bool.false_eq_true, Bool.true_eq_false, reduceIte, Bool.not_true, Bool.not_false, Bool.and_true, Bool.true_and, Bool.and_false, Bool.false_and, Bool.or_true, Bool.true_or, Bool.or_false, Bool.false_or, decide_eq_true_eq, Nat.reduceAdd, Nat.reduceLeDiff, Nat.zero_add, Int.reduceLT, Int.reduceLE, Int.reduceEq, Int.reduceNeg, Nat.reduceEqDiff, and_self, and_true, true_and, decide_true, decide_false, eq_self, ite_true, ite_false, Int.reduceSub, Int.reduceAdd, Int.cast_ofNat_Int, Int.natCast_add, Int.cast_ofNat_Int, Nat.reduceSub, Nat.add_assoc, String.reduceBEq, String.reduceEq, Bool.or_not_self, beq_self_eq_true, e1, f1, f2, f3, t1, t2, t3, t4, pos, e2, eR, hty2]
        · exact ⟨_, _, rfl, gd_tup (by omega) fun y hy => up o12 hy, o12, B2⟩
        · exact ⟨_, _, rfl, gd_ref (nE _ (by omega)) eR (by omega) fun y hy => up o12 hy, o12, B2⟩
      by_cases h3 : w = 3
      · subst h3
        obtain ⟨q, st3, e3, q0, q1, o3, B3, l3⟩ := take_ev (st := st2) (m := (xs.length : Nat)) B2 pos (by omega)
        obtain ⟨xq, aq, mq, gq⟩ := at_pick (xs := xs) q0 q1
        have eR3 : st3[st1.length]? = some (.lst xs) := o3.get eR (by omega)
        have o13 := o12.trans o3
        have x1 : ixN xs.length (k : Int) = some k := ixN_is p0 p1
        have hq2 : q.toNat < xs.length := by omega
        have x2 : ixN xs.length q = some q.toNat := ixN_is q0 q1
        have pp1 : ∀ v S, pt1 (.int (k : Int)) (some (st1.length, xs)) v S = some (S.set st1.length (.lst (xs.set k v))) := fun v S => ev_pt1 x1
        have pp2 : ∀ u v S, pt1 (.int q) (some (st1.length, xs.set k u)) v S = some (S.set st1.length (.lst ((xs.set k u).set q.toNat v))) := fun u v S => ev_pt1 (by rw [List.length_set]; exact x2)
        have oS : ∀ o, Old b st (st3.set st1.length o) := fun o => o13.putNew (by omega)
        have hl3 : st1.length < st3.length := by omega
        have hty3 : ∀ o, tyA (st3.set st1.length o) a = some T := fun o => (hf _ (oS o)).1
        have BS : ∀ o, BagAt (st3.set st1.length o) b := fun o => B3.put o (by omega)
        have gS : ∀ (o : AO), (st3.set st1.length o)[st1.length]? = some o := fun o => List.getElem?_set_self hl3
        have mem : ∀ y ∈ (xs.set k xq).set q.toNat xk, y ∈ xs := fun y hy => by
          rcases List.mem_or_eq_of_mem_set hy with h | h
          · rcases List.mem_or_eq_of_mem_set h with h | h
            · exact h
            · rw [h]; exact mq
          · rw [h]; exact mk
        cases tt <;> simp only [ev_bok, ev_bno, ev_bex, ev_tok, ev_tno, ev_tex, ev_nnx, ev_nrt, ev_nbk, ev_nct, ev_nex, ev_nno, ev_frt, ev_fnx, ev_fex, ev_xok, ev_lsome, ev_lnone, ev_seq, ev_if, ev_ret, ev_retN, ev_drop, ev_nop, ev_brk, ev_cont, ev_asgN, ev_asgT, ev_asgO, ev_mgTup, ev_mgN, ev_mgC, ev_mg0, ev_putL, ev_putO, ev_var, ev_vr, ev_c, ev_op, ev_un, ev_test, ev_tb, ev_notT, ev_andT, ev_orT, ev_ifE, ev_not, ev_nb, ev_and, ev_andK, ev_or, ev_orK, ev_chain, ev_chK, ev_nil, ev_cons, ev_tup, ev_lst, ev_new, ev_call, ev_cb, ev_size, ev_addI, ev_addS, ev_addT, ev_addL, ev_catO, ev_sub, ev_mul, ev_div, ev_mod, ev_p5, ev_p6, ev_p12, ev_p18, ev_p30, ev_neg, ev_ltI, ev_ltS, ev_leI, ev_leS, ev_gt, ev_ge, ev_eqI, ev_eqS, ev_neI, ev_neS, ev_neB, ev_eqB, ev_is, ev_isnot, ev_ixT, ev_ixS, ev_ixR, ev_ixL, ev_ixK, ev_getL, ev_getM, ev_gL, ev_gM, ev_at0, ev_at1, ev_at2, ev_at3, ev_at4, ev_lenS, ev_lenR, ev_lenT, ev_lenL, ev_lenO, ev_lenD, ev_abs, ev_min2, ev_max2, ev_intI, ev_intB, ev_set, ev_fc, ev_setset, ev_last, ev_appk, ev_app0, ev_setk, ev_set0, ev_assoc, ev_lapp, ev_lappA, ev_sl, ev_nopart, ev_part, ev_ptK, ev_slT, ev_slS, ev_slR, ev_slK, ev_tyN, ev_tyB, ev_tyI, ev_tyS, ev_tyT, ev_tyL, ev_tyR, ev_tyRL, ev_isi, ev_isi1, ev_isi2, ev_isi3, ev_isi4, ev_isi5, ev_isiT, ev_isi2K, ev_list, ev_listK, ev_tuple, ev_tupK, ev_getST, ev_getSR, ev_getSL, ev_all, ev_allK, ev_eqXI, ev_eqXS, ev_neXI, ev_neXS, ev_neXB, ev_eqXB, ev_eqXR, ev_neXR, ev_nil2, ev_eqK, ev_neK, ev_meth, ev_meth0, ev_mth1, ev_mth2, ev_mth3, ev_append, ev_m0, ev_m0K, ev_str, ev_for, ev_miR1, ev_rg1K, ev_miL, ev_liK, ev_miT, ev_tiK, ev_lc, ev_wipe0, ev_wipeS, ev_yes, ev_lenSet, ev_lenSetK, ev_listR, ev_lrK, ev_put2, ev_p2A, ev_p2K, ev_p2E, ev_put1, ev_pt1, ev_addXI, ev_addXB, ev_addXS, ev_addXT, ev_addXL, ev_subXI, ev_subXB, ev_mulXI, ev_mulXB, ev_mulXL, ev_negXI, ev_negXB, ev_strXI, ev_strXB, List.getElem?_cons_zero, List.getElem?_cons_succ, List.set_cons_zero, List.set_cons_succ, List.length_cons, List.length_nil, List.cons_append, List.nil_append, if_true, if_false, Bool.false_eq_true, Bool.true_eq_false, reduceIte, Bool.not_true, Bool.not_false, Bool.and_true, Bool.true_and, Bool.and_false, Bool.false_and, Bool.or_true, Bool.true_or, Bool.or_false, Bool.false_or, decide_eq_true_eq, Nat.reduceAdd, Nat.reduceLeDiff, Nat.zero_add, Int.reduceLT, Int.reduceLE, Int.reduceEq, Int.reduceNeg, Nat.reduceEqDiff, and_self, and_true, true_and, decide_true, decide_false, eq_self, ite_true, ite_false, Int.reduceSub, Int.reduceAdd, Int.cast_ofNat_Int, Int.natCast_add, Int.cast_ofNat_Int, Nat.reduceSub, Nat.add_assoc, String.reduceBEq, String.reduceEq, Bool.or_not_self, beq_self_eq_true, e1, f1, f2, f3, t1, t2, t3, t4, pos, e2, eR, e3, eR3, aq, ak, pp1, pp2, hty3]
        · exact ⟨_, _, rfl, gd_ref (nE _ (by omega)) (gS _) (by rw [List.length_set, List.length_set]; omega) fun y hy => up (oS _) (mem y hy), oS _, BS _⟩
        · exact ⟨_, _, rfl, gd_tup (by rw [List.length_set, List.length_set]; omega) fun y hy => up (oS _) (mem y hy), oS _, BS _⟩
      · have hE2 : ∀ n, (E n ∨ n = st1.length) → n < st2.length := fun n z => z.elim (fun z => by have := hEb n z; omega) (fun z => by omega)
        have gk2 : gd st2 (fun n => E n ∨ n = st1.length) s d xk := by
          have g0 := hx xk mk
          have : ∀ {k : Nat} {a : A}, gd st E s k a → gd st2 (fun n => E n ∨ n = st1.length) s k a := fun {k} => by
            induction k with
            | zero => exact fun h => h
            | succ k ihk =>
              intro a h
              rcases h with h | ⟨zs, e, h1, h2⟩ | ⟨n, zs, e, h0, h1, h2, h3⟩
              · exact .inl h
              · exact .inr (.inl ⟨zs, e, h1, fun x hx => ihk (h2 x hx)⟩)
              · refine .inr (.inr ⟨n, zs, e, ?_, o12.get h1 (fun z => h0 (z ▸ hE)), h2, fun x hx => ihk (h3 x hx)⟩)
                have := (List.getElem?_eq_some_iff.mp h1).1
                exact fun z => z.elim h0 (fun z => by omega)
          exact this g0
        obtain ⟨y, st3, e3, g3, o3, B3⟩ := ih (E := fun n => E n ∨ n = st1.length) (.inl hE) hE2 B2 hs gk2
        have eR3 : st3[st1.length]? = some (.lst xs) := o3.get eR (by omega)
        have o13 := o12.trans o3
        have x1 : ixN xs.length (k : Int) = some k := ixN_is p0 p1
        have hl3 : st1.length < st3.length := by have := o3.le; omega
        have hp : ∀ v env S, putO (.int (k : Int)) (some (st1.length, xs)) v env S = .fl (.nx env) (S.set st1.length (.lst (xs.set k v))) := fun v env S => ev_putO x1
        have oS : ∀ o, Old b st (st3.set st1.length o) := fun o => o13.putNew (by omega)
        have hty3 : ∀ o, tyA (st3.set st1.length o) a = some T := fun o => (hf _ (oS o)).1
        have BS : ∀ o, BagAt (st3.set st1.length o) b := fun o => B3.put o (by omega)
        have gS : ∀ (o : AO), (st3.set st1.length o)[st1.length]? = some o := fun o => List.getElem?_set_self hl3
        have gy : ∀ o, gd (st3.set st1.length o) E (s + 1) (d + 2) y := fun o => by
          have : ∀ {k : Nat} {a : A}, gd st3 (fun n => E n ∨ n = st1.length) (s + 1) k a → gd (st3.set st1.length o) E (s + 1) k a := fun {k} => by
            induction k with
            | zero => exact fun h => h
            | succ k ihk =>
              intro a h
              rcases h with h | ⟨zs, e, h1, h2⟩ | ⟨n, zs, e, h0, h1, h2, h3⟩
              · exact .inl h
              · exact .inr (.inl ⟨zs, e, h1, fun x hx => ihk (h2 x hx)⟩)
              · exact .inr (.inr ⟨n, zs, e, fun z => h0 (.inl z), by rw [List.getElem?_set_ne (fun z => h0 (.inr z.symm))]; exact h1, h2, fun x hx => ihk (h3 x hx)⟩)
          exact this g3
        have mem : ∀ o, ∀ z ∈ xs.set k y, gd (st3.set st1.length o) E (s + 1) (d + 2) z := fun o z hz => by
          rcases List.mem_or_eq_of_mem_set hz with h | h
          · exact up (oS _) h
          · rw [h]
            exact gy _
        cases tt <;> simp only [ev_bok, ev_bno, ev_bex, ev_tok, ev_tno, ev_tex, ev_nnx, ev_nrt, ev_nbk, ev_nct, ev_nex, ev_nno, ev_frt, ev_fnx, ev_fex, ev_xok, ev_lsome, ev_lnone, ev_seq, ev_if, ev_ret, ev_retN, ev_drop, ev_nop, ev_brk, ev_cont, ev_asgN, ev_asgT, ev_asgO, ev_mgTup, ev_mgN, ev_mgC, ev_mg0, ev_putL, ev_putO, ev_var, ev_vr, ev_c, ev_op, ev_un, ev_test, ev_tb, ev_notT, ev_andT, ev_orT, ev_ifE, ev_not, ev_nb, ev_and, ev_andK, ev_or, ev_orK, ev_chain, ev_chK, ev_nil, ev_cons, ev_tup, ev_lst, ev_new, ev_call, ev_cb, ev_size, ev_addI, ev_addS, ev_addT, ev_addL, ev_catO, ev_sub, ev_mul, ev_div, ev_mod, ev_p5, ev_p6, ev_p12, ev_p18, ev_p30, ev_neg, ev_ltI, ev_ltS, ev_leI, ev_leS, ev_gt, ev_ge, ev_eqI, ev_eqS, ev_neI, ev_neS, ev_neB, ev_eqB, ev_is, ev_isnot, ev_ixT, ev_ixS, ev_ixR, ev_ixL, ev_ixK, ev_getL, ev_getM, ev_gL, ev_gM, ev_at0, ev_at1, ev_at2, ev_at3, ev_at4, ev_lenS, ev_lenR, ev_lenT, ev_lenL, ev_lenO, ev_lenD, ev_abs, ev_min2, ev_max2, ev_intI, ev_intB, ev_set, ev_fc, ev_setset, ev_last, ev_appk, ev_app0, ev_setk, ev_set0, ev_assoc, ev_lapp, ev_lappA, ev_sl, ev_nopart, ev_part, ev_ptK, ev_slT, ev_slS, ev_slR, ev_slK, ev_tyN, ev_tyB, ev_tyI, ev_tyS, ev_tyT, ev_tyL, ev_tyR, ev_tyRL, ev_isi, ev_isi1, ev_isi2, ev_isi3, ev_isi4, ev_isi5, ev_isiT, ev_isi2K, ev_list, ev_listK, ev_tuple, ev_tupK, ev_getST, ev_getSR, ev_getSL, ev_all, ev_allK, ev_eqXI, ev_eqXS, ev_neXI, ev_neXS, ev_neXB, ev_eqXB, ev_eqXR, ev_neXR, ev_nil2, ev_eqK, ev_neK, ev_meth, ev_meth0, ev_mth1, ev_mth2, ev_mth3, ev_append, ev_m0, ev_m0K, ev_str, ev_for, ev_miR1, ev_rg1K, ev_miL, ev_liK, ev_miT, ev_tiK, ev_lc, ev_wipe0, ev_wipeS, ev_yes, ev_lenSet, ev_lenSetK, ev_listR, ev_lrK, ev_put2, ev_p2A, ev_p2K, ev_p2E, ev_put1, ev_pt1, ev_addXI, ev_addXB, ev_addXS, ev_addXT, ev_addXL, ev_subXI, ev_subXB, ev_mulXI, ev_mulXB, ev_mulXL, ev_negXI, ev_negXB, ev_strXI, ev_strXB, List.getElem?_cons_zero, List.getElem?_cons_succ, List.set_cons_zero, List.set_cons_succ, List.length_cons, List.length_nil, List.cons_append, List.nil_append, if_true, if_false, Bool.false_eq_true, Bool.true_eq_false, reduceIte, Bool.not_true, Bool.not_false, Bool.and_true, Bool.true_and, Bool.and_false, Bool.false_and, Bool.or_true, Bool.true_or, Bool.or_false, Bool.false_or, decide_eq_true_eq, Nat.reduceAdd, Nat.reduceLeDiff, Nat.zero_add, Int.reduceLT, Int.reduceLE, Int.reduceEq, Int.reduceNeg, Nat.reduceEqDiff, and_self, and_true, true_and, decide_true, decide_false, eq_self, ite_true, ite_false, Int.reduceSub, Int.reduceAdd, Int.cast_ofNat_Int, Int.natCast_add, Int.cast_ofNat_Int, Nat.reduceSub, Nat.add_assoc, String.reduceBEq, String.reduceEq, Bool.or_not_self, beq_self_eq_true, e1, f1, f2, f3, t1, t2, t3, t4, pos, hw, e2, eR, h1, h2, h3, h4, ak, e3, eR3, hp, hty3, gS]
        · exact ⟨_, _, rfl, gd_ref (nE _ (by omega)) (gS _) (by rw [List.length_set]; omega) (mem _), oS _, BS _⟩
        · exact ⟨_, _, rfl, gd_tup (by rw [List.length_set]; omega) (mem _), oS _, BS _⟩
    · obtain ⟨a', st', e2, r2⟩ := odd
      have pos : (0 : Int) < (xs.length : Nat) := by
        have := List.length_pos_iff.mpr hn
        omega
      simp only [ev_bok, ev_bno, ev_bex, ev_tok, ev_tno, ev_tex, ev_nnx, ev_nrt, ev_nbk, ev_nct, ev_nex, ev_nno, ev_frt, ev_fnx, ev_fex, ev_xok, ev_lsome, ev_lnone, ev_seq, ev_if, ev_ret, ev_retN, ev_drop, ev_nop, ev_brk, ev_cont, ev_asgN, ev_asgT, ev_asgO, ev_mgTup, ev_mgN, ev_mgC, ev_mg0, ev_putL, ev_putO, ev_var, ev_vr, ev_c, ev_op, ev_un, ev_test, ev_tb, ev_notT, ev_andT, ev_orT, ev_ifE, ev_not, ev_nb, ev_and, ev_andK, ev_or, ev_orK, ev_chain, ev_chK, ev_nil, ev_cons, ev_tup, ev_lst, ev_new, ev_call, ev_cb, ev_size, ev_addI, ev_addS, ev_addT, ev_addL, ev_catO, ev_sub, ev_mul, ev_div, ev_mod, ev_p5, ev_p6, ev_p12, ev_p18, ev_p30, ev_neg, ev_ltI, ev_ltS, ev_leI, ev_leS, ev_gt, ev_ge, ev_eqI, ev_eqS, ev_neI, ev_neS, ev_neB, ev_eqB, ev_is, ev_isnot, ev_ixT, ev_ixS, ev_ixR, ev_ixL, ev_ixK, ev_getL, ev_getM, ev_gL, ev_gM, ev_at0, ev_at1, ev_at2, ev_at3, ev_at4, ev_lenS, ev_lenR, ev_lenT, ev_lenL, ev_lenO, ev_lenD, ev_abs, ev_min2, ev_max2, ev_intI, ev_intB, ev_set, ev_fc, ev_setset, ev_last, ev_appk, ev_app0, ev_setk, ev_set0, ev_assoc, ev_lapp, ev_lappA, ev_sl, ev_nopart, ev_part, ev_ptK, ev_slT, ev_slS, ev_slR, ev_slK, ev_tyN, ev_tyB, ev_tyI, ev_tyS, ev_tyT, ev_tyL, ev_tyR, ev_tyRL, ev_isi, ev_isi1, ev_isi2, ev_isi3, ev_isi4, ev_isi5, ev_isiT, ev_isi2K, ev_list, ev_listK, ev_tuple, ev_tupK, ev_getST, ev_getSR, ev_getSL, ev_all, ev_allK, ev_eqXI, ev_eqXS, ev_neXI, ev_neXS, ev_neXB, ev_eqXB, ev_eqXR, ev_neXR, ev_nil2, ev_eqK, ev_neK, ev_meth, ev_meth0, ev_mth1, ev_mth2, ev_mth3, ev_append, ev_m0, ev_m0K, ev_str, ev_for, ev_miR1, ev_rg1K, ev_miL, ev_liK, ev_miT, ev_tiK, ev_lc, ev_wipe0, ev_wipeS, ev_yes, ev_lenSet, ev_lenSetK, ev_listR, ev_lrK, ev_put2, ev_p2A, ev_p2K, ev_p2E, ev_put1, ev_pt1, ev_addXI, ev_addXB, ev_addXS, ev_addXT, ev_addXL, ev_subXI, ev_subXB, ev_mulXI, ev_mulXB, ev_mulXL, ev_negXI, ev_negXB, ev_strXI, ev_strXB, List.getElem?_cons_zero, List.getElem?_cons_succ, List.set_cons_zero, List.set_cons_succ, List.length_cons, List.length_nil, List.cons_append, List.nil_append, if_true, if_false, Bool.false_eq_true, Bool.true_eq_false, reduceIte, Bool.not_true, Bool.not_false, Bool.and_true, Bool.true_and, Bool.and_false, Bool.false_and, Bool.or_true, Bool.true_or, Bool.or_false, Bool.false_or, decide_eq_true_eq, Nat.reduceAdd, Nat.reduceLeDiff, Nat.zero_add, Int.reduceLT, Int.reduceLE, Int.reduceEq, Int.reduceNeg, Nat.reduceEqDiff, and_self, and_true, true_and, decide_true, decide_false, eq_self, ite_true, ite_false, Int.reduceSub, Int.reduceAdd, Int.cast_ofNat_Int, Int.natCast_add, Int.cast_ofNat_Int, Nat.reduceSub, Nat.add_assoc, String.reduceBEq, String.reduceEq, Bool.or_not_self, beq_self_eq_true, e1, f1, f2, f3, t1, t2, t3, t4, e2, pos, hw]
      exact ⟨a', st', rfl, r2⟩
theorem spoilt_ev : ∀ (d f : Nat), d ≤ f → ∀ {st : Sto} {b s : Nat} {E : Nat → Prop} {a : A}, E b → (∀ n, E n → n < st.length) → BagAt st b → s ≤ 8 → gd st E s d a → ∃ a' st', r__law_spoilt (f + 1) [.ref b, a] st = .ok a' st' ∧ gd st' E (s + 1) (d + 2) a' ∧ Old b st st' ∧ BagAt st' b := by
  intro d
  induction d with
  | zero =>
    intro f _ st b s E a hE hEb hB hs ha
    exact spoilt_leaf hE hEb hB hs ha
  | succ d ih =>
    intro f hf st b s E a hE hEb hB hs ha
    obtain ⟨f, rfl⟩ : ∃ f', f = f' + 1 := ⟨f - 1, by omega⟩
    have ih := @ih f (by omega)
    rcases ha with ha | ⟨xs, rfl, h1, h2⟩ | ⟨n, xs, rfl, h0, h1, h2, h3⟩
    · obtain ⟨a', st', e, g, o, B⟩ := spoilt_leaf (d := f + 1) hE hEb hB hs ha
      exact ⟨a', st', e, gd_deeps g (by omega), o, B⟩
    · exact spoilt_seq (T := "tuple") (tt := true) hE hEb hB hs (by decide) (by decide) (by decide) (by decide) (fun st2 o => ⟨rfl, rfl, rfl⟩) h2 h1 ih
    · refine spoilt_seq (T := "list") (tt := false) hE hEb hB hs (by decide) (by decide) (by decide) (by decide) (fun st2 o => ?_) h3 h2 ih
      have e2 := o.get h1 (fun z => h0 (z ▸ hE))
      exact ⟨by simp only [ev_tyR, e2, ev_tyRL], by simp only [ev_getSR, ev_getL, e2, ev_gL], by simp only [ev_lenR, e2, ev_lenO]⟩

/-! ### mirrors: loops and comprehensions, in general -/
theorem forL_ret {ok : Sto → Prop} {g : MG} {b : MS} {st : Sto} (p : A → Bool) (Sh : AEnv → Prop) (hok : ∀ l, ok (st ++ l)) : ∀ {xs : List A}, (∀ x ∈ xs, ∀ env l, Sh env → ∃ e1 l' e2, g x env = some e1 ∧ Sh e2 ∧ b e1 (st ++ l) = (if p x = true then .fl (.nx e2) (st ++ l') else .fl (.rt (.bl false)) (st ++ l'))) →
    ∀ env l, Sh env → ∃ e2 l', Sh e2 ∧ forL ok g b xs env (st ++ l) = if xs.all p = true then .fl (.nx e2) (st ++ l') else .fl (.rt (.bl false)) (st ++ l')
  | [], _, env, l, h => ⟨env, l, h, by
      unfold forL
      rw [if_pos (hok l)]
      rfl⟩
  | x :: xs, hb, env, l, h => by
    obtain ⟨e1, l1, e2, h1, h2, h3⟩ := hb x List.mem_cons_self env l h
    unfold forL
    rw [if_pos (hok l), h1]
    simp only [h3]
    cases hp : p x with
    | false =>
      refine ⟨e2, l1, h2, ?_⟩
      simp only [List.all_cons, hp, Bool.false_and, Bool.false_eq_true, if_false]
    | true =>
      obtain ⟨e3, l3, h4, h5⟩ := forL_ret p Sh hok (fun y hy => hb y (List.mem_cons_of_mem _ hy)) e2 l1 h2
      refine ⟨e3, l3, h4, ?_⟩
      simp only [List.all_cons, hp, Bool.true_and, if_true, h5]
theorem lc_pure {n : Nat} {ok : Sto → Prop} {g : MG} {tt : MT} {te : ME} {env : AEnv} {s : Sto} (p : A → Bool) (F : A → A) (hn : n = s.length) (hok : ∀ acc, ok (s ++ [.lst acc])) : ∀ {xs acc : List A},
    (∀ x ∈ xs, ∀ acc, ∃ e1, g x env = some e1 ∧ tt e1 (s ++ [.lst acc]) = .ok (p x) (s ++ [.lst acc]) ∧ (p x = true → te e1 (s ++ [.lst acc]) = .ok (F x) (s ++ [.lst acc]))) →
    acc.length + xs.length < 16777216 → lcL n ok g tt te env xs (s ++ [.lst acc]) = .ok (.ref n) (s ++ [.lst (acc ++ (xs.filter p).map F)])
  | [], acc, _, _ => by
    unfold lcL
    rw [if_pos (hok acc)]
    simp
  | x :: xs, acc, h, hl => by
    obtain ⟨e1, h1, h2, h3⟩ := h x List.mem_cons_self acc
    unfold lcL
    rw [if_pos (hok acc), h1]
    simp only [h2, ev_xok, ev_bok]
    rw [List.length_cons] at hl
    cases hp : p x with
    | false =>
      simp only [Bool.false_eq_true, if_false, List.filter_cons, hp]
      exact lc_pure p F hn hok (fun y hy => h y (List.mem_cons_of_mem _ hy)) (by omega)
    | true =>
      have hg : (s ++ [AO.lst acc])[n]? = some (.lst acc) := by rw [hn]; exact ev_last
      have hs : (s ++ [AO.lst acc]).set n (.lst (acc ++ [F x])) = s ++ [.lst (acc ++ [F x])] := by rw [hn]; exact ev_set0
      simp only [if_true, h3 hp, ev_xok, ev_bok, hg, List.filter_cons, hp, List.map_cons]
      rw [if_pos (by rw [sizeLine_eq]; omega), hs, lc_pure p F hn hok (fun y hy => h y (List.mem_cons_of_mem _ hy)) (by rw [List.length_append, List.length_singleton]; omega)]
      simp
theorem asc_ok {x : Str} (h : asc x = true) : PyData.strOk x = true := by
  unfold asc at h
  unfold PyData.strOk
  rw [Array.all_eq_true_iff_forall_mem] at h ⊢
  intro c hc
  have := h c hc
  simp at this ⊢
  omega
theorem allD_some {f : A → Option PyData} {P : PyData → Prop} : ∀ {xs : List A}, (∀ x ∈ xs, ∃ D, f x = some D ∧ P D) → ∃ Ds, allD f xs = some Ds ∧ ∀ D ∈ Ds, P D
  | [], _ => ⟨[], rfl, (fun D h => by cases h)⟩
  | x :: xs, h => by
    obtain ⟨D, e, hp⟩ := h x List.mem_cons_self
    obtain ⟨Ds, e2, hps⟩ := allD_some fun y hy => h y (List.mem_cons_of_mem _ hy)
    refine ⟨D :: Ds, by simp only [allD, e, e2], fun E hE => ?_⟩
    rcases List.mem_cons.mp hE with rfl | hE
    · exact hp
    · exact hps E hE
theorem layA {d : Nat} : ∀ {Ds : List PyData}, (∀ D ∈ Ds, D.canLay0 = true ∧ D.depth ≤ d) → PyData.canLayAll0 Ds = true ∧ PyData.depthAll Ds ≤ d
  | [], _ => ⟨by simp [PyData.canLayAll0], by simp [PyData.depthAll]⟩
  | D :: Ds, h => by
    have h1 := h D List.mem_cons_self
    have h2 := layA fun E hE => h E (List.mem_cons_of_mem _ hE)
    exact ⟨by rw [PyData.canLayAll0, h1.1, h2.1]; rfl, by rw [PyData.depthAll]; exact Nat.max_le.mpr ⟨h1.2, h2.2⟩⟩
theorem gs_dat {st : Sto} {s n : Nat} {a : A} (h : gs s a) : ∃ D, dat st n a = some D ∧ D.canLay0 = true ∧ D.depth ≤ 0 := by
  cases a with
  | non => exact ⟨.none, by cases n <;> rfl, rfl, Nat.le_refl _⟩
  | bl c => exact ⟨.bool c, by cases n <;> rfl, rfl, Nat.le_refl _⟩
  | int c => exact ⟨.int c, by cases n <;> rfl, rfl, Nat.le_refl _⟩
  | str c => exact ⟨.str c, by cases n <;> rfl, by rw [PyData.canLay0]; exact asc_ok h.1, Nat.le_refl _⟩
  | _ => exact h.elim
theorem gd_dat {st : Sto} {E : Nat → Prop} {s : Nat} : ∀ (d n : Nat) {a : A}, d ≤ n → gd st E s d a → ∃ D, dat st n a = some D ∧ D.canLay0 = true ∧ D.depth ≤ d
  | 0, n, _, _, h => gs_dat h
  | d + 1, 0, _, hn, _ => by omega
  | d + 1, n + 1, a, hn, h => by
    rcases h with h | ⟨xs, rfl, h1, h2⟩ | ⟨m, xs, rfl, h0, h1, h2, h3⟩
    · obtain ⟨D, e, l, dp⟩ := gs_dat (st := st) (n := n + 1) h
      exact ⟨D, e, l, by omega⟩
    · obtain ⟨Ds, e, hD⟩ := allD_some (f := dat st n) (P := fun D => D.canLay0 = true ∧ D.depth ≤ d) fun x hx => gd_dat d n (by omega) (h2 x hx)
      obtain ⟨l1, l2⟩ := layA hD
      exact ⟨.tuple Ds, by simp only [dat, e, Option.map_some], by rw [PyData.canLay0]; exact l1, by rw [PyData.depth]; omega⟩
    · obtain ⟨Ds, e, hD⟩ := allD_some (f := dat st n) (P := fun D => D.canLay0 = true ∧ D.depth ≤ d) fun x hx => gd_dat d n (by omega) (h3 x hx)
      obtain ⟨l1, l2⟩ := layA hD
      exact ⟨.list Ds, by simp only [dat, h1, e, Option.map_some], by rw [PyData.canLay0]; exact l1, by rw [PyData.depth]; omega⟩
theorem shaped_of {D : PyData} (h : D.canLay0 = true) (h2 : D.depth ≤ 64) : SeqAt.shaped D = true := by
  unfold SeqAt.shaped
  rw [h, decide_eq_true h2]
  rfl
/-- a thing in a tuple of words: it is one of them -/
def inW (ws : List Str) : A → Bool
  | .str x => ws.any (· == x)
  | _ => false
theorem notIn_words {st : Sto} {E : Nat → Prop} {s d : Nat} {a : A} {ws : List Str} (hw : ∀ x ∈ ws, asc x = true) (hd : d ≤ 30) (h : gd st E s d a) : oNotInX a (.tup (ws.map A.str)) st = .ok (.bl (!inW ws a)) st := by
  have flat : flatA a = true → oNotInX a (.tup (ws.map A.str)) st = .ok (.bl (!inW ws a)) st := fun hf => by
    have t1 : tupDeep a (.tup (ws.map A.str)) = false := by simp [tupDeep, isTup, hf]
    have t2 : (ws.map A.str).all flatA = true := by
      rw [List.all_eq_true]
      intro x hx
      obtain ⟨y, _, rfl⟩ := List.mem_map.mp hx
      rfl
    have t3 : (ws.map A.str).any (fun y => eqF y a) = inW ws a := by
      rw [List.any_map]
      cases a with
      | str x => rfl
      | non => exact List.any_eq_false.mpr fun _ _ => by simp [eqF]
      | bl c => exact List.any_eq_false.mpr fun _ _ => by simp [eqF]
      | int c => exact List.any_eq_false.mpr fun _ _ => by simp [eqF]
      | _ => cases hf
    show oOr tupDeep oNotInTD oNotIn a (.tup (ws.map A.str)) st = _
    unfold oOr
    rw [t1]
    show (if false = true then _ else oNotInF a (.tup (ws.map A.str)) st) = _
    rw [if_neg Bool.false_ne_true]
    unfold oNotInF inA
    show lift ((if flatA a = true ∧ (ws.map A.str).all flatA = true then some ((ws.map A.str).any fun y => eqF y a) else none).map fun c => A.bl (!c)) st = _
    rw [if_pos ⟨hf, t2⟩, t3]
    rfl
  have deepc : flatA a = false → inW ws a = false → (∃ D, dat st deep a = some D ∧ SeqAt.shaped D = true ∧ ∀ x : Str, PyData.eqv (.str x) D = false) → oNotInX a (.tup (ws.map A.str)) st = .ok (.bl (!inW ws a)) st := fun hf hi ⟨D, e, sh, ne⟩ => by
    have t1 : tupDeep a (.tup (ws.map A.str)) = true := by simp [tupDeep, isTup, hf]
    have e2 : dat st deep (.tup (ws.map A.str)) = some (.tuple (ws.map PyData.str)) := by
      show (allD (dat st 29) (ws.map A.str)).map PyData.tuple = _
      have : ∀ l : List Str, allD (dat st 29) (l.map A.str) = some (l.map PyData.str) := fun l => by
        induction l with
        | nil => rfl
        | cons x l ih => simp only [List.map_cons, allD, ih, dat]
      rw [this]
      rfl
    have sh2 : SeqAt.shaped (.tuple (ws.map PyData.str)) = true := by
      have := layA (d := 0) (Ds := ws.map PyData.str) fun D hD => by
        obtain ⟨x, hx, rfl⟩ := List.mem_map.mp hD
        exact ⟨by rw [PyData.canLay0]; exact asc_ok (hw x hx), Nat.le_refl _⟩
      exact shaped_of (by rw [PyData.canLay0]; exact this.1) (by rw [PyData.depth]; omega)
    have an : ((ws.map PyData.str).any fun z => PyData.eqv z D) = false := by
      rw [List.any_map]
      exact List.any_eq_false.mpr fun x _ => by simp [ne x]
    show oOr tupDeep oNotInTD oNotIn a (.tup (ws.map A.str)) st = _
    unfold oOr
    rw [t1, if_pos rfl]
    unfold oNotInTD inTD
    rw [e, e2]
    simp only [sh, sh2, and_self, if_true, an, hi]
    rfl
  cases d with
  | zero =>
    refine flat ?_
    cases a with
    | non => rfl
    | bl _ => rfl
    | int _ => rfl
    | str _ => rfl
    | _ => exact h.elim
  | succ d =>
    rcases id h with h' | ⟨xs, rfl, h1, h2⟩ | ⟨m, xs, rfl, h0, h1, h2, h3⟩
    · refine flat ?_
      cases a with
      | non => rfl
      | bl _ => rfl
      | int _ => rfl
      | str _ => rfl
      | _ => exact h'.elim
    · obtain ⟨D, e, l, dp⟩ := gd_dat (d + 1) 30 hd h
      refine deepc rfl rfl ⟨D, e, shaped_of l (by omega), fun x => ?_⟩
      have e : (allD (dat st 29) xs).map PyData.tuple = some D := e
      obtain ⟨Ds, _, rfl⟩ := Option.map_eq_some_iff.mp e
      simp [PyData.eqv]
    · obtain ⟨D, e, l, dp⟩ := gd_dat (d + 1) 30 hd h
      refine deepc rfl rfl ⟨D, e, shaped_of l (by omega), fun x => ?_⟩
      simp only [dat, h1] at e
      obtain ⟨Ds, _, rfl⟩ := Option.map_eq_some_iff.mp e
      simp [PyData.eqv]

/-! ### what the small readings tell of data -/
def wholeA : A → Bool
  | .int _ => true
  | _ => false
def numA : A → Bool
  | .int i => decide (0 ≤ i)
  | _ => false
def withinA (lo hi : Int) : A → Bool
  | .int i => decide (lo ≤ i) && decide (i ≤ hi)
  | _ => false
def tupleA (lo hi : Int) : A → Bool
  | .tup xs => decide (lo ≤ xs.length) && decide ((xs.length : Int) ≤ hi)
  | _ => false
theorem ty_ref {st : Sto} {n : Nat} {t : String} (h : tyA st (.ref n) = some t) : ∃ xs, st[n]? = some (.lst xs) := by
  rw [ev_tyR] at h
  unfold tyR at h
  split at h
  · rename_i xs e
    exact ⟨xs, e⟩
  · cases h
theorem whole_ev {st : Sto} {a : A} (h : ∃ t, tyA st a = some t) : m_is_whole [a] st = .ok (.bl (wholeA a)) st := by
  obtain ⟨t, ht⟩ := h
  rw [st_is_whole]
  unfold b_is_whole
  cases a with
  | ref n =>
    obtain ⟨xs, e⟩ := ty_ref ht
    simp only [ev_bok, ev_bno, ev_bex, ev_tok, ev_tno, ev_tex, ev_nnx, ev_nrt, ev_nbk, ev_nct, ev_nex, ev_nno, ev_frt, ev_fnx, ev_fex, ev_xok, ev_lsome, ev_lnone, ev_seq, ev_if, ev_ret, ev_retN, ev_drop, ev_nop, ev_brk, ev_cont, ev_asgN, ev_asgT, ev_asgO, ev_mgTup, ev_mgN, ev_mgC, ev_mg0, ev_putL, ev_putO, ev_var, ev_vr, ev_c, ev_op, ev_un, ev_test, ev_tb, ev_notT, ev_andT, ev_orT, ev_ifE, ev_not, ev_nb, ev_and, ev_andK, ev_or, ev_orK, ev_chain, ev_chK, ev_nil, ev_cons, ev_tup, ev_lst, ev_new, ev_call, ev_cb, ev_size, ev_addI, ev_addS, ev_addT, ev_addL, ev_catO, ev_sub, ev_mul, ev_div, ev_mod, ev_p5, ev_p6, ev_p12, ev_p18, ev_p30, ev_neg, ev_ltI, ev_ltS, ev_leI, ev_leS, ev_gt, ev_ge, ev_eqI, ev_eqS, ev_neI, ev_neS, ev_neB, ev_eqB, ev_is, ev_isnot, ev_ixT, ev_ixS, ev_ixR, ev_ixL, ev_ixK, ev_getL, ev_getM, ev_gL, ev_gM, ev_at0, ev_at1, ev_at2, ev_at3, ev_at4, ev_lenS, ev_lenR, ev_lenT, ev_lenL, ev_lenO, ev_lenD, ev_abs, ev_min2, ev_max2, ev_intI, ev_intB, ev_set, ev_fc, ev_setset, ev_last, ev_appk, ev_app0, ev_setk, ev_set0, ev_assoc, ev_lapp, ev_lappA, ev_sl, ev_nopart, ev_part, ev_ptK, ev_slT, ev_slS, ev_slR, ev_slK, ev_tyN, ev_tyB, ev_tyI, ev_tyS, ev_tyT, ev_tyL, ev_tyR, ev_tyRL, ev_isi, ev_isi1, ev_isi2, ev_isi3, ev_isi4, ev_isi5, ev_isiT, ev_isi2K, ev_isTy, ev_list, ev_listK, ev_tuple, ev_tupK, ev_getST, ev_getSR, ev_getSL, ev_all, ev_allK, ev_eqXI, ev_eqXS, ev_neXI, ev_neXS, ev_neXB, ev_eqXB, ev_eqXR, ev_neXR, ev_nil2, ev_eqK, ev_neK, ev_meth, ev_meth0, ev_mth1, ev_mth2, ev_mth3, ev_append, ev_m0, ev_m0K, ev_str, ev_for, ev_miR1, ev_rg1K, ev_miL, ev_liK, ev_miT, ev_tiK, ev_lc, ev_wipe0, ev_wipeS, ev_yes, ev_lenSet, ev_lenSetK, ev_listR, ev_lrK, ev_put2, ev_p2A, ev_p2K, ev_p2E, ev_put1, ev_pt1, ev_addXI, ev_addXB, ev_addXS, ev_addXT, ev_addXL, ev_subXI, ev_subXB, ev_mulXI, ev_mulXB, ev_mulXL, ev_negXI, ev_negXB, ev_strXI, ev_strXB, List.getElem?_cons_zero, List.getElem?_cons_succ, List.set_cons_zero, List.set_cons_succ, List.length_cons, List.length_nil, List.cons_append, List.nil_append, if_true, if_false, Bool.false_eq_true, Bool.true_eq_false, reduceIte, Bool.not_true, Bool.not_false, Bool.and_true, Bool.true_and, Bool.and_false, Bool.false_and, Bool.or_true, Bool.true_or, Bool.or_false, Bool.false_or, decide_eq_true_eq, Nat.reduceAdd, Nat.reduceLeDiff, Nat.zero_add, Int.reduceLT, Int.reduceLE, Int.reduceEq, Int.reduceNeg, Nat.reduceEqDiff, and_self, and_true, true_and, decide_true, decide_false, eq_self, ite_true, ite_false, Int.reduceSub, Int.reduceAdd, Int.cast_ofNat_Int, Int.natCast_add, Int.cast_ofNat_Int, Nat.reduceSub, Nat.add_assoc, String.reduceBEq, String.reduceEq, Bool.or_not_self, beq_self_eq_true, e]
    rfl
  | adr x => cases ht
  | ty x => cases ht
  | _ =>
    simp only [ev_bok, ev_bno, ev_bex, ev_tok, ev_tno, ev_tex, ev_nnx, ev_nrt, ev_nbk, ev_nct, ev_nex, ev_nno, ev_frt, ev_fnx, ev_fex, ev_xok, ev_lsome, ev_lnone, ev_seq, ev_if, ev_ret, ev_retN, ev_drop, ev_nop, ev_brk, ev_cont, ev_asgN, ev_asgT, ev_asgO, ev_mgTup, ev_mgN, ev_mgC, ev_mg0, ev_putL, ev_putO, ev_var, ev_vr, ev_c, ev_op, ev_un, ev_test, ev_tb, ev_notT, ev_andT, ev_orT, ev_ifE, ev_not, ev_nb, ev_and, ev_andK, ev_or, ev_orK, ev_chain, ev_chK, ev_nil, ev_cons, ev_tup, ev_lst, ev_new, ev_call, ev_cb, ev_size, ev_addI, ev_addS, ev_addT, ev_addL, ev_catO, ev_sub, ev_mul, ev_div, ev_mod, ev_p5, ev_p6, ev_p12, ev_p18, ev_p30, ev_neg, ev_ltI, ev_ltS, ev_leI, ev_leS, ev_gt, ev_ge, ev_eqI, ev_eqS, ev_neI, ev_neS, ev_neB, ev_eqB, ev_is, ev_isnot, ev_ixT, ev_ixS, ev_ixR, ev_ixL, ev_ixK, ev_getL, ev_getM, ev_gL, ev_gM, ev_at0, ev_at1, ev_at2, ev_at3, ev_at4, ev_lenS, ev_lenR, ev_lenT, ev_lenL, ev_lenO, ev_lenD, ev_abs, ev_min2, ev_max2, ev_intI, ev_intB, ev_set, ev_fc, ev_setset, ev_last, ev_appk, ev_app0, ev_setk, ev_set0, ev_assoc, ev_lapp, ev_lappA, ev_sl, ev_nopart, ev_part, ev_ptK, ev_slT, ev_slS, ev_slR, ev_slK, ev_tyN, ev_tyB, ev_tyI, ev_tyS, ev_tyT, ev_tyL, ev_tyR, ev_tyRL, ev_isi, ev_isi1, ev_isi2, ev_isi3, ev_isi4, ev_isi5, ev_isiT, ev_isi2K, ev_isTy, ev_list, ev_listK, ev_tuple, ev_tupK, ev_getST, ev_getSR, ev_getSL, ev_all, ev_allK, ev_eqXI, ev_eqXS, ev_neXI, ev_neXS, ev_neXB, ev_eqXB, ev_eqXR, ev_neXR, ev_nil2, ev_eqK, ev_neK, ev_meth, ev_meth0, ev_mth1, ev_mth2, ev_mth3, ev_append, ev_m0, ev_m0K, ev_str, ev_for, ev_miR1, ev_rg1K, ev_miL, ev_liK, ev_miT, ev_tiK, ev_lc, ev_wipe0, ev_wipeS, ev_yes, ev_lenSet, ev_lenSetK, ev_listR, ev_lrK, ev_put2, ev_p2A, ev_p2K, ev_p2E, ev_put1, ev_pt1, ev_addXI, ev_addXB, ev_addXS, ev_addXT, ev_addXL, ev_subXI, ev_subXB, ev_mulXI, ev_mulXB, ev_mulXL, ev_negXI, ev_negXB, ev_strXI, ev_strXB, List.getElem?_cons_zero, List.getElem?_cons_succ, List.set_cons_zero, List.set_cons_succ, List.length_cons, List.length_nil, List.cons_append, List.nil_append, if_true, if_false, Bool.false_eq_true, Bool.true_eq_false, reduceIte, Bool.not_true, Bool.not_false, Bool.and_true, Bool.true_and, Bool.and_false, Bool.false_and, Bool.or_true, Bool.true_or, Bool.or_false, Bool.false_or, decide_eq_true_eq, Nat.reduceAdd, Nat.reduceLeDiff, Nat.zero_add, Int.reduceLT, Int.reduceLE, Int.reduceEq, Int.reduceNeg, Nat.reduceEqDiff, and_self, and_true, true_and, decide_true, decide_false, eq_self, ite_true, ite_false, Int.reduceSub, Int.reduceAdd, Int.cast_ofNat_Int, Int.natCast_add, Int.cast_ofNat_Int, Nat.reduceSub, Nat.add_assoc, String.reduceBEq, String.reduceEq, Bool.or_not_self, beq_self_eq_true]
    rfl
theorem within_ev {st : Sto} {a : A} {lo hi : Int} (h : ∃ t, tyA st a = some t) : m_is_within [a, .int lo, .int hi] st = .ok (.bl (withinA lo hi a)) st := by
  have e1 := whole_ev h
  rw [st_is_within]
  unfold b_is_within
  cases a with
  | int i =>
    by_cases c : lo ≤ i
    · simp only [ev_bok, ev_bno, ev_bex, ev_tok, ev_tno, ev_tex, ev_nnx, ev_nrt, ev_nbk, ev_nct, ev_nex, ev_nno, ev_frt, ev_fnx, ev_fex, ev_xok, ev_lsome, ev_lnone, ev_seq, ev_if, ev_ret, ev_retN, ev_drop, ev_nop, ev_brk, ev_cont, ev_asgN, ev_asgT, ev_asgO, ev_mgTup, ev_mgN, ev_mgC, ev_mg0, ev_putL, ev_putO, ev_var, ev_vr, ev_c, ev_op, ev_un, ev_test, ev_tb, ev_notT, ev_andT, ev_orT, ev_ifE, ev_not, ev_nb, ev_and, ev_andK, ev_or, ev_orK, ev_chain, ev_chK, ev_nil, ev_cons, ev_tup, ev_lst, ev_new, ev_call, ev_cb, ev_size, ev_addI, ev_addS, ev_addT, ev_addL, ev_catO, ev_sub, ev_mul, ev_div, ev_mod, ev_p5, ev_p6, ev_p12, ev_p18, ev_p30, ev_neg, ev_ltI, ev_ltS, ev_leI, ev_leS, ev_gt, ev_ge, ev_eqI, ev_eqS, ev_neI, ev_neS, ev_neB, ev_eqB, ev_is, ev_isnot, ev_ixT, ev_ixS, ev_ixR, ev_ixL, ev_ixK, ev_getL, ev_getM, ev_gL, ev_gM, ev_at0, ev_at1, ev_at2, ev_at3, ev_at4, ev_lenS, ev_lenR, ev_lenT, ev_lenL, ev_lenO, ev_lenD, ev_abs, ev_min2, ev_max2, ev_intI, ev_intB, ev_set, ev_fc, ev_setset, ev_last, ev_appk, ev_app0, ev_setk, ev_set0, ev_assoc, ev_lapp, ev_lappA, ev_sl, ev_nopart, ev_part, ev_ptK, ev_slT, ev_slS, ev_slR, ev_slK, ev_tyN, ev_tyB, ev_tyI, ev_tyS, ev_tyT, ev_tyL, ev_tyR, ev_tyRL, ev_isi, ev_isi1, ev_isi2, ev_isi3, ev_isi4, ev_isi5, ev_isiT, ev_isi2K, ev_isTy, ev_list, ev_listK, ev_tuple, ev_tupK, ev_getST, ev_getSR, ev_getSL, ev_all, ev_allK, ev_eqXI, ev_eqXS, ev_neXI, ev_neXS, ev_neXB, ev_eqXB, ev_eqXR, ev_neXR, ev_nil2, ev_eqK, ev_neK, ev_meth, ev_meth0, ev_mth1, ev_mth2, ev_mth3, ev_append, ev_m0, ev_m0K, ev_str, ev_for, ev_miR1, ev_rg1K, ev_miL, ev_liK, ev_miT, ev_tiK, ev_lc, ev_wipe0, ev_wipeS, ev_yes, ev_lenSet, ev_lenSetK, ev_listR, ev_lrK, ev_put2, ev_p2A, ev_p2K, ev_p2E, ev_put1, ev_pt1, ev_addXI, ev_addXB, ev_addXS, ev_addXT, ev_addXL, ev_subXI, ev_subXB, ev_mulXI, ev_mulXB, ev_mulXL, ev_negXI, ev_negXB, ev_strXI, ev_strXB, List.getElem?_cons_zero, List.getElem?_cons_succ, List.set_cons_zero, List.set_cons_succ, List.length_cons, List.length_nil, List.cons_append, List.nil_append, if_true, if_false, Bool.false_eq_true, Bool.true_eq_false, reduceIte, Bool.not_true, Bool.not_false, Bool.and_true, Bool.true_and, Bool.and_false, Bool.false_and, Bool.or_true, Bool.true_or, Bool.or_false, Bool.false_or, decide_eq_true_eq, Nat.reduceAdd, Nat.reduceLeDiff, Nat.zero_add, Int.reduceLT, Int.reduceLE, Int.reduceEq, Int.reduceNeg, Nat.reduceEqDiff, and_self, and_true, true_and, decide_true, decide_false, eq_self, ite_true, ite_false, Int.reduceSub, Int.reduceAdd, Int.cast_ofNat_Int, Int.natCast_add, Int.cast_ofNat_Int, Nat.reduceSub, Nat.add_assoc, String.reduceBEq, String.reduceEq, Bool.or_not_self, beq_self_eq_true, e1, wholeA, withinA, c]
    · simp only [ev_bok, ev_bno, ev_bex, ev_tok, ev_tno, ev_tex, ev_nnx, ev_nrt, ev_nbk, ev_nct, ev_nex, ev_nno, ev_frt, ev_fnx, ev_fex, ev_xok, ev_lsome, ev_lnone, ev_seq, ev_if, ev_ret, ev_retN, ev_drop, ev_nop, ev_brk, ev_cont, ev_asgN, ev_asgT, ev_asgO, ev_mgTup, ev_mgN, ev_mgC, ev_mg0, ev_putL, ev_putO, ev_var, ev_vr, ev_c, ev_op, ev_un, ev_test, ev_tb, ev_notT, ev_andT, ev_orT, ev_ifE, ev_not, ev_nb, ev_and, ev_andK, ev_or, ev_orK, ev_chain, ev_chK, ev_nil, ev_cons, ev_tup, ev_lst, ev_new, ev_call, ev_cb, ev_size, ev_addI, ev_addS, ev_addT, ev_addL, ev_catO, ev_sub, ev_mul, ev_div, ev_mod, ev_p5, ev_p6, ev_p12, ev_p18, ev_p30, ev_neg, ev_ltI, ev_ltS, ev_leI, ev_leS, ev_gt, ev_ge, ev_eqI, ev_eqS, ev_neI, ev_neS, ev_neB, ev_eqB, ev_is, ev_isnot, ev_ixT, ev_ixS, ev_ixR, ev_ixL, ev_ixK, ev_getL, ev_getM, ev_gL, ev_gM, ev_at0, ev_at1, ev_at2, ev_at3, ev_at4, ev_lenS, ev_lenR, ev_lenT, ev_lenL, ev_lenO, ev_lenD, ev_abs, ev_min2, ev_max2, ev_intI, ev_intB, ev_set, ev_fc, ev_setset, ev_last, ev_appk, ev_app0, ev_setk, ev_set0, ev_assoc, ev_lapp, ev_lappA, ev_sl, ev_nopart, ev_part, ev_ptK, ev_slT, ev_slS, ev_slR, ev_slK, ev_tyN, ev_tyB, ev_tyI, ev_tyS, ev_tyT, ev_tyL, ev_tyR, ev_tyRL, ev_isi, ev_isi1, ev_isi2, ev_isi3, ev_isi4, ev_isi5, ev_isiT, ev_isi2K, ev_isTy, ev_list, ev_listK, ev_tuple, ev_tupK, ev_getST, ev_getSR, ev_getSL, ev_all, ev_allK, ev_eqXI, ev_eqXS, ev_neXI, ev_neXS, ev_neXB, ev_eqXB, ev_eqXR, ev_neXR, ev_nil2, ev_eqK, ev_neK, ev_meth, ev_meth0, ev_mth1, ev_mth2, ev_mth3, ev_append, ev_m0, ev_m0K, ev_str, ev_for, ev_miR1, ev_rg1K, ev_miL, ev_liK, ev_miT, ev_tiK, ev_lc, ev_wipe0, ev_wipeS, ev_yes, ev_lenSet, ev_lenSetK, ev_listR, ev_lrK, ev_put2, ev_p2A, ev_p2K, ev_p2E, ev_put1, ev_pt1, ev_addXI, ev_addXB, ev_addXS, ev_addXT, ev_addXL, ev_subXI, ev_subXB, ev_mulXI, ev_mulXB, ev_mulXL, ev_negXI, ev_negXB, ev_strXI, ev_strXB, List.getElem?_cons_zero, List.getElem?_cons_succ, List.set_cons_zero, List.set_cons_succ, List.length_cons, List.length_nil, List.cons_append, List.nil_append, if_true, if_false, Bool.false_eq_true, Bool.true_eq_false, reduceIte, Bool.not_true, Bool.not_false, Bool.and_true, Bool.true_and, Bool.and_false, Bool.false_and, Bool.or_true, Bool.true_or, Bool.or_false, Bool.false_or, decide_eq_true_eq, Nat.reduceAdd, Nat.reduceLeDiff, Nat.zero_add, Int.reduceLT, Int.reduceLE, Int.reduceEq, Int.reduceNeg, Nat.reduceEqDiff, and_self, and_true, true_and, decide_true, decide_false, eq_self, ite_true, ite_false, Int.reduceSub, Int.reduceAdd, Int.cast_ofNat_Int, Int.natCast_add, Int.cast_ofNat_Int, Nat.reduceSub, Nat.add_assoc, String.reduceBEq, String.reduceEq, Bool.or_not_self, beq_self_eq_true, e1, wholeA, withinA, c]
  | _ => simp only [ev_bok, ev_bno, ev_bex, ev_tok, ev_tno, ev_tex, ev_nnx, ev_nrt, ev_nbk, ev_nct, ev_nex, ev_nno, ev_frt, ev_fnx, ev_fex, ev_xok, ev_lsome, ev_lnone, ev_seq, ev_if, ev_ret, ev_retN, ev_drop, ev_nop, ev_brk, ev_cont, ev_asgN, ev_asgT, ev_asgO, ev_mgTup, ev_mgN, ev_mgC, ev_mg0, ev_putL, ev_putO, ev_var, ev_vr, ev_c, ev_op, ev_un, ev_test, ev_tb, ev_notT, ev_andT, ev_orT, ev_ifE, ev_not, ev_nb, ev_and, ev_andK, ev_or, ev_orK, ev_chain, ev_chK, ev_nil, ev_cons, ev_tup, ev_lst, ev_new, ev_call, ev_cb, ev_size, ev_addI, ev_addS, ev_addT, ev_addL, ev_catO, ev_sub, ev_mul, ev_div, ev_mod, ev_p5, ev_p6, ev_p12, ev_p18, ev_p30, ev_neg, ev_ltI, ev_ltS, ev_leI, ev_leS, ev_gt, ev_ge, ev_eqI, ev_eqS, ev_neI, ev_neS, ev_neB, ev_eqB, ev_is, ev_isnot, ev_ixT, ev_ixS, ev_ixR, ev_ixL, ev_ixK, ev_getL, ev_getM, ev_gL, ev_gM, ev_at0, ev_at1, ev_at2, ev_at3, ev_at4, ev_lenS, ev_lenR, ev_lenT, ev_lenL, ev_lenO, ev_lenD, ev_abs, ev_min2, ev_max2, ev_intI, ev_intB, ev_set, ev_fc, ev_setset, ev_last, ev_appk, ev_app0, ev_setk, ev_set0, ev_assoc, ev_lapp, ev_lappA, ev_sl, ev_nopart, ev_part, ev_ptK, ev_slT, ev_slS, ev_slR, ev_slK, ev_tyN, ev_tyB, ev_tyI, ev_tyS, ev_tyT, ev_tyL, ev_tyR, ev_tyRL, ev_isi, ev_isi1, ev_isi2, ev_isi3, ev_isi4, ev_isi5, ev_isiT, ev_isi2K, ev_isTy, ev_list, ev_listK, ev_tuple, ev_tupK, ev_getST, ev_getSR, ev_getSL, ev_all, ev_allK, ev_eqXI, ev_eqXS, ev_neXI, ev_neXS, ev_neXB, ev_eqXB, ev_eqXR, ev_neXR, ev_nil2, ev_eqK, ev_neK, ev_meth, ev_meth0, ev_mth1, ev_mth2, ev_mth3, ev_append, ev_m0, ev_m0K, ev_str, ev_for, ev_miR1, ev_rg1K, ev_miL, ev_liK, ev_miT, ev_tiK, ev_lc, ev_wipe0, ev_wipeS, ev_yes, ev_lenSet, ev_lenSetK, ev_listR, ev_lrK, ev_put2, ev_p2A, ev_p2K, ev_p2E, ev_put1, ev_pt1, ev_addXI, ev_addXB, ev_addXS, ev_addXT, ev_addXL, ev_subXI, ev_subXB, ev_mulXI, ev_mulXB, ev_mulXL, ev_negXI, ev_negXB, ev_strXI, ev_strXB, List.getElem?_cons_zero, List.getElem?_cons_succ, List.set_cons_zero, List.set_cons_succ, List.length_cons, List.length_nil, List.cons_append, List.nil_append, if_true, if_false, Bool.false_eq_true, Bool.true_eq_false, reduceIte, Bool.not_true, Bool.not_false, Bool.and_true, Bool.true_and, Bool.and_false, Bool.false_and, Bool.or_true, Bool.true_or, Bool.or_false, Bool.false_or, decide_eq_true_eq, Nat.reduceAdd, Nat.reduceLeDiff, Nat.zero_add, Int.reduceLT, Int.reduceLE, Int.reduceEq, Int.reduceNeg, Nat.reduceEqDiff, and_self, and_true, true_and, decide_true, decide_false, eq_self, ite_true, ite_false, Int.reduceSub, Int.reduceAdd, Int.cast_ofNat_Int, Int.natCast_add, Int.cast_ofNat_Int, Nat.reduceSub, Nat.add_assoc, String.reduceBEq, String.reduceEq, Bool.or_not_self, beq_self_eq_true, e1, wholeA, withinA]
theorem tuple_ev {st : Sto} {a : A} {lo hi : Int} (h : ∃ t, tyA st a = some t) : m_is_tuple [a, .int lo, .int hi] st = .ok (.bl (tupleA lo hi a)) st := by
  obtain ⟨t, ht⟩ := h
  rw [st_is_tuple]
  unfold b_is_tuple
  cases a with
  | tup xs =>
    by_cases c : lo ≤ xs.length
    · simp only [ev_bok, ev_bno, ev_bex, ev_tok, ev_tno, ev_tex, ev_nnx, ev_nrt, ev_nbk, ev_nct, ev_nex, ev_nno, ev_frt, ev_fnx, ev_fex, ev_xok, ev_lsome, ev_lnone, ev_seq, ev_if, ev_ret, ev_retN, ev_drop, ev_nop, ev_brk, ev_cont, ev_asgN, ev_asgT, ev_asgO, ev_mgTup, ev_mgN, ev_mgC, ev_mg0, ev_putL, ev_putO, ev_var, ev_vr, ev_c, ev_op, ev_un, ev_test, ev_tb, ev_notT, ev_andT, ev_orT, ev_ifE, ev_not, ev_nb, ev_and, ev_andK, ev_or, ev_orK, ev_chain, ev_chK, ev_nil, ev_cons, ev_tup, ev_lst, ev_new, ev_call, ev_cb, ev_size, ev_addI, ev_addS, ev_addT, ev_addL, ev_catO, ev_sub, ev_mul, ev_div, ev_mod, ev_p5, ev_p6, ev_p12, ev_p18, ev_p30, ev_neg, ev_ltI, ev_ltS, ev_leI, ev_leS, ev_gt, ev_ge, ev_eqI, ev_eqS, ev_neI, ev_neS, ev_neB, ev_eqB, ev_is, ev_isnot, ev_ixT, ev_ixS, ev_ixR, ev_ixL, ev_ixK, ev_getL, ev_getM, ev_gL, ev_gM, ev_at0, ev_at1, ev_at2, ev_at3, ev_at4, ev_lenS, ev_lenR, ev_lenT, ev_lenL, ev_lenO, ev_lenD, ev_abs, ev_min2, ev_max2, ev_intI, ev_intB, ev_set, ev_fc, ev_setset, ev_last, ev_appk, ev_app0, ev_setk, ev_set0, ev_assoc, ev_lapp, ev_lappA, ev_sl, ev_nopart, ev_part, ev_ptK, ev_slT, ev_slS, ev_slR, ev_slK, ev_tyN, ev_tyB, ev_tyI, ev_tyS, ev_tyT, ev_tyL, ev_tyR, ev_tyRL, ev_isi, ev_isi1, ev_isi2, ev_isi3, ev_isi4, ev_isi5, ev_isiT, ev_isi2K, ev_isTy, ev_list, ev_listK, ev_tuple, ev_tupK, ev_getST, ev_getSR, ev_getSL, ev_all, ev_allK, ev_eqXI, ev_eqXS, ev_neXI, ev_neXS, ev_neXB, ev_eqXB, ev_eqXR, ev_neXR, ev_nil2, ev_eqK, ev_neK, ev_meth, ev_meth0, ev_mth1, ev_mth2, ev_mth3, ev_append, ev_m0, ev_m0K, ev_str, ev_for, ev_miR1, ev_rg1K, ev_miL, ev_liK, ev_miT, ev_tiK, ev_lc, ev_wipe0, ev_wipeS, ev_yes, ev_lenSet, ev_lenSetK, ev_listR, ev_lrK, ev_put2, ev_p2A, ev_p2K, ev_p2E, ev_put1, ev_pt1, ev_addXI, ev_addXB, ev_addXS, ev_addXT, ev_addXL, ev_subXI, ev_subXB, ev_mulXI, ev_mulXB, ev_mulXL, ev_negXI, ev_negXB, ev_strXI, ev_strXB, List.getElem?_cons_zero, List.getElem?_cons_succ, List.set_cons_zero, List.set_cons_succ, List.length_cons, List.length_nil, List.cons_append, List.nil_append, if_true, if_false, Bool.false_eq_true, Bool.true_eq_false, reduceIte, Bool.not_true, Bool.not_false, Bool.and_true, Bool.true_and, Bool.and_false, Bool.false_and, Bool.or_true, Bool.true_or, Bool.or_false, Bool.false_or, decide_eq_true_eq, Nat.reduceAdd, Nat.reduceLeDiff, Nat.zero_add, Int.reduceLT, Int.reduceLE, Int.reduceEq, Int.reduceNeg, Nat.reduceEqDiff, and_self, and_true, true_and, decide_true, decide_false, eq_self, ite_true, ite_false, Int.reduceSub, Int.reduceAdd, Int.cast_ofNat_Int, Int.natCast_add, Int.cast_ofNat_Int, Nat.reduceSub, Nat.add_assoc, String.reduceBEq, String.reduceEq, Bool.or_not_self, beq_self_eq_true, tupleA, c]
    · simp only [ev_bok, ev_bno, ev_bex, ev_tok, ev_tno, ev_tex, ev_nnx, ev_nrt, ev_nbk, ev_nct, ev_nex, ev_nno, ev_frt, ev_fnx, ev_fex, ev_xok, ev_lsome, ev_lnone, ev_seq, ev_if, ev_ret, ev_retN, ev_drop, ev_nop, ev_brk, ev_cont, ev_asgN, ev_asgT, ev_asgO, ev_mgTup, ev_mgN, ev_mgC, ev_mg0, ev_putL, ev_putO, ev_var, ev_vr, ev_c, ev_op, ev_un, ev_test, ev_tb, ev_notT, ev_andT, ev_orT, ev_ifE, ev_not, ev_nb, ev_and, ev_andK, ev_or, ev_orK, ev_chain, ev_chK, ev_nil, ev_cons, ev_tup, ev_lst, ev_new, ev_call, ev_cb, ev_size, ev_addI, ev_addS, ev_addT, ev_addL, ev_catO, ev_sub, ev_mul, ev_div, ev_mod, ev_p5, ev_p6, ev_p12, ev_p18, ev_p30, ev_neg, ev_ltI, ev_ltS, ev_leI, ev_leS, ev_gt, ev_ge, ev_eqI, ev_eqS, ev_neI, ev_neS, ev_neB, ev_eqB, ev_is, ev_isnot, ev_ixT, ev_ixS, ev_ixR, ev_ixL, ev_ixK, ev_getL, ev_getM, ev_gL, ev_gM, ev_at0, ev_at1, ev_at2, ev_at3, ev_at4, ev_lenS, ev_lenR, ev_lenT, ev_lenL, ev_lenO, ev_lenD, ev_abs, ev_min2, ev_max2, ev_intI, ev_intB, ev_set, ev_fc, ev_setset, ev_last, ev_appk, ev_app0, ev_setk, ev_set0, ev_assoc, ev_lapp, ev_lappA, ev_sl, ev_nopart, ev_part, ev_ptK, ev_slT, ev_slS, ev_slR, ev_slK, ev_tyN, ev_tyB, ev_tyI, ev_tyS, ev_tyT, ev_tyL, ev_tyR, ev_tyRL, ev_isi, ev_isi1, ev_isi2, ev_isi3, ev_isi4, ev_isi5, ev_isiT, ev_isi2K, ev_isTy, ev_list, ev_listK, ev_tuple, ev_tupK, ev_getST, ev_getSR, ev_getSL, ev_all, ev_allK, ev_eqXI, ev_eqXS, ev_neXI, ev_neXS, ev_neXB, ev_eqXB, ev_eqXR, ev_neXR, ev_nil2, ev_eqK, ev_neK, ev_meth, ev_meth0, ev_mth1, ev_mth2, ev_mth3, ev_append, ev_m0, ev_m0K, ev_str, ev_for, ev_miR1, ev_rg1K, ev_miL, ev_liK, ev_miT, ev_tiK, ev_lc, ev_wipe0, ev_wipeS, ev_yes, ev_lenSet, ev_lenSetK, ev_listR, ev_lrK, ev_put2, ev_p2A, ev_p2K, ev_p2E, ev_put1, ev_pt1, ev_addXI, ev_addXB, ev_addXS, ev_addXT, ev_addXL, ev_subXI, ev_subXB, ev_mulXI, ev_mulXB, ev_mulXL, ev_negXI, ev_negXB, ev_strXI, ev_strXB, List.getElem?_cons_zero, List.getElem?_cons_succ, List.set_cons_zero, List.set_cons_succ, List.length_cons, List.length_nil, List.cons_append, List.nil_append, if_true, if_false, Bool.false_eq_true, Bool.true_eq_false, reduceIte, Bool.not_true, Bool.not_false, Bool.and_true, Bool.true_and, Bool.and_false, Bool.false_and, Bool.or_true, Bool.true_or, Bool.or_false, Bool.false_or, decide_eq_true_eq, Nat.reduceAdd, Nat.reduceLeDiff, Nat.zero_add, Int.reduceLT, Int.reduceLE, Int.reduceEq, Int.reduceNeg, Nat.reduceEqDiff, and_self, and_true, true_and, decide_true, decide_false, eq_self, ite_true, ite_false, Int.reduceSub, Int.reduceAdd, Int.cast_ofNat_Int, Int.natCast_add, Int.cast_ofNat_Int, Nat.reduceSub, Nat.add_assoc, String.reduceBEq, String.reduceEq, Bool.or_not_self, beq_self_eq_true, tupleA, c]
  | ref n =>
    obtain ⟨xs, e⟩ := ty_ref ht
    simp only [ev_bok, ev_bno, ev_bex, ev_tok, ev_tno, ev_tex, ev_nnx, ev_nrt, ev_nbk, ev_nct, ev_nex, ev_nno, ev_frt, ev_fnx, ev_fex, ev_xok, ev_lsome, ev_lnone, ev_seq, ev_if, ev_ret, ev_retN, ev_drop, ev_nop, ev_brk, ev_cont, ev_asgN, ev_asgT, ev_asgO, ev_mgTup, ev_mgN, ev_mgC, ev_mg0, ev_putL, ev_putO, ev_var, ev_vr, ev_c, ev_op, ev_un, ev_test, ev_tb, ev_notT, ev_andT, ev_orT, ev_ifE, ev_not, ev_nb, ev_and, ev_andK, ev_or, ev_orK, ev_chain, ev_chK, ev_nil, ev_cons, ev_tup, ev_lst, ev_new, ev_call, ev_cb, ev_size, ev_addI, ev_addS, ev_addT, ev_addL, ev_catO, ev_sub, ev_mul, ev_div, ev_mod, ev_p5, ev_p6, ev_p12, ev_p18, ev_p30, ev_neg, ev_ltI, ev_ltS, ev_leI, ev_leS, ev_gt, ev_ge, ev_eqI, ev_eqS, ev_neI, ev_neS, ev_neB, ev_eqB, ev_is, ev_isnot, ev_ixT, ev_ixS, ev_ixR, ev_ixL, ev_ixK, ev_getL, ev_getM, ev_gL, ev_gM, ev_at0, ev_at1, ev_at2, ev_at3, ev_at4, ev_lenS, ev_lenR, ev_lenT, ev_lenL, ev_lenO, ev_lenD, ev_abs, ev_min2, ev_max2, ev_intI, ev_intB, ev_set, ev_fc, ev_setset, ev_last, ev_appk, ev_app0, ev_setk, ev_set0, ev_assoc, ev_lapp, ev_lappA, ev_sl, ev_nopart, ev_part, ev_ptK, ev_slT, ev_slS, ev_slR, ev_slK, ev_tyN, ev_tyB, ev_tyI, ev_tyS, ev_tyT, ev_tyL, ev_tyR, ev_tyRL, ev_isi, ev_isi1, ev_isi2, ev_isi3, ev_isi4, ev_isi5, ev_isiT, ev_isi2K, ev_isTy, ev_list, ev_listK, ev_tuple, ev_tupK, ev_getST, ev_getSR, ev_getSL, ev_all, ev_allK, ev_eqXI, ev_eqXS, ev_neXI, ev_neXS, ev_neXB, ev_eqXB, ev_eqXR, ev_neXR, ev_nil2, ev_eqK, ev_neK, ev_meth, ev_meth0, ev_mth1, ev_mth2, ev_mth3, ev_append, ev_m0, ev_m0K, ev_str, ev_for, ev_miR1, ev_rg1K, ev_miL, ev_liK, ev_miT, ev_tiK, ev_lc, ev_wipe0, ev_wipeS, ev_yes, ev_lenSet, ev_lenSetK, ev_listR, ev_lrK, ev_put2, ev_p2A, ev_p2K, ev_p2E, ev_put1, ev_pt1, ev_addXI, ev_addXB, ev_addXS, ev_addXT, ev_addXL, ev_subXI, ev_subXB, ev_mulXI, ev_mulXB, ev_mulXL, ev_negXI, ev_negXB, ev_strXI, ev_strXB, List.getElem?_cons_zero, List.getElem?_cons_succ, List.set_cons_zero, List.set_cons_succ, List.length_cons, List.length_nil, List.cons_append, List.nil_append, if_true, if_false, Bool.false_eq_true, Bool.true_eq_false, reduceIte, Bool.not_true, Bool.not_false, Bool.and_true, Bool.true_and, Bool.and_false, Bool.false_and, Bool.or_true, Bool.true_or, Bool.or_false, Bool.false_or, decide_eq_true_eq, Nat.reduceAdd, Nat.reduceLeDiff, Nat.zero_add, Int.reduceLT, Int.reduceLE, Int.reduceEq, Int.reduceNeg, Nat.reduceEqDiff, and_self, and_true, true_and, decide_true, decide_false, eq_self, ite_true, ite_false, Int.reduceSub, Int.reduceAdd, Int.cast_ofNat_Int, Int.natCast_add, Int.cast_ofNat_Int, Nat.reduceSub, Nat.add_assoc, String.reduceBEq, String.reduceEq, Bool.or_not_self, beq_self_eq_true, e, tupleA]
  | adr x => cases ht
  | ty x => cases ht
  | _ => simp only [ev_bok, ev_bno, ev_bex, ev_tok, ev_tno, ev_tex, ev_nnx, ev_nrt, ev_nbk, ev_nct, ev_nex, ev_nno, ev_frt, ev_fnx, ev_fex, ev_xok, ev_lsome, ev_lnone, ev_seq, ev_if, ev_ret, ev_retN, ev_drop, ev_nop, ev_brk, ev_cont, ev_asgN, ev_asgT, ev_asgO, ev_mgTup, ev_mgN, ev_mgC, ev_mg0, ev_putL, ev_putO, ev_var, ev_vr, ev_c, ev_op, ev_un, ev_test, ev_tb, ev_notT, ev_andT, ev_orT, ev_ifE, ev_not, ev_nb, ev_and, ev_andK, ev_or, ev_orK, ev_chain, ev_chK, ev_nil, ev_cons, ev_tup, ev_lst, ev_new, ev_call, ev_cb, ev_size, ev_addI, ev_addS, ev_addT, ev_addL, ev_catO, ev_sub, ev_mul, ev_div, ev_mod, ev_p5, ev_p6, ev_p12, ev_p18, ev_p30, ev_neg, ev_ltI, ev_ltS, ev_leI, ev_leS, ev_gt, ev_ge, ev_eqI, ev_eqS, ev_neI, ev_neS, ev_neB, ev_eqB, ev_is, ev_isnot, ev_ixT, ev_ixS, ev_ixR, ev_ixL, ev_ixK, ev_getL, ev_getM, ev_gL, ev_gM, ev_at0, ev_at1, ev_at2, ev_at3, ev_at4, ev_lenS, ev_lenR, ev_lenT, ev_lenL, ev_lenO, ev_lenD, ev_abs, ev_min2, ev_max2, ev_intI, ev_intB, ev_set, ev_fc, ev_setset, ev_last, ev_appk, ev_app0, ev_setk, ev_set0, ev_assoc, ev_lapp, ev_lappA, ev_sl, ev_nopart, ev_part, ev_ptK, ev_slT, ev_slS, ev_slR, ev_slK, ev_tyN, ev_tyB, ev_tyI, ev_tyS, ev_tyT, ev_tyL, ev_tyR, ev_tyRL, ev_isi, ev_isi1, ev_isi2, ev_isi3, ev_isi4, ev_isi5, ev_isiT, ev_isi2K, ev_isTy, ev_list, ev_listK, ev_tuple, ev_tupK, ev_getST, ev_getSR, ev_getSL, ev_all, ev_allK, ev_eqXI, ev_eqXS, ev_neXI, ev_neXS, ev_neXB, ev_eqXB, ev_eqXR, ev_neXR, ev_nil2, ev_eqK, ev_neK, ev_meth, ev_meth0, ev_mth1, ev_mth2, ev_mth3, ev_append, ev_m0, ev_m0K, ev_str, ev_for, ev_miR1, ev_rg1K, ev_miL, ev_liK, ev_miT, ev_tiK, ev_lc, ev_wipe0, ev_wipeS, ev_yes, ev_lenSet, ev_lenSetK, ev_listR, ev_lrK, ev_put2, ev_p2A, ev_p2K, ev_p2E, ev_put1, ev_pt1, ev_addXI, ev_addXB, ev_addXS, ev_addXT, ev_addXL, ev_subXI, ev_subXB, ev_mulXI, ev_mulXB, ev_mulXL, ev_negXI, ev_negXB, ev_strXI, ev_strXB, List.getElem?_cons_zero, List.getElem?_cons_succ, List.set_cons_zero, List.set_cons_succ, List.length_cons, List.length_nil, List.cons_append, List.nil_append, if_true, if_false, Bool.false_eq_true, Bool.true_eq_false, reduceIte, Bool.not_true, Bool.not_false, Bool.and_true, Bool.true_and, Bool.and_false, Bool.false_and, Bool.or_true, Bool.true_or, Bool.or_false, Bool.false_or, decide_eq_true_eq, Nat.reduceAdd, Nat.reduceLeDiff, Nat.zero_add, Int.reduceLT, Int.reduceLE, Int.reduceEq, Int.reduceNeg, Nat.reduceEqDiff, and_self, and_true, true_and, decide_true, decide_false, eq_self, ite_true, ite_false, Int.reduceSub, Int.reduceAdd, Int.cast_ofNat_Int, Int.natCast_add, Int.cast_ofNat_Int, Nat.reduceSub, Nat.add_assoc, String.reduceBEq, String.reduceEq, Bool.or_not_self, beq_self_eq_true, tupleA]

theorem number_ev {st : Sto} {a : A} (h : ∃ t, tyA st a = some t) : m_is_number [a] st = .ok (.bl (numA a)) st := by
  have e1 := whole_ev h
  rw [st_is_number]
  unfold b_is_number
  cases a with
  | int i => simp only [ev_bok, ev_bno, ev_bex, ev_tok, ev_tno, ev_tex, ev_nnx, ev_nrt, ev_nbk, ev_nct, ev_nex, ev_nno, ev_frt, ev_fnx, ev_fex, ev_xok, ev_lsome, ev_lnone, ev_seq, ev_if, ev_ret, ev_retN, ev_drop, ev_nop, ev_brk, ev_cont, ev_asgN, ev_asgT, ev_asgO, ev_mgTup, ev_mgN, ev_mgC, ev_mg0, ev_putL, ev_putO, ev_var, ev_vr, ev_c, ev_op, ev_un, ev_test, ev_tb, ev_notT, ev_andT, ev_orT, ev_ifE, ev_not, ev_nb, ev_and, ev_andK, ev_or, ev_orK, ev_chain, ev_chK, ev_nil, ev_cons, ev_tup, ev_lst, ev_new, ev_call, ev_cb, ev_size, ev_addI, ev_addS, ev_addT, ev_addL, ev_catO, ev_sub, ev_mul, ev_div, ev_mod, ev_p5, ev_p6, ev_p12, ev_p18, ev_p30, ev_neg, ev_ltI, ev_ltS, ev_leI, ev_leS, ev_gt, ev_ge, ev_eqI, ev_eqS, ev_neI, ev_neS, ev_neB, ev_eqB, ev_is, ev_isnot, ev_ixT, ev_ixS, ev_ixR, ev_ixL, ev_ixK, ev_getL, ev_getM, ev_gL, ev_gM, ev_at0, ev_at1, ev_at2, ev_at3, ev_at4, ev_lenS, ev_lenR, ev_lenT, ev_lenL, ev_lenO, ev_lenD, ev_abs, ev_min2, ev_max2, ev_intI, ev_intB, ev_set, ev_fc, ev_setset, ev_last, ev_appk, ev_app0, ev_setk, ev_set0, ev_assoc, ev_lapp, ev_lappA, ev_sl, ev_nopart, ev_part, ev_ptK, ev_slT, ev_slS, ev_slR, ev_slK, ev_tyN, ev_tyB, ev_tyI, ev_tyS, ev_tyT, ev_tyL, ev_tyR, ev_tyRL, ev_isi, ev_isi1, ev_isi2, ev_isi3, ev_isi4, ev_isi5, ev_isiT, ev_isi2K, ev_isTy, ev_list, ev_listK, ev_tuple, ev_tupK, ev_getST, ev_getSR, ev_getSL, ev_all, ev_allK, ev_eqXI, ev_eqXS, ev_neXI, ev_neXS, ev_neXB, ev_eqXB, ev_eqXR, ev_neXR, ev_nil2, ev_eqK, ev_neK, ev_meth, ev_meth0, ev_mth1, ev_mth2, ev_mth3, ev_append, ev_m0, ev_m0K, ev_str, ev_for, ev_miR1, ev_rg1K, ev_miL, ev_liK, ev_miT, ev_tiK, ev_lc, ev_wipe0, ev_wipeS, ev_yes, ev_lenSet, ev_lenSetK, ev_listR, ev_lrK, ev_put2, ev_p2A, ev_p2K, ev_p2E, ev_put1, ev_pt1, ev_addXI, ev_addXB, ev_addXS, ev_addXT, ev_addXL, ev_subXI, ev_subXB, ev_mulXI, ev_mulXB, ev_mulXL, ev_negXI, ev_negXB, ev_strXI, ev_strXB, List.getElem?_cons_zero, List.getElem?_cons_succ, List.set_cons_zero, List.set_cons_succ, List.length_cons, List.length_nil, List.cons_append, List.nil_append, if_true, if_false, Bool.false_eq_true, Bool.true_eq_false, reduceIte, Bool.not_true, Bool.not_false, Bool.and_true, Bool.true_and, Bool.and_false, Bool.false_and, Bool.or_true, Bool.true_or, Bool.or_false, Bool.false_or, decide_eq_true_eq, Nat.reduceAdd, Nat.reduceLeDiff, Nat.zero_add, Int.reduceLT, Int.reduceLE, Int.reduceEq, Int.reduceNeg, Nat.reduceEqDiff, and_self, and_true, true_and, decide_true, decide_false, eq_self, ite_true, ite_false, Int.reduceSub, Int.reduceAdd, Int.cast_ofNat_Int, Int.natCast_add, Int.cast_ofNat_Int, Nat.reduceSub, Nat.add_assoc, String.reduceBEq, String.reduceEq, Bool.or_not_self, beq_self_eq_true, e1, wholeA, numA]
  | _ => simp only [ev_bok, ev_bno, ev_bex, ev_tok, ev_tno, ev_tex, ev_nnx, ev_nrt, ev_nbk, ev_nct, ev_nex, ev_nno, ev_frt, ev_fnx, ev_fex, ev_xok, ev_lsome, ev_lnone, ev_seq, ev_if, ev_ret, ev_retN, ev_drop, ev_nop, ev_brk, ev_cont, ev_asgN, ev_asgT, ev_asgO, ev_mgTup, ev_mgN, ev_mgC, ev_mg0, ev_putL, ev_putO, ev_var, ev_vr, ev_c, ev_op, ev_un, ev_test, ev_tb, ev_notT, ev_andT, ev_orT, ev_ifE, ev_not, ev_nb, ev_and, ev_andK, ev_or, ev_orK, ev_chain, ev_chK, ev_nil, ev_cons, ev_tup, ev_lst, ev_new, ev_call, ev_cb, ev_size, ev_addI, ev_addS, ev_addT, ev_addL, ev_catO, ev_sub, ev_mul, ev_div, ev_mod, ev_p5, ev_p6, ev_p12, ev_p18, ev_p30, ev_neg, ev_ltI, ev_ltS, ev_leI, ev_leS, ev_gt, ev_ge, ev_eqI, ev_eqS, ev_neI, ev_neS, ev_neB, ev_eqB, ev_is, ev_isnot, ev_ixT, ev_ixS, ev_ixR, ev_ixL, ev_ixK, ev_getL, ev_getM, ev_gL, ev_gM, ev_at0, ev_at1, ev_at2, ev_at3, ev_at4, ev_lenS, ev_lenR, ev_lenT, ev_lenL, ev_lenO, ev_lenD, ev_abs, ev_min2, ev_max2, ev_intI, ev_intB, ev_set, ev_fc, ev_setset, ev_last, ev_appk, ev_app0, ev_setk, ev_set0, ev_assoc, ev_lapp, ev_lappA, ev_sl, ev_nopart, ev_part, ev_ptK, ev_slT, ev_slS, ev_slR, ev_slK, ev_tyN, ev_tyB, ev_tyI, ev_tyS, ev_tyT, ev_tyL, ev_tyR, ev_tyRL, ev_isi, ev_isi1, ev_isi2, ev_isi3, ev_isi4, ev_isi5, ev_isiT, ev_isi2K, ev_isTy, ev_list, ev_listK, ev_tuple, ev_tupK, ev_getST, ev_getSR, ev_getSL, ev_all, ev_allK, ev_eqXI, ev_eqXS, ev_neXI, ev_neXS, ev_neXB, ev_eqXB, ev_eqXR, ev_neXR, ev_nil2, ev_eqK, ev_neK, ev_meth, ev_meth0, ev_mth1, ev_mth2, ev_mth3, ev_append, ev_m0, ev_m0K, ev_str, ev_for, ev_miR1, ev_rg1K, ev_miL, ev_liK, ev_miT, ev_tiK, ev_lc, ev_wipe0, ev_wipeS, ev_yes, ev_lenSet, ev_lenSetK, ev_listR, ev_lrK, ev_put2, ev_p2A, ev_p2K, ev_p2E, ev_put1, ev_pt1, ev_addXI, ev_addXB, ev_addXS, ev_addXT, ev_addXL, ev_subXI, ev_subXB, ev_mulXI, ev_mulXB, ev_mulXL, ev_negXI, ev_negXB, ev_strXI, ev_strXB, List.getElem?_cons_zero, List.getElem?_cons_succ, List.set_cons_zero, List.set_cons_succ, List.length_cons, List.length_nil, List.cons_append, List.nil_append, if_true, if_false, Bool.false_eq_true, Bool.true_eq_false, reduceIte, Bool.not_true, Bool.not_false, Bool.and_true, Bool.true_and, Bool.and_false, Bool.false_and, Bool.or_true, Bool.true_or, Bool.or_false, Bool.false_or, decide_eq_true_eq, Nat.reduceAdd, Nat.reduceLeDiff, Nat.zero_add, Int.reduceLT, Int.reduceLE, Int.reduceEq, Int.reduceNeg, Nat.reduceEqDiff, and_self, and_true, true_and, decide_true, decide_false, eq_self, ite_true, ite_false, Int.reduceSub, Int.reduceAdd, Int.cast_ofNat_Int, Int.natCast_add, Int.cast_ofNat_Int, Nat.reduceSub, Nat.add_assoc, String.reduceBEq, String.reduceEq, Bool.or_not_self, beq_self_eq_true, e1, wholeA, numA]

def rwS : List Str := ["read", "write"]
def leastA : A → Int
  | .str x => if x = ("write" : Str) then 1 else 0
  | _ => 0
def endA : A → A → Bool
  | .int i, e => withinA (i + 1) 1000000 e
  | _, _ => false
def rowH : A → Bool
  | .tup [t, k, v, b, e] => numA t && inW rwS k && withinA (leastA k) 999 v && withinA 0 1000000 b && endA b e
  | _ => false
theorem rwS_asc : ∀ x ∈ rwS, asc x = true := by decide +kernel
theorem five {xs : List A} (h : xs.length = 5) : ∃ t k v b e, xs = [t, k, v, b, e] := by
  match xs, h with
  | [t, k, v, b, e], _ => exact ⟨t, k, v, b, e, rfl⟩
theorem rowH_len {xs : List A} (h : xs.length ≠ 5) : rowH (.tup xs) = false := by
  unfold rowH
  split
  · rename_i t k v b e heq
    cases heq
    exact absurd rfl h
  · rfl
theorem hrow_ev {st : Sto} {E : Nat → Prop} {s d : Nat} {a : A} (hd : d ≤ 30) (h : gd st E s d a) : m_is_history_row [a] st = .ok (.bl (rowH a)) st := by
  have et : m_is_tuple [a, .int 5, .int 5] st = .ok (.bl (tupleA 5 5 a)) st := tuple_ev (gd_ty h)
  rw [st_is_history_row]
  unfold b_is_history_row
  by_cases h5 : ∃ t k v b e, a = .tup [t, k, v, b, e]
  · obtain ⟨t, k, v, b, e, rfl⟩ := h5
    have et : m_is_tuple [.tup [t, k, v, b, e], .int 5, .int 5] st = .ok (.bl true) st := et
    cases d with
    | zero => exact h.elim
    | succ d =>
      have hi : ∀ x ∈ [t, k, v, b, e], gd st E s d x := by
        rcases h with h | ⟨xs, e', h1, h2⟩ | ⟨n, xs, e', _⟩
        · exact h.elim
        · cases e'
          exact h2
        · cases e'
      have gt := hi t (by simp)
      have gk := hi k (by simp)
      have gv := hi v (by simp)
      have gb := hi b (by simp)
      have ge := hi e (by simp)
      have e1 := number_ev (gd_ty gt)
      have e2 : oNotInX k (.tup [.str "read", .str "write"]) st = .ok (.bl (!inW rwS k)) st := notIn_words (ws := rwS) rwS_asc (by omega) gk
      have e4 : m_is_within [b, .int 0, .int 1000000] st = .ok (.bl (withinA 0 1000000 b)) st := within_ev (gd_ty gb)
      have hr : rowH (.tup [t, k, v, b, e]) = (numA t && inW rwS k && withinA (leastA k) 999 v && withinA 0 1000000 b && endA b e) := rfl
      cases ht : numA t with
      | false =>
        rw [hr, ht]
        simp only [ev_bok, ev_bno, ev_bex, ev_tok, ev_tno, ev_tex, ev_nnx, ev_nrt, ev_nbk, ev_nct, ev_nex, ev_nno, ev_frt, ev_fnx, ev_fex, ev_xok, ev_lsome, ev_lnone, ev_seq, ev_if, ev_ret, ev_retN, ev_drop, ev_nop, ev_brk, ev_cont, ev_asgN, ev_asgT, ev_asgO, ev_mgTup, ev_mgN, ev_mgC, ev_mg0, ev_putL, ev_putO, ev_var, ev_vr, ev_c, ev_op, ev_un, ev_test, ev_tb, ev_notT, ev_andT, ev_orT, ev_ifE, ev_not, ev_nb, ev_and, ev_andK, ev_or, ev_orK, ev_chain, ev_chK, ev_nil, ev_cons, ev_tup, ev_lst, ev_new, ev_call, ev_cb, ev_size, ev_addI, ev_addS, ev_addT, ev_addL, ev_catO, ev_sub, ev_mul, ev_div, ev_mod, ev_p5, ev_p6, ev_p12, ev_p18, ev_p30, ev_neg, ev_ltI, ev_ltS, ev_leI, ev_leS, ev_gt, ev_ge, ev_eqI, ev_eqS, ev_neI, ev_neS, ev_neB, ev_eqB, ev_is, ev_isnot, ev_ixT, ev_ixS, ev_ixR, ev_ixL, ev_ixK, ev_getL, ev_getM, ev_gL, ev_gM, ev_at0, ev_at1, ev_at2, ev_at3, ev_at4, ev_lenS, ev_lenR, ev_lenT, ev_lenL, ev_lenO, ev_lenD, ev_abs, ev_min2, ev_max2, ev_intI, ev_intB, ev_set, ev_fc, ev_setset, ev_last, ev_appk, ev_app0, ev_setk, ev_set0, ev_assoc, ev_lapp, ev_lappA, ev_sl, ev_nopart, ev_part, ev_ptK, ev_slT, ev_slS, ev_slR, ev_slK, ev_tyN, ev_tyB, ev_tyI, ev_tyS, ev_tyT, ev_tyL, ev_tyR, ev_tyRL, ev_isi, ev_isi1, ev_isi2, ev_isi3, ev_isi4, ev_isi5, ev_isiT, ev_isi2K, ev_isTy, ev_list, ev_listK, ev_tuple, ev_tupK, ev_getST, ev_getSR, ev_getSL, ev_all, ev_allK, ev_eqXI, ev_eqXS, ev_neXI, ev_neXS, ev_neXB, ev_eqXB, ev_eqXR, ev_neXR, ev_nil2, ev_eqK, ev_neK, ev_meth, ev_meth0, ev_mth1, ev_mth2, ev_mth3, ev_append, ev_m0, ev_m0K, ev_str, ev_for, ev_miR1, ev_rg1K, ev_miL, ev_liK, ev_miT, ev_tiK, ev_lc, ev_wipe0, ev_wipeS, ev_yes, ev_lenSet, ev_lenSetK, ev_listR, ev_lrK, ev_put2, ev_p2A, ev_p2K, ev_p2E, ev_put1, ev_pt1, ev_addXI, ev_addXB, ev_addXS, ev_addXT, ev_addXL, ev_subXI, ev_subXB, ev_mulXI, ev_mulXB, ev_mulXL, ev_negXI, ev_negXB, ev_strXI, ev_strXB, List.getElem?_cons_zero, List.getElem?_cons_succ, List.set_cons_zero, List.set_cons_succ, List.length_cons, List.length_nil, List.cons_append, List.nil_append, if_true, if_false, Bool.false_eq_true, Bool.true_eq_false, reduceIte, Bool.not_true, Bool.not_false, Bool.and_true, Bool.true_and, Bool.and_false, Bool.false_and, Bool.or_true, Bool.true_or, Bool.or_false, Bool.false_or, decide_eq_true_eq, Nat.reduceAdd, Nat.reduceLeDiff, Nat.zero_add, Int.reduceLT, Int.reduceLE, Int.reduceEq, Int.reduceNeg, Nat.reduceEqDiff, and_self, and_true, true_and, decide_true, decide_false, eq_self, ite_true, ite_false, Int.reduceSub, Int.reduceAdd, Int.cast_ofNat_Int, Int.natCast_add, Int.cast_ofNat_Int, Nat.reduceSub, Nat.add_assoc, String.reduceBEq, String.reduceEq, Bool.or_not_self, beq_self_eq_true, et, e1, ht]
      | true =>
        cases hk : inW rwS k with
        | false =>
          rw [hr, ht, hk]
          simp only [ev_bok, ev_bno, ev_bex, ev_tok, ev_tno, ev_tex, ev_nnx, ev_nrt, ev_nbk, ev_nct, ev_nex, ev_nno, ev_frt, ev_fnx, ev_fex, ev_xok, ev_lsome, ev_lnone, ev_seq, ev_if, ev_ret, ev_retN, ev_drop, ev_nop, ev_brk, ev_cont, ev_asgN, ev_asgT, ev_asgO, ev_mgTup, ev_mgN, ev_mgC, ev_mg0, ev_putL, ev_putO, ev_var, ev_vr, ev_c, ev_op, ev_un, ev_test, ev_tb, ev_notT, ev_andT, ev_orT, ev_ifE, ev_not, ev_nb, ev_and, ev_andK, ev_or, ev_orK, ev_chain, ev_chK, ev_nil, ev_cons, ev_tup, ev_lst, ev_new, ev_call, ev_cb, ev_size, ev_addI, ev_addS, ev_addT, ev_addL, ev_catO, ev_sub, ev_mul, ev_div, ev_mod, ev_p5, ev_p6, ev_p12, ev_p18, ev_p30, ev_neg, ev_ltI, ev_ltS, ev_leI, ev_leS, ev_gt, ev_ge, ev_eqI, ev_eqS, ev_neI, ev_neS, ev_neB, ev_eqB, ev_is, ev_isnot, ev_ixT, ev_ixS, ev_ixR, ev_ixL, ev_ixK, ev_getL, ev_getM, ev_gL, ev_gM, ev_at0, ev_at1, ev_at2, ev_at3, ev_at4, ev_lenS, ev_lenR, ev_lenT, ev_lenL, ev_lenO, ev_lenD, ev_abs, ev_min2, ev_max2, ev_intI, ev_intB, ev_set, ev_fc, ev_setset, ev_last, ev_appk, ev_app0, ev_setk, ev_set0, ev_assoc, ev_lapp, ev_lappA, ev_sl, ev_nopart, ev_part, ev_ptK, ev_slT, ev_slS, ev_slR, ev_slK, ev_tyN, ev_tyB, ev_tyI, ev_tyS, ev_tyT, ev_tyL, ev_tyR, ev_tyRL, ev_isi, ev_isi1, ev_isi2, ev_isi3, ev_isi4, ev_isi5, ev_isiT, ev_isi2K, ev_isTy, ev_list, ev_listK, ev_tuple, ev_tupK, ev_getST, ev_getSR, ev_getSL, ev_all, ev_allK, ev_eqXI, ev_eqXS, ev_neXI, ev_neXS, ev_neXB, ev_eqXB, ev_eqXR, ev_neXR, ev_nil2, ev_eqK, ev_neK, ev_meth, ev_meth0, ev_mth1, ev_mth2, ev_mth3, ev_append, ev_m0, ev_m0K, ev_str, ev_for, ev_miR1, ev_rg1K, ev_miL, ev_liK, ev_miT, ev_tiK, ev_lc, ev_wipe0, ev_wipeS, ev_yes, ev_lenSet, ev_lenSetK, ev_listR, ev_lrK, ev_put2, ev_p2A, ev_p2K, ev_p2E, ev_put1, ev_pt1, ev_addXI, ev_addXB, ev_addXS, ev_addXT, ev_addXL, ev_subXI, ev_subXB, ev_mulXI, ev_mulXB, ev_mulXL, ev_negXI, ev_negXB, ev_strXI, ev_strXB, List.getElem?_cons_zero, List.getElem?_cons_succ, List.set_cons_zero, List.set_cons_succ, List.length_cons, List.length_nil, List.cons_append, List.nil_append, if_true, if_false, Bool.false_eq_true, Bool.true_eq_false, reduceIte, Bool.not_true, Bool.not_false, Bool.and_true, Bool.true_and, Bool.and_false, Bool.false_and, Bool.or_true, Bool.true_or, Bool.or_false, Bool.false_or, decide_eq_true_eq, Nat.reduceAdd, Nat.reduceLeDiff, Nat.zero_add, Int.reduceLT, Int.reduceLE, Int.reduceEq, Int.reduceNeg, Nat.reduceEqDiff, and_self, and_true, true_and, decide_true, decide_false, eq_self, ite_true, ite_false, Int.reduceSub, Int.reduceAdd, Int.cast_ofNat_Int, Int.natCast_add, Int.cast_ofNat_Int, Nat.reduceSub, Nat.add_assoc, String.reduceBEq, String.reduceEq, Bool.or_not_self, beq_self_eq_true, et, e1, ht, e2, hk]
        | true =>
          cases k with
          | str x =>
            have e3 : ∀ lo, m_is_within [v, .int lo, .int 999] st = .ok (.bl (withinA lo 999 v)) st := fun lo => within_ev (gd_ty gv)
            rw [hr, ht, hk]
            have fin : ∀ lo : Int, (if x = ("write" : Str) then (1 : Int) else 0) = lo → fin (((((if lo = 1 then (.ok (.int 1) st : Res A) else .ok (.int 0) st)).thenS [some (.tup [t, .str x, v, b, e]), some t, some (.str x), some v, some b, some e, none] fun a s => RF.fl (.nx [some (.tup [t, .str x, v, b, e]), some t, some (.str x), some v, some b, some e, some a]) s)).next (sSeq (sIf (mNotT (mTest (mCall 3 m_is_within (mCons (mVar 3) (mCons (mVar 6) (mCons (mC (.int 999)) mNil)))))) (sRet (mC (.bl false))) sNext) (sRet (mAnd (mCall 3 m_is_within (mCons (mVar 4) (mCons (mC (.int 0)) (mCons (mC (.int 1000000)) mNil)))) (mCall 3 m_is_within (mCons (mVar 5) (mCons (mOp oAddX (mVar 4) (mC (.int 1))) (mCons (mC (.int 1000000)) mNil)))))))) = .ok (.bl (withinA lo 999 v && withinA 0 1000000 b && endA b e)) st := fun lo hlo => by
              have hlo2 : lo = 1 ∨ lo = 0 := by
                by_cases c : x = ("write" : Str)
                · rw [if_pos c] at hlo
                  exact .inl hlo.symm
                · rw [if_neg c] at hlo
                  exact .inr hlo.symm
              have tail : fin (sSeq (sIf (mNotT (mTest (mCall 3 m_is_within (mCons (mVar 3) (mCons (mVar 6) (mCons (mC (.int 999)) mNil)))))) (sRet (mC (.bl false))) sNext) (sRet (mAnd (mCall 3 m_is_within (mCons (mVar 4) (mCons (mC (.int 0)) (mCons (mC (.int 1000000)) mNil)))) (mCall 3 m_is_within (mCons (mVar 5) (mCons (mOp oAddX (mVar 4) (mC (.int 1))) (mCons (mC (.int 1000000)) mNil)))))) [some (.tup [t, .str x, v, b, e]), some t, some (.str x), some v, some b, some e, some (.int lo)] st) = .ok (.bl (withinA lo 999 v && withinA 0 1000000 b && endA b e)) st := by
                cases hv : withinA lo 999 v with
                | false => simp only [ev_bok, ev_bno, ev_bex, ev_tok, ev_tno, ev_tex, ev_nnx, ev_nrt, ev_nbk, ev_nct, ev_nex, ev_nno, ev_frt, ev_fnx, ev_fex, ev_xok, ev_lsome, ev_lnone, ev_seq, ev_if, ev_ret, ev_retN, ev_drop, ev_nop, ev_brk, ev_cont, ev_asgN, ev_asgT, ev_asgO, ev_mgTup, ev_mgN, ev_mgC, ev_mg0, ev_putL, ev_putO, ev_var, ev_vr, ev_c, ev_op, ev_un, ev_test, ev_tb, ev_notT, ev_andT, ev_orT, ev_ifE, ev_not, ev_nb, ev_and, ev_andK, ev_or, ev_orK, ev_chain, ev_chK, ev_nil, ev_cons, ev_tup, ev_lst, ev_new, ev_call, ev_cb, ev_size, ev_addI, ev_addS, ev_addT, ev_addL, ev_catO, ev_sub, ev_mul, ev_div, ev_mod, ev_p5, ev_p6, ev_p12, ev_p18, ev_p30, ev_neg, ev_ltI, ev_ltS, ev_leI, ev_leS, ev_gt, ev_ge, ev_eqI, ev_eqS, ev_neI, ev_neS, ev_neB, ev_eqB, ev_is, ev_isnot, ev_ixT, ev_ixS, ev_ixR, ev_ixL, ev_ixK, ev_getL, ev_getM, ev_gL, ev_gM, ev_at0, ev_at1, ev_at2, ev_at3, ev_at4, ev_lenS, ev_lenR, ev_lenT, ev_lenL, ev_lenO, ev_lenD, ev_abs, ev_min2, ev_max2, ev_intI, ev_intB, ev_set, ev_fc, ev_setset, ev_last, ev_appk, ev_app0, ev_setk, ev_set0, ev_assoc, ev_lapp, ev_lappA, ev_sl, ev_nopart, ev_part, ev_ptK, ev_slT, ev_slS, ev_slR, ev_slK, ev_tyN, ev_tyB, ev_tyI, ev_tyS, ev_tyT, ev_tyL, ev_tyR, ev_tyRL, ev_isi, ev_isi1, ev_isi2, ev_isi3, ev_isi4, ev_isi5, ev_isiT, ev_isi2K, ev_isTy, ev_list, ev_listK, ev_tuple, ev_tupK, ev_getST, ev_getSR, ev_getSL, ev_all, ev_allK, ev_eqXI, ev_eqXS, ev_neXI, ev_neXS, ev_neXB, ev_eqXB, ev_eqXR, ev_neXR, ev_nil2, ev_eqK, ev_neK, ev_meth, ev_meth0, ev_mth1, ev_mth2, ev_mth3, ev_append, ev_m0, ev_m0K, ev_str, ev_for, ev_miR1, ev_rg1K, ev_miL, ev_liK, ev_miT, ev_tiK, ev_lc, ev_wipe0, ev_wipeS, ev_yes, ev_lenSet, ev_lenSetK, ev_listR, ev_lrK, ev_put2, ev_p2A, ev_p2K, ev_p2E, ev_put1, ev_pt1, ev_addXI, ev_addXB, ev_addXS, ev_addXT, ev_addXL, ev_subXI, ev_subXB, ev_mulXI, ev_mulXB, ev_mulXL, ev_negXI, ev_negXB, ev_strXI, ev_strXB, List.getElem?_cons_zero, List.getElem?_cons_succ, List.set_cons_zero, List.set_cons_succ, List.length_cons, List.length_nil, List.cons_append, List.nil_append, if_true, if_false, Bool.false_eq_true, Bool.true_eq_false, reduceIte, Bool.not_true, Bool.not_false, Bool.and_true, Bool.true_and, Bool.and_false, Bool.false_and, Bool.or_true, Bool.true_or, Bool.or_false, Bool.false_or, decide_eq_true_eq, Nat.reduceAdd, Nat.reduceLeDiff, Nat.zero_add, Int.reduceLT, Int.reduceLE, Int.reduceEq, Int.reduceNeg, Nat.reduceEqDiff, and_self, and_true, true_and, decide_true, decide_false, eq_self, ite_true, ite_false, Int.reduceSub, Int.reduceAdd, Int.cast_ofNat_Int, Int.natCast_add, Int.cast_ofNat_Int, Nat.reduceSub, Nat.add_assoc, String.reduceBEq, String.reduceEq, Bool.or_not_self, beq_self_eq_true, e3, hv]
                | true =>
                  cases b with
                  | int i =>
                    have e5 : m_is_within [e, .int (i + 1), .int 1000000] st = .ok (.bl (withinA (i + 1) 1000000 e)) st := within_ev (gd_ty ge)
                    cases hb : withinA 0 1000000 (.int i) with
                    | false => simp only [ev_bok, ev_bno, ev_bex, ev_tok, ev_tno, ev_tex, ev_nnx, ev_nrt, ev_nbk, ev_nct, ev_nex, ev_nno, ev_frt, ev_fnx, ev_fex, ev_xok, ev_lsome, ev_lnone, ev_seq, ev_if, ev_ret, ev_retN, ev_drop, ev_nop, ev_brk, ev_cont, ev_asgN, ev_asgT, ev_asgO, ev_mgTup, ev_mgN, ev_mgC, ev_mg0, ev_putL, ev_putO, ev_var, ev_vr, ev_c, ev_op, ev_un, ev_test, ev_tb, ev_notT, ev_andT, ev_orT, ev_ifE, ev_not, ev_nb, ev_and, ev_andK, ev_or, ev_orK, ev_chain, ev_chK, ev_nil, ev_cons, ev_tup, ev_lst, ev_new, ev_call, ev_cb, ev_size, ev_addI, ev_addS, ev_addT, ev_addL, ev_catO, ev_sub, ev_mul, ev_div, ev_mod, ev_p5, ev_p6, ev_p12, ev_p18, ev_p30, ev_neg, ev_ltI, ev_ltS, ev_leI, ev_leS, ev_gt, ev_ge, ev_eqI, ev_eqS, ev_neI, ev_neS, ev_neB, ev_eqB, ev_is, ev_isnot, ev_ixT, ev_ixS, ev_ixR, ev_ixL, ev_ixK, ev_getL, ev_getM, ev_gL, ev_gM, ev_at0, ev_at1, ev_at2, ev_at3, ev_at4, ev_lenS, ev_lenR, ev_lenT, ev_lenL, ev_lenO, ev_lenD, ev_abs, ev_min2, ev_max2, ev_intI, ev_intB, ev_set, ev_fc, ev_setset, ev_last, ev_appk, ev_app0, ev_setk, ev_set0, ev_assoc, ev_lapp, ev_lappA, ev_sl, ev_nopart, ev_part, ev_ptK, ev_slT, ev_slS, ev_slR, ev_slK, ev_tyN, ev_tyB, ev_tyI, ev_tyS, ev_tyT, ev_tyL, ev_tyR, ev_tyRL, ev_isi, ev_isi1, ev_isi2, ev_isi3, ev_isi4, ev_isi5, ev_isiT, ev_isi2K, ev_isTy, ev_list, ev_listK, ev_tuple, ev_tupK, ev_getST, ev_getSR, ev_getSL, ev_all, ev_allK, ev_eqXI, ev_eqXS, ev_neXI, ev_neXS, ev_neXB, ev_eqXB, ev_eqXR, ev_neXR, ev_nil2, ev_eqK, ev_neK, ev_meth, ev_meth0, ev_mth1, ev_mth2, ev_mth3, ev_append, ev_m0, ev_m0K, ev_str, ev_for, ev_miR1, ev_rg1K, ev_miL, ev_liK, ev_miT, ev_tiK, ev_lc, ev_wipe0, ev_wipeS, ev_yes, ev_lenSet, ev_lenSetK, ev_listR, ev_lrK, ev_put2, ev_p2A, ev_p2K, ev_p2E, ev_put1, ev_pt1, ev_addXI, ev_addXB, ev_addXS, ev_addXT, ev_addXL, ev_subXI, ev_subXB, ev_mulXI, ev_mulXB, ev_mulXL, ev_negXI, ev_negXB, ev_strXI, ev_strXB, List.getElem?_cons_zero, List.getElem?_cons_succ, List.set_cons_zero, List.set_cons_succ, List.length_cons, List.length_nil, List.cons_append, List.nil_append, if_true, if_false, Bool.false_eq_true, Bool.true_eq_false, reduceIte, Bool.not_true, Bool.not_false, Bool.and_true, Bool.true_and, Bool.and_false, Bool.false_and, Bool.or_true, Bool.true_or, Bool.or_false, Bool.false_or, decide_eq_true_eq, Nat.reduceAdd, Nat.reduceLeDiff, Nat.zero_add, Int.reduceLT, Int.reduceLE, Int.reduceEq, Int.reduceNeg, Nat.reduceEqDiff, and_self, and_true, true_and, decide_true, decide_false, eq_self, ite_true, ite_false, Int.reduceSub, Int.reduceAdd, Int.cast_ofNat_Int, Int.natCast_add, Int.cast_ofNat_Int, Nat.reduceSub, Nat.add_assoc, String.reduceBEq, String.reduceEq, Bool.or_not_self, beq_self_eq_true, e3, hv, e4, hb]
                    | true => simp only [ev_bok, ev_bno, ev_bex, ev_tok, ev_tno, ev_tex, ev_nnx, ev_nrt, ev_nbk, ev_nct, ev_nex, ev_nno, ev_frt, ev_fnx, ev_fex, ev_xok, ev_lsome, ev_lnone, ev_seq, ev_if, ev_ret, ev_retN, ev_drop, ev_nop, ev_brk, ev_cont, ev_asgN, ev_asgT, ev_asgO, ev_mgTup, ev_mgN, ev_mgC, ev_mg0, ev_putL, ev_putO, ev_var, ev_vr, ev_c, ev_op, ev_un, ev_test, ev_tb, ev_notT, ev_andT, ev_orT, ev_ifE, ev_not, ev_nb, ev_and, ev_andK, ev_or, ev_orK, ev_chain, ev_chK, ev_nil, ev_cons, ev_tup, ev_lst, ev_new, ev_call, ev_cb, ev_size, ev_addI, ev_addS, ev_addT, ev_addL, ev_catO, ev_sub, ev_mul, ev_div, ev_mod, ev_p5, ev_p6, ev_p12, ev_p18, ev_p30, ev_neg, ev_ltI, ev_ltS, ev_leI, ev_leS, ev_gt, ev_ge, ev_eqI, ev_eqS, ev_neI, ev_neS, ev_neB, ev_eqB, ev_is, ev_isnot, ev_ixT, ev_ixS, ev_ixR, ev_ixL, ev_ixK, ev_getL, ev_getM, ev_gL, ev_gM, ev_at0, ev_at1, ev_at2, ev_at3, ev_at4, ev_lenS, ev_lenR, ev_lenT, ev_lenL, ev_lenO, ev_lenD, ev_abs, ev_min2, ev_max2, ev_intI, ev_intB, ev_set, ev_fc, ev_setset, ev_last, ev_appk, ev_app0, ev_setk, ev_set0, ev_assoc, ev_lapp, ev_lappA, ev_sl, ev_nopart, ev_part, ev_ptK, ev_slT, ev_slS, ev_slR, ev_slK, ev_tyN, ev_tyB, ev_tyI, ev_tyS, ev_tyT, ev_tyL, ev_tyR, ev_tyRL, ev_isi, ev_isi1, ev_isi2, ev_isi3, ev_isi4, ev_isi5, ev_isiT, ev_isi2K, ev_isTy, ev_list, ev_listK, ev_tuple, ev_tupK, ev_getST, ev_getSR, ev_getSL, ev_all, ev_allK, ev_eqXI, ev_eqXS, ev_neXI, ev_neXS, ev_neXB, ev_eqXB, ev_eqXR, ev_neXR, ev_nil2, ev_eqK, ev_neK, ev_meth, ev_meth0, ev_mth1, ev_mth2, ev_mth3, ev_append, ev_m0, ev_m0K, ev_str, ev_for, ev_miR1, ev_rg1K, ev_miL, ev_liK, ev_miT, ev_tiK, ev_lc, ev_wipe0, ev_wipeS, ev_yes, ev_lenSet, ev_lenSetK, ev_listR, ev_lrK, ev_put2, ev_p2A, ev_p2K, ev_p2E, ev_put1, ev_pt1, ev_addXI, ev_addXB, ev_addXS, ev_addXT, ev_addXL, ev_subXI, ev_subXB, ev_mulXI, ev_mulXB, ev_mulXL, ev_negXI, ev_negXB, ev_strXI, ev_strXB, List.getElem?_cons_zero, List.getElem?_cons_succ, List.set_cons_zero, List.set_cons_succ, List.length_cons, List.length_nil, List.cons_append, List.nil_append, if_true, if_false, Bool.false_eq_true, Bool.true_eq_false, reduceIte, Bool.not_true, Bool.not_false, Bool.and_true, Bool.true_and, Bool.and_false, Bool.false_and, Bool.or_true, Bool.true_or, Bool.or_false, Bool.false_or, decide_eq_true_eq, Nat.reduceAdd, Nat.reduceLeDiff, Nat.zero_add, Int.reduceLT, Int.reduceLE, Int.reduceEq, Int.reduceNeg, Nat.reduceEqDiff, and_self, and_true, true_and, decide_true, decide_false, eq_self, ite_true, ite_false, Int.reduceSub, Int.reduceAdd, Int.cast_ofNat_Int, Int.natCast_add, Int.cast_ofNat_Int, Nat.reduceSub, Nat.add_assoc, String.reduceBEq, String.reduceEq, Bool.or_not_self, beq_self_eq_true, e3, hv, e4, hb, e5, endA]
                  | _ =>
                    simp only [withinA] at e4
                    simp only [ev_bok, ev_bno, ev_bex, ev_tok, ev_tno, ev_tex, ev_nnx, ev_nrt, ev_nbk, ev_nct, ev_nex, ev_nno, ev_frt, ev_fnx, ev_fex, ev_xok, ev_lsome, ev_lnone, ev_seq, ev_if, ev_ret, ev_retN, ev_drop, ev_nop, ev_brk, ev_cont, ev_asgN, ev_asgT, ev_asgO, ev_mgTup, ev_mgN, ev_mgC, ev_mg0, ev_putL, ev_putO, ev_var, ev_vr, ev_c, ev_op, ev_un, ev_test, ev_tb, ev_notT, ev_andT, ev_orT, ev_ifE, ev_not, ev_nb, ev_and, ev_andK, ev_or, ev_orK, ev_chain, ev_chK, ev_nil, ev_cons, ev_tup, ev_lst, ev_new, ev_call, ev_cb, ev_size, ev_addI, ev_addS, ev_addT, ev_addL, ev_catO, ev_sub, ev_mul, ev_div, ev_mod, ev_p5, ev_p6, ev_p12, ev_p18, ev_p30, ev_neg, ev_ltI, ev_ltS, ev_leI, ev_leS, ev_gt, ev_ge, ev_eqI, ev_eqS, ev_neI, ev_neS, ev_neB, ev_eqB, ev_is, ev_isnot, ev_ixT, ev_ixS, ev_ixR, ev_ixL, ev_ixK, ev_getL, ev_getM, ev_gL, ev_gM, ev_at0, ev_at1, ev_at2, ev_at3, ev_at4, ev_lenS, ev_lenR, ev_lenT, ev_lenL, ev_lenO, ev_lenD, ev_abs, ev_min2, ev_max2, ev_intI, ev_intB, ev_set, ev_fc, ev_setset, ev_last, ev_appk, ev_app0, ev_setk, ev_set0, ev_assoc, ev_lapp, ev_lappA, ev_sl, ev_nopart, ev_part, ev_ptK, ev_slT, ev_slS, ev_slR, ev_slK, ev_tyN, ev_tyB, ev_tyI, ev_tyS, ev_tyT, ev_tyL, ev_tyR, ev_tyRL, ev_isi, ev_isi1, ev_isi2, ev_isi3, ev_isi4, ev_isi5, ev_isiT, ev_isi2K, ev_isTy, ev_list, ev_listK, ev_tuple, ev_tupK, ev_getST, ev_getSR, ev_getSL, ev_all, ev_allK, ev_eqXI, ev_eqXS, ev_neXI, ev_neXS, ev_neXB, ev_eqXB, ev_eqXR, ev_neXR, ev_nil2, ev_eqK, ev_neK, ev_meth, ev_meth0, ev_mth1, ev_mth2, ev_mth3, ev_append, ev_m0, ev_m0K, ev_str, ev_for, ev_miR1, ev_rg1K, ev_miL, ev_liK, ev_miT, ev_tiK, ev_lc, ev_wipe0, ev_wipeS, ev_yes, ev_lenSet, ev_lenSetK, ev_listR, ev_lrK, ev_put2, ev_p2A, ev_p2K, ev_p2E, ev_put1, ev_pt1, ev_addXI, ev_addXB, ev_addXS, ev_addXT, ev_addXL, ev_subXI, ev_subXB, ev_mulXI, ev_mulXB, ev_mulXL, ev_negXI, ev_negXB, ev_strXI, ev_strXB, List.getElem?_cons_zero, List.getElem?_cons_succ, List.set_cons_zero, List.set_cons_succ, List.length_cons, List.length_nil, List.cons_append, List.nil_append, if_true, if_false, Bool.false_eq_true, Bool.true_eq_false, reduceIte, Bool.not_true, Bool.not_false, Bool.and_true, Bool.true_and, Bool.and_false, Bool.false_and, Bool.or_true, Bool.true_or, Bool.or_false, Bool.false_or, decide_eq_true_eq, Nat.reduceAdd, Nat.reduceLeDiff, Nat.zero_add, Int.reduceLT, Int.reduceLE, Int.reduceEq, Int.reduceNeg, Nat.reduceEqDiff, and_self, and_true, true_and, decide_true, decide_false, eq_self, ite_true, ite_false, Int.reduceSub, Int.reduceAdd, Int.cast_ofNat_Int, Int.natCast_add, Int.cast_ofNat_Int, Nat.reduceSub, Nat.add_assoc, String.reduceBEq, String.reduceEq, Bool.or_not_self, beq_self_eq_true, e3, hv, e4, endA]
              rcases hlo2 with rfl | rfl
              · exact tail
              · exact tail
            have f := fin _ rfl
            by_cases c : x = ("write" : Str)
            · subst c
              simp only [ev_bok, ev_bno, ev_bex, ev_tok, ev_tno, ev_tex, ev_nnx, ev_nrt, ev_nbk, ev_nct, ev_nex, ev_nno, ev_frt, ev_fnx, ev_fex, ev_xok, ev_lsome, ev_lnone, ev_seq, ev_if, ev_ret, ev_retN, ev_drop, ev_nop, ev_brk, ev_cont, ev_asgN, ev_asgT, ev_asgO, ev_mgTup, ev_mgN, ev_mgC, ev_mg0, ev_putL, ev_putO, ev_var, ev_vr, ev_c, ev_op, ev_un, ev_test, ev_tb, ev_notT, ev_andT, ev_orT, ev_ifE, ev_not, ev_nb, ev_and, ev_andK, ev_or, ev_orK, ev_chain, ev_chK, ev_nil, ev_cons, ev_tup, ev_lst, ev_new, ev_call, ev_cb, ev_size, ev_addI, ev_addS, ev_addT, ev_addL, ev_catO, ev_sub, ev_mul, ev_div, ev_mod, ev_p5, ev_p6, ev_p12, ev_p18, ev_p30, ev_neg, ev_ltI, ev_ltS, ev_leI, ev_leS, ev_gt, ev_ge, ev_eqI, ev_eqS, ev_neI, ev_neS, ev_neB, ev_eqB, ev_is, ev_isnot, ev_ixT, ev_ixS, ev_ixR, ev_ixL, ev_ixK, ev_getL, ev_getM, ev_gL, ev_gM, ev_at0, ev_at1, ev_at2, ev_at3, ev_at4, ev_lenS, ev_lenR, ev_lenT, ev_lenL, ev_lenO, ev_lenD, ev_abs, ev_min2, ev_max2, ev_intI, ev_intB, ev_set, ev_fc, ev_setset, ev_last, ev_appk, ev_app0, ev_setk, ev_set0, ev_assoc, ev_lapp, ev_lappA, ev_sl, ev_nopart, ev_part, ev_ptK, ev_slT, ev_slS, ev_slR, ev_slK, ev_tyN, ev_tyB, ev_tyI, ev_tyS, ev_tyT, ev_tyL, ev_tyR, ev_tyRL, ev_isi, ev_isi1, ev_isi2, ev_isi3, ev_isi4, ev_isi5, ev_isiT, ev_isi2K, ev_isTy, ev_list, ev_listK, ev_tuple, ev_tupK, ev_getST, ev_getSR, ev_getSL, ev_all, ev_allK, ev_eqXI, ev_eqXS, ev_neXI, ev_neXS, ev_neXB, ev_eqXB, ev_eqXR, ev_neXR, ev_nil2, ev_eqK, ev_neK, ev_meth, ev_meth0, ev_mth1, ev_mth2, ev_mth3, ev_append, ev_m0, ev_m0K, ev_str, ev_for, ev_miR1, ev_rg1K, ev_miL, ev_liK, ev_miT, ev_tiK, ev_lc, ev_wipe0, ev_wipeS, ev_yes, ev_lenSet, ev_lenSetK, ev_listR, ev_lrK, ev_put2, ev_p2A, ev_p2K, ev_p2E, ev_put1, ev_pt1, ev_addXI, ev_addXB, ev_addXS, ev_addXT, ev_addXL, ev_subXI, ev_subXB, ev_mulXI, ev_mulXB, ev_mulXL, ev_negXI, ev_negXB, ev_strXI, ev_strXB, List.getElem?_cons_zero, List.getElem?_cons_succ, List.set_cons_zero, List.set_cons_succ, List.length_cons, List.length_nil, List.cons_append, List.nil_append, if_true, if_false, Bool.false_eq_true, Bool.true_eq_false, reduceIte, Bool.not_true, Bool.not_false, Bool.and_true, Bool.true_and, Bool.and_false, Bool.false_and, Bool.or_true, Bool.true_or, Bool.or_false, Bool.false_or, decide_eq_true_eq, Nat.reduceAdd, Nat.reduceLeDiff, Nat.zero_add, Int.reduceLT, Int.reduceLE, Int.reduceEq, Int.reduceNeg, Nat.reduceEqDiff, and_self, and_true, true_and, decide_true, decide_false, eq_self, ite_true, ite_false, Int.reduceSub, Int.reduceAdd, Int.cast_ofNat_Int, Int.natCast_add, Int.cast_ofNat_Int, Nat.reduceSub, Nat.add_assoc, String.reduceBEq, String.reduceEq, Bool.or_not_self, beq_self_eq_true, et, e1, ht, e2, hk, leastA] at f ⊢
              exact f
            · simp only [ev_bok, ev_bno, ev_bex, ev_tok, ev_tno, ev_tex, ev_nnx, ev_nrt, ev_nbk, ev_nct, ev_nex, ev_nno, ev_frt, ev_fnx, ev_fex, ev_xok, ev_lsome, ev_lnone, ev_seq, ev_if, ev_ret, ev_retN, ev_drop, ev_nop, ev_brk, ev_cont, ev_asgN, ev_asgT, ev_asgO, ev_mgTup, ev_mgN, ev_mgC, ev_mg0, ev_putL, ev_putO, ev_var, ev_vr, ev_c, ev_op, ev_un, ev_test, ev_tb, ev_notT, ev_andT, ev_orT, ev_ifE, ev_not, ev_nb, ev_and, ev_andK, ev_or, ev_orK, ev_chain, ev_chK, ev_nil, ev_cons, ev_tup, ev_lst, ev_new, ev_call, ev_cb, ev_size, ev_addI, ev_addS, ev_addT, ev_addL, ev_catO, ev_sub, ev_mul, ev_div, ev_mod, ev_p5, ev_p6, ev_p12, ev_p18, ev_p30, ev_neg, ev_ltI, ev_ltS, ev_leI, ev_leS, ev_gt, ev_ge, ev_eqI, ev_eqS, ev_neI, ev_neS, ev_neB, ev_eqB, ev_is, ev_isnot, ev_ixT, ev_ixS, ev_ixR, ev_ixL, ev_ixK, ev_getL, ev_getM, ev_gL, ev_gM, ev_at0, ev_at1, ev_at2, ev_at3, ev_at4, ev_lenS, ev_lenR, ev_lenT, ev_lenL, ev_lenO, ev_lenD, ev_abs, ev_min2, ev_max2, ev_intI, ev_intB, ev_set, ev_fc, ev_setset, ev_last, ev_appk, ev_app0, ev_setk, ev_set0, ev_assoc, ev_lapp, ev_lappA, ev_sl, ev_nopart, ev_part, ev_ptK, ev_slT, ev_slS, ev_slR, ev_slK, ev_tyN, ev_tyB, ev_tyI, ev_tyS, ev_tyT, ev_tyL, ev_tyR, ev_tyRL, ev_isi, ev_isi1, ev_isi2, ev_isi3, ev_isi4, ev_isi5, ev_isiT, ev_isi2K, ev_isTy, ev_list, ev_listK, ev_tuple, ev_tupK, ev_getST, ev_getSR, ev_getSL, ev_all, ev_allK, ev_eqXI, ev_eqXS, ev_neXI, ev_neXS, ev_neXB, ev_eqXB, ev_eqXR, ev_neXR, ev_nil2, ev_eqK, ev_neK, ev_meth, ev_meth0, ev_mth1, ev_mth2, ev_mth3, ev_append, ev_m0, ev_m0K, ev_str, ev_for, ev_miR1, ev_rg1K, ev_miL, ev_liK, ev_miT, ev_tiK, ev_lc, ev_wipe0, ev_wipeS, ev_yes, ev_lenSet, ev_lenSetK, ev_listR, ev_lrK, ev_put2, ev_p2A, ev_p2K, ev_p2E, ev_put1, ev_pt1, ev_addXI, ev_addXB, ev_addXS, ev_addXT, ev_addXL, ev_subXI, ev_subXB, ev_mulXI, ev_mulXB, ev_mulXL, ev_negXI, ev_negXB, ev_strXI, ev_strXB, List.getElem?_cons_zero, List.getElem?_cons_succ, List.set_cons_zero, List.set_cons_succ, List.length_cons, List.length_nil, List.cons_append, List.nil_append, if_true, if_false, Bool.false_eq_true, Bool.true_eq_false, reduceIte, Bool.not_true, Bool.not_false, Bool.and_true, Bool.true_and, Bool.and_false, Bool.false_and, Bool.or_true, Bool.true_or, Bool.or_false, Bool.false_or, decide_eq_true_eq, Nat.reduceAdd, Nat.reduceLeDiff, Nat.zero_add, Int.reduceLT, Int.reduceLE, Int.reduceEq, Int.reduceNeg, Nat.reduceEqDiff, and_self, and_true, true_and, decide_true, decide_false, eq_self, ite_true, ite_false, Int.reduceSub, Int.reduceAdd, Int.cast_ofNat_Int, Int.natCast_add, Int.cast_ofNat_Int, Nat.reduceSub, Nat.add_assoc, String.reduceBEq, String.reduceEq, Bool.or_not_self, beq_self_eq_true, et, e1, ht, e2, hk, c, leastA] at f ⊢
              exact f
          | _ => cases hk
  · have hn : tupleA 5 5 a = false ∧ rowH a = false := by
      cases a with
      | tup xs =>
        have hl : xs.length ≠ 5 := fun z => by
          obtain ⟨t, k, v, b, e, rfl⟩ := five z
          exact h5 ⟨t, k, v, b, e, rfl⟩
        refine ⟨?_, rowH_len hl⟩
        show (decide ((5 : Int) ≤ xs.length) && decide ((xs.length : Int) ≤ 5)) = false
        by_cases c : (5 : Int) ≤ xs.length
        · rw [decide_eq_true c, decide_eq_false (by omega)]
          rfl
        · rw [decide_eq_false c]
          rfl
      | _ => exact ⟨rfl, rfl⟩
    simp only [ev_bok, ev_bno, ev_bex, ev_tok, ev_tno, ev_tex, ev_nnx, ev_nrt, ev_nbk, ev_nct, ev_nex, ev_nno, ev_frt, ev_fnx, ev_fex, ev_xok, ev_lsome, ev_lnone, ev_seq, ev_if, ev_ret, ev_retN, ev_drop, ev_nop, ev_brk, ev_cont, ev_asgN, ev_asgT, ev_asgO, ev_mgTup, ev_mgN, ev_mgC, ev_mg0, ev_putL, ev_putO, ev_var, ev_vr, ev_c, ev_op, ev_un, ev_test, ev_tb, ev_notT, ev_andT, ev_orT, ev_ifE, ev_not, ev_nb, ev_and, ev_andK, ev_or, ev_orK, ev_chain, ev_chK, ev_nil, ev_cons, ev_tup, ev_lst, ev_new, ev_call, ev_cb, ev_size, ev_addI, ev_addS, ev_addT, ev_addL, ev_catO, ev_sub, ev_mul, ev_div, ev_mod, ev_p5, ev_p6, ev_p12, ev_p18, ev_p30, ev_neg, ev_ltI, ev_ltS, ev_leI, ev_leS, ev_gt, ev_ge, ev_eqI, ev_eqS, ev_neI, ev_neS, ev_neB, ev_eqB, ev_is, ev_isnot, ev_ixT, ev_ixS, ev_ixR, ev_ixL, ev_ixK, ev_getL, ev_getM, ev_gL, ev_gM, ev_at0, ev_at1, ev_at2, ev_at3, ev_at4, ev_lenS, ev_lenR, ev_lenT, ev_lenL, ev_lenO, ev_lenD, ev_abs, ev_min2, ev_max2, ev_intI, ev_intB, ev_set, ev_fc, ev_setset, ev_last, ev_appk, ev_app0, ev_setk, ev_set0, ev_assoc, ev_lapp, ev_lappA, ev_sl, ev_nopart, ev_part, ev_ptK, ev_slT, ev_slS, ev_slR, ev_slK, ev_tyN, ev_tyB, ev_tyI, ev_tyS, ev_tyT, ev_tyL, ev_tyR, ev_tyRL, ev_isi, ev_isi1, ev_isi2, ev_isi3, ev_isi4, ev_isi5, ev_isiT, ev_isi2K, ev_isTy, ev_list, ev_listK, ev_tuple, ev_tupK, ev_getST, ev_getSR, ev_getSL, ev_all, ev_allK, ev_eqXI, ev_eqXS, ev_neXI, ev_neXS, ev_neXB, ev_eqXB, ev_eqXR, ev_neXR, ev_nil2, ev_eqK, ev_neK, ev_meth, ev_meth0, ev_mth1, ev_mth2, ev_mth3, ev_append, ev_m0, ev_m0K, ev_str, ev_for, ev_miR1, ev_rg1K, ev_miL, ev_liK, ev_miT, ev_tiK, ev_lc, ev_wipe0, ev_wipeS, ev_yes, ev_lenSet, ev_lenSetK, ev_listR, ev_lrK, ev_put2, ev_p2A, ev_p2K, ev_p2E, ev_put1, ev_pt1, ev_addXI, ev_addXB, ev_addXS, ev_addXT, ev_addXL, ev_subXI, ev_subXB, ev_mulXI, ev_mulXB, ev_mulXL, ev_negXI, ev_negXB, ev_strXI, ev_strXB, List.getElem?_cons_zero, List.getElem?_cons_succ, List.set_cons_zero, List.set_cons_succ, List.length_cons, List.length_nil, List.cons_append, List.nil_append, if_true, if_false, Bool.false_eq_true, Bool.true_eq_false, reduceIte, Bool.not_true, Bool.not_false, Bool.and_true, Bool.true_and, Bool.and_false, Bool.false_and, Bool.or_true, Bool.true_or, Bool.or_false, Bool.false_or, decide_eq_true_eq, Nat.reduceAdd, Nat.reduceLeDiff, Nat.zero_add, Int.reduceLT, Int.reduceLE, Int.reduceEq, Int.reduceNeg, Nat.reduceEqDiff, and_self, and_true, true_and, decide_true, decide_false, eq_self, ite_true, ite_false, Int.reduceSub, Int.reduceAdd, Int.cast_ofNat_Int, Int.natCast_add, Int.cast_ofNat_Int, Nat.reduceSub, Nat.add_assoc, String.reduceBEq, String.reduceEq, Bool.or_not_self, beq_self_eq_true, et, hn]

/-! ### is_history, by what stands in the store -/
def tOf : A → Int
  | .tup (.int t :: _) => t
  | _ => 0
def vOf : A → Int
  | .tup (_ :: _ :: .int v :: _) => v
  | _ => 0
def isW : A → Bool
  | .tup (_ :: .str k :: _) => decide (k = ("write" : Str))
  | _ => false
theorem rowH_is {x : A} (h : rowH x = true) : ∃ (t v b e : Int) (k : Str), x = .tup [.int t, .str k, .int v, .int b, .int e] ∧ 0 ≤ t ∧ (k = "read" ∨ k = "write") ∧ 0 ≤ v ∧ v ≤ 999 ∧ (k = ("write" : Str) → 1 ≤ v) ∧ 0 ≤ b ∧ b < e ∧ e ≤ 1000000 := by
  unfold rowH at h
  split at h
  · rename_i t k v b e
    simp only [Bool.and_eq_true] at h
    obtain ⟨⟨⟨⟨h1, h2⟩, h3⟩, h4⟩, h5⟩ := h
    cases t <;> first | (cases h1; done) | skip
    cases k <;> first | (cases h2; done) | skip
    cases v <;> first | (cases h3; done) | skip
    cases b <;> first | (cases h4; done) | skip
    rename_i t k v b
    unfold endA at h5
    cases e <;> first | (cases h5; done) | skip
    rename_i e
    have h1 : 0 ≤ t := of_decide_eq_true h1
    have h2 : k = "read" ∨ k = "write" := by
      have : (rwS.any (· == k)) = true := h2
      unfold rwS at this
      simp only [List.any_cons, List.any_nil, Bool.or_false, Bool.or_eq_true, beq_iff_eq] at this
      exact this.imp Eq.symm Eq.symm
    simp only [withinA, Bool.and_eq_true, decide_eq_true_eq] at h4 h5
    obtain ⟨h3a, h3b⟩ := Bool.and_eq_true_iff.mp (show (decide (leastA (.str k) ≤ v) && decide (v ≤ 999)) = true from h3)
    have h3a : (if k = ("write" : Str) then (1 : Int) else 0) ≤ v := of_decide_eq_true h3a
    have h3b := of_decide_eq_true h3b
    have hk : k = ("write" : Str) → 1 ≤ v := fun z => by
      rw [if_pos z] at h3a
      exact h3a
    have h0 : 0 ≤ v := by
      split at h3a <;> omega
    exact ⟨t, v, b, e, k, rfl, h1, h2, h0, h3b, hk, h4.1, by omega, h5.2⟩
  · cases h
def wOfL (xs : List A) : List Int := (xs.filter isW).map vOf
def lastH (xs : List A) (x : A) : Bool := decide (vOf x = 0) || decide (vOf x ∈ wOfL xs)
def histL (xs : List A) : Bool := decide (xs.length ≤ 60) && (xs.all rowH && (decide ((ddup (wOfL xs)).length = (wOfL xs).length) && (decide ((ddup (xs.map tOf)).length = xs.length) && xs.all (lastH xs))))
def histA (st : Sto) : A → Bool
  | .ref n => match st[n]? with
    | some (.lst xs) => histL xs
    | _ => false
  | _ => false
theorem intsOf_map : ∀ ns : List Int, intsOf (ns.map A.int) = some ns
  | [] => rfl
  | n :: ns => by simp only [List.map_cons, intsOf, intsOf_map ns, Option.map_some]
theorem bls_map {α : Type} (f : α → Bool) : ∀ xs : List α, bls (xs.map fun x => A.bl (f x)) = some (xs.map f)
  | [] => rfl
  | n :: ns => by simp only [List.map_cons, bls, bls_map f ns, Option.map_some]
theorem unlike_ev {st : Sto} {n : Nat} {ns : List Int} (e : st[n]? = some (.lst (ns.map A.int))) (h : ns.length ≤ 4000) : m_are_unlike [.ref n] st = .ok (.bl (decide ((ddup ns).length = ns.length))) st := by
  rw [st_are_unlike]
  unfold b_are_unlike
  have e2 : (some (ns.map A.int)).bind intsOf = some ns := intsOf_map ns
  simp only [ev_bok, ev_bno, ev_bex, ev_tok, ev_tno, ev_tex, ev_nnx, ev_nrt, ev_nbk, ev_nct, ev_nex, ev_nno, ev_frt, ev_fnx, ev_fex, ev_xok, ev_lsome, ev_lnone, ev_seq, ev_if, ev_ret, ev_retN, ev_drop, ev_nop, ev_brk, ev_cont, ev_asgN, ev_asgT, ev_asgO, ev_mgTup, ev_mgN, ev_mgC, ev_mg0, ev_putL, ev_putO, ev_var, ev_vr, ev_c, ev_op, ev_un, ev_test, ev_tb, ev_notT, ev_andT, ev_orT, ev_ifE, ev_not, ev_nb, ev_and, ev_andK, ev_or, ev_orK, ev_chain, ev_chK, ev_nil, ev_cons, ev_tup, ev_lst, ev_new, ev_call, ev_cb, ev_size, ev_addI, ev_addS, ev_addT, ev_addL, ev_catO, ev_sub, ev_mul, ev_div, ev_mod, ev_p5, ev_p6, ev_p12, ev_p18, ev_p30, ev_neg, ev_ltI, ev_ltS, ev_leI, ev_leS, ev_gt, ev_ge, ev_eqI, ev_eqS, ev_neI, ev_neS, ev_neB, ev_eqB, ev_is, ev_isnot, ev_ixT, ev_ixS, ev_ixR, ev_ixL, ev_ixK, ev_getL, ev_getM, ev_gL, ev_gM, ev_at0, ev_at1, ev_at2, ev_at3, ev_at4, ev_lenS, ev_lenR, ev_lenT, ev_lenL, ev_lenO, ev_lenD, ev_abs, ev_min2, ev_max2, ev_intI, ev_intB, ev_set, ev_fc, ev_setset, ev_last, ev_appk, ev_app0, ev_setk, ev_set0, ev_assoc, ev_lapp, ev_lappA, ev_sl, ev_nopart, ev_part, ev_ptK, ev_slT, ev_slS, ev_slR, ev_slK, ev_tyN, ev_tyB, ev_tyI, ev_tyS, ev_tyT, ev_tyL, ev_tyR, ev_tyRL, ev_isi, ev_isi1, ev_isi2, ev_isi3, ev_isi4, ev_isi5, ev_isiT, ev_isi2K, ev_isTy, ev_list, ev_listK, ev_tuple, ev_tupK, ev_getST, ev_getSR, ev_getSL, ev_all, ev_allK, ev_eqXI, ev_eqXS, ev_neXI, ev_neXS, ev_neXB, ev_eqXB, ev_eqXR, ev_neXR, ev_nil2, ev_eqK, ev_neK, ev_meth, ev_meth0, ev_mth1, ev_mth2, ev_mth3, ev_append, ev_m0, ev_m0K, ev_str, ev_for, ev_miR1, ev_rg1K, ev_miL, ev_liK, ev_miT, ev_tiK, ev_lc, ev_wipe0, ev_wipeS, ev_yes, ev_lenSet, ev_lenSetK, ev_listR, ev_lrK, ev_put2, ev_p2A, ev_p2K, ev_p2E, ev_put1, ev_pt1, ev_addXI, ev_addXB, ev_addXS, ev_addXT, ev_addXL, ev_subXI, ev_subXB, ev_mulXI, ev_mulXB, ev_mulXL, ev_negXI, ev_negXB, ev_strXI, ev_strXB, List.getElem?_cons_zero, List.getElem?_cons_succ, List.set_cons_zero, List.set_cons_succ, List.length_cons, List.length_nil, List.cons_append, List.nil_append, if_true, if_false, Bool.false_eq_true, Bool.true_eq_false, reduceIte, Bool.not_true, Bool.not_false, Bool.and_true, Bool.true_and, Bool.and_false, Bool.false_and, Bool.or_true, Bool.true_or, Bool.or_false, Bool.false_or, decide_eq_true_eq, Nat.reduceAdd, Nat.reduceLeDiff, Nat.zero_add, Int.reduceLT, Int.reduceLE, Int.reduceEq, Int.reduceNeg, Nat.reduceEqDiff, and_self, and_true, true_and, decide_true, decide_false, eq_self, ite_true, ite_false, Int.reduceSub, Int.reduceAdd, Int.cast_ofNat_Int, Int.natCast_add, Int.cast_ofNat_Int, Nat.reduceSub, Nat.add_assoc, String.reduceBEq, String.reduceEq, Bool.or_not_self, beq_self_eq_true, e, e2, h, List.length_map]
  congr 3
  exact propext Int.ofNat_inj
theorem in_ints {st : Sto} {n : Nat} {ns : List Int} {v : Int} (e : st[n]? = some (.lst (ns.map A.int))) : oInX (.int v) (.ref n) st = .ok (.bl (decide (v ∈ ns))) st := by
  have hg : getS st (.ref n) = some (ns.map A.int) := by simp only [ev_getSR, ev_getL, e, ev_gL]
  have hf : (ns.map A.int).all flatA = true := by
    rw [List.all_eq_true]
    intro x hx
    obtain ⟨y, _, rfl⟩ := List.mem_map.mp hx
    rfl
  have ha : ((ns.map A.int).any fun y => eqF y (.int v)) = decide (v ∈ ns) := by
    rw [List.any_map]
    by_cases h : v ∈ ns
    · rw [decide_eq_true h, List.any_eq_true]
      exact ⟨v, h, by simp [eqF]⟩
    · rw [decide_eq_false h, List.any_eq_false]
      intro x hx
      simp only [Function.comp, eqF, beq_iff_eq]
      exact fun z => h (z ▸ hx)
  show oInF (.int v) (.ref n) st = _
  unfold oInF inA
  rw [hg]
  show lift ((if flatA (.int v) = true ∧ (ns.map A.int).all flatA = true then some ((ns.map A.int).any fun y => eqF y (.int v)) else none).map A.bl) st = _
  rw [if_pos ⟨rfl, hf⟩, ha]
  rfl
theorem hist_ev {st : Sto} {E : Nat → Prop} {s d : Nat} {a : A} (hd : d ≤ 30) (hs : s ≤ 100) (h : gd st E s d a) : ∃ l, m_is_history [a] st = .ok (.bl (histA st a)) (st ++ l) := by
  rw [st_is_history]
  unfold b_is_history
  have other : ∀ t, tyA st a = some t → isTy t "list" = false → histA st a = false → ∃ l, fin (b_is_history [some a, none, none] st) = .ok (.bl (histA st a)) (st ++ l) := fun t ht hl hh => by
    refine ⟨[], ?_⟩
    unfold b_is_history
    simp only [ev_bok, ev_bno, ev_bex, ev_tok, ev_tno, ev_tex, ev_nnx, ev_nrt, ev_nbk, ev_nct, ev_nex, ev_nno, ev_frt, ev_fnx, ev_fex, ev_xok, ev_lsome, ev_lnone, ev_seq, ev_if, ev_ret, ev_retN, ev_drop, ev_nop, ev_brk, ev_cont, ev_asgN, ev_asgT, ev_asgO, ev_mgTup, ev_mgN, ev_mgC, ev_mg0, ev_putL, ev_putO, ev_var, ev_vr, ev_c, ev_op, ev_un, ev_test, ev_tb, ev_notT, ev_andT, ev_orT, ev_ifE, ev_not, ev_nb, ev_and, ev_andK, ev_or, ev_orK, ev_chain, ev_chK, ev_nil, ev_cons, ev_tup, ev_lst, ev_new, ev_call, ev_cb, ev_size, ev_addI, ev_addS, ev_addT, ev_addL, ev_catO, ev_sub, ev_mul, ev_div, ev_mod, ev_p5, ev_p6, ev_p12, ev_p18, ev_p30, ev_neg, ev_ltI, ev_ltS, ev_leI, ev_leS, ev_gt, ev_ge, ev_eqI, ev_eqS, ev_neI, ev_neS, ev_neB, ev_eqB, ev_is, ev_isnot, ev_ixT, ev_ixS, ev_ixR, ev_ixL, ev_ixK, ev_getL, ev_getM, ev_gL, ev_gM, ev_at0, ev_at1, ev_at2, ev_at3, ev_at4, ev_lenS, ev_lenR, ev_lenT, ev_lenL, ev_lenO, ev_lenD, ev_abs, ev_min2, ev_max2, ev_intI, ev_intB, ev_set, ev_fc, ev_setset, ev_last, ev_appk, ev_app0, ev_setk, ev_set0, ev_assoc, ev_lapp, ev_lappA, ev_sl, ev_nopart, ev_part, ev_ptK, ev_slT, ev_slS, ev_slR, ev_slK, ev_tyN, ev_tyB, ev_tyI, ev_tyS, ev_tyT, ev_tyL, ev_tyR, ev_tyRL, ev_isi, ev_isi1, ev_isi2, ev_isi3, ev_isi4, ev_isi5, ev_isiT, ev_isi2K, ev_list, ev_listK, ev_tuple, ev_tupK, ev_getST, ev_getSR, ev_getSL, ev_all, ev_allK, ev_eqXI, ev_eqXS, ev_neXI, ev_neXS, ev_neXB, ev_eqXB, ev_eqXR, ev_neXR, ev_nil2, ev_eqK, ev_neK, ev_meth, ev_meth0, ev_mth1, ev_mth2, ev_mth3, ev_append, ev_m0, ev_m0K, ev_str, ev_for, ev_miR1, ev_rg1K, ev_miL, ev_liK, ev_miT, ev_tiK, ev_lc, ev_wipe0, ev_wipeS, ev_yes, ev_lenSet, ev_lenSetK, ev_listR, ev_lrK, ev_put2, ev_p2A, ev_p2K, ev_p2E, ev_put1, ev_pt1, ev_addXI, ev_addXB, ev_addXS, ev_addXT, ev_addXL, ev_subXI, ev_subXB, ev_mulXI, ev_mulXB, ev_mulXL, ev_negXI, ev_negXB, ev_strXI, ev_strXB, List.getElem?_cons_zero, List.getElem?_cons_succ, List.set_cons_zero, List.set_cons_succ, List.length_cons, List.length_nil, List.cons_append, List.nil_append, if_true, if_false, Bool.false_eq_true, Bool.true_eq_false, reduceIte, Bool.not_true, Bool.not_false, Bool.and_true, Bool.true_and, Bool.and_false, Bool.false_and, Bool.or_true, Bool.true_or, Bool.or_false, Bool.false_or, decide_eq_true_eq, Nat.reduceAdd, Nat.reduceLeDiff, Nat.zero_add, Int.reduceLT, Int.reduceLE, Int.reduceEq, Int.reduceNeg, Nat.reduceEqDiff, and_self, and_true, true_and, decide_true, decide_false, eq_self, ite_true, ite_false, Int.reduceSub, Int.reduceAdd, Int.cast_ofNat_Int, Int.natCast_add, Int.cast_ofNat_Int, Nat.reduceSub, Nat.add_assoc, String.reduceBEq, String.reduceEq, Bool.or_not_self, beq_self_eq_true, ht, hl, hh, List.append_nil]
  cases d with
  | zero =>
    cases a with
    | non => exact other _ rfl (by decide) rfl
    | bl _ => exact other _ rfl (by decide) rfl
    | int _ => exact other _ rfl (by decide) rfl
    | str _ => exact other _ rfl (by decide) rfl
    | _ => exact h.elim
  | succ d =>
    rcases id h with h' | ⟨xs, rfl, h1, h2⟩ | ⟨n, xs, rfl, h0, h1, h2, h3⟩
    · cases a with
      | non => exact other _ rfl (by decide) rfl
      | bl _ => exact other _ rfl (by decide) rfl
      | int _ => exact other _ rfl (by decide) rfl
      | str _ => exact other _ rfl (by decide) rfl
      | _ => exact h'.elim
    · exact other _ rfl (by decide) rfl
    · have hA : histA st (.ref n) = histL xs := by simp only [histA, h1]
      rw [hA]
      have hn : n < st.length := (List.getElem?_eq_some_iff.mp h1).1
      have hg : ∀ l, (st ++ l)[n]? = some (.lst xs) := fun l => by rw [List.getElem?_append_left hn]; exact h1
      by_cases h60 : xs.length ≤ 60
      · have c60 : ¬ (60 : Int) < (xs.length : Nat) := by omega
        have l1 : ∀ S : Sto, (∀ l, ∃ l', S ++ l = st ++ l') → lcL S.length (okL (.ref n) xs) (mgName 2) mYes (mCall 1 m_is_history_row (mCons (mVar 2) mNil)) [some (.ref n), none, none] xs (S ++ [.lst []]) = .ok (.ref S.length) (S ++ [.lst (xs.map fun x => .bl (rowH x))]) := fun S hS => by
          rw [lc_pure (s := S) (acc := []) (fun _ => true) (fun x => .bl (rowH x)) rfl ?_ ?_ (by simp only [List.length_nil]; omega)]
          · rw [List.filter_eq_self.mpr (fun _ _ => rfl), List.nil_append]
          · intro acc
            obtain ⟨l', e⟩ := hS [.lst acc]
            rw [e]
            show getL _ _ = _
            simp only [ev_getL, hg, ev_gL]
          · intro x hx acc
            obtain ⟨l', e⟩ := hS [.lst acc]
            have gx : gd (st ++ l') (fun n => E n) s d x := by
              have : ∀ {k : Nat} {a : A}, gd st E s k a → gd (st ++ l') E s k a := fun {k} => by
                induction k with
                | zero => exact fun h => h
                | succ k ihk =>
                  intro a h
                  rcases h with h | ⟨zs, e, h1, h2⟩ | ⟨n, zs, e, h0, h1, h2, h3⟩
                  · exact .inl h
                  · exact .inr (.inl ⟨zs, e, h1, fun x hx => ihk (h2 x hx)⟩)
                  · exact .inr (.inr ⟨n, zs, e, h0, by rw [List.getElem?_append_left (List.getElem?_eq_some_iff.mp h1).1]; exact h1, h2, fun x hx => ihk (h3 x hx)⟩)
              exact this (h3 x hx)
            have er := hrow_ev (by omega) gx
            rw [e]
            refine ⟨_, rfl, rfl, fun _ => ?_⟩
            simp only [ev_bok, ev_bno, ev_bex, ev_tok, ev_tno, ev_tex, ev_nnx, ev_nrt, ev_nbk, ev_nct, ev_nex, ev_nno, ev_frt, ev_fnx, ev_fex, ev_xok, ev_lsome, ev_lnone, ev_seq, ev_if, ev_ret, ev_retN, ev_drop, ev_nop, ev_brk, ev_cont, ev_asgN, ev_asgT, ev_asgO, ev_mgTup, ev_mgN, ev_mgC, ev_mg0, ev_putL, ev_putO, ev_var, ev_vr, ev_c, ev_op, ev_un, ev_test, ev_tb, ev_notT, ev_andT, ev_orT, ev_ifE, ev_not, ev_nb, ev_and, ev_andK, ev_or, ev_orK, ev_chain, ev_chK, ev_nil, ev_cons, ev_tup, ev_lst, ev_new, ev_call, ev_cb, ev_size, ev_addI, ev_addS, ev_addT, ev_addL, ev_catO, ev_sub, ev_mul, ev_div, ev_mod, ev_p5, ev_p6, ev_p12, ev_p18, ev_p30, ev_neg, ev_ltI, ev_ltS, ev_leI, ev_leS, ev_gt, ev_ge, ev_eqI, ev_eqS, ev_neI, ev_neS, ev_neB, ev_eqB, ev_is, ev_isnot, ev_ixT, ev_ixS, ev_ixR, ev_ixL, ev_ixK, ev_getL, ev_getM, ev_gL, ev_gM, ev_at0, ev_at1, ev_at2, ev_at3, ev_at4, ev_lenS, ev_lenR, ev_lenT, ev_lenL, ev_lenO, ev_lenD, ev_abs, ev_min2, ev_max2, ev_intI, ev_intB, ev_set, ev_fc, ev_setset, ev_last, ev_appk, ev_app0, ev_setk, ev_set0, ev_assoc, ev_lapp, ev_lappA, ev_sl, ev_nopart, ev_part, ev_ptK, ev_slT, ev_slS, ev_slR, ev_slK, ev_tyN, ev_tyB, ev_tyI, ev_tyS, ev_tyT, ev_tyL, ev_tyR, ev_tyRL, ev_isi, ev_isi1, ev_isi2, ev_isi3, ev_isi4, ev_isi5, ev_isiT, ev_isi2K, ev_isTy, ev_list, ev_listK, ev_tuple, ev_tupK, ev_getST, ev_getSR, ev_getSL, ev_all, ev_allK, ev_eqXI, ev_eqXS, ev_neXI, ev_neXS, ev_neXB, ev_eqXB, ev_eqXR, ev_neXR, ev_nil2, ev_eqK, ev_neK, ev_meth, ev_meth0, ev_mth1, ev_mth2, ev_mth3, ev_append, ev_m0, ev_m0K, ev_str, ev_for, ev_miR1, ev_rg1K, ev_miL, ev_liK, ev_miT, ev_tiK, ev_lc, ev_wipe0, ev_wipeS, ev_yes, ev_lenSet, ev_lenSetK, ev_listR, ev_lrK, ev_put2, ev_p2A, ev_p2K, ev_p2E, ev_put1, ev_pt1, ev_addXI, ev_addXB, ev_addXS, ev_addXT, ev_addXL, ev_subXI, ev_subXB, ev_mulXI, ev_mulXB, ev_mulXL, ev_negXI, ev_negXB, ev_strXI, ev_strXB, List.getElem?_cons_zero, List.getElem?_cons_succ, List.set_cons_zero, List.set_cons_succ, List.length_cons, List.length_nil, List.cons_append, List.nil_append, if_true, if_false, Bool.false_eq_true, Bool.true_eq_false, reduceIte, Bool.not_true, Bool.not_false, Bool.and_true, Bool.true_and, Bool.and_false, Bool.false_and, Bool.or_true, Bool.true_or, Bool.or_false, Bool.false_or, decide_eq_true_eq, Nat.reduceAdd, Nat.reduceLeDiff, Nat.zero_add, Int.reduceLT, Int.reduceLE, Int.reduceEq, Int.reduceNeg, Nat.reduceEqDiff, and_self, and_true, true_and, decide_true, decide_false, eq_self, ite_true, ite_false, Int.reduceSub, Int.reduceAdd, Int.cast_ofNat_Int, Int.natCast_add, Int.cast_ofNat_Int, Nat.reduceSub, Nat.add_assoc, String.reduceBEq, String.reduceEq, Bool.or_not_self, beq_self_eq_true, er]
        have e1 := l1 st fun l => ⟨l, rfl⟩
        by_cases hall : xs.all rowH = true
        · have rows := fun x hx => rowH_is (List.all_eq_true.mp hall x hx)
          have okl : ∀ l, getL (st ++ l) (.ref n) = some xs := fun l => by simp only [ev_getL, hg, ev_gL]
          have e2 : ∀ B, lcL (st.length + 1) (okL (.ref n) xs) (mgName 2) (mTest (mOp oEqX (mOp oIxD (mVar 2) (mC (.int 1))) (mC (.str "write")))) (mOp oIxD (mVar 2) (mC (.int 2))) [some (.ref n), none, none] xs (st ++ [B, .lst []]) = .ok (.ref (st.length + 1)) (st ++ [B, .lst ((wOfL xs).map A.int)]) := fun B => by
            have z := lc_pure (n := st.length + 1) (s := st ++ [B]) (acc := []) (xs := xs) (ok := okL (.ref n) xs) (g := mgName 2) (tt := mTest (mOp oEqX (mOp oIxD (mVar 2) (mC (.int 1))) (mC (.str "write")))) (te := mOp oIxD (mVar 2) (mC (.int 2))) (env := [some (.ref n), none, none]) isW (fun x => .int (vOf x)) (by rw [List.length_append]; rfl) (fun acc => by rw [List.append_assoc]; exact okl _) (fun x hx acc => by
              obtain ⟨t, v, b, e, k, rfl, _⟩ := rows x hx
              refine ⟨_, rfl, ?_, fun _ => ?_⟩
              · simp only [ev_bok, ev_bno, ev_bex, ev_tok, ev_tno, ev_tex, ev_nnx, ev_nrt, ev_nbk, ev_nct, ev_nex, ev_nno, ev_frt, ev_fnx, ev_fex, ev_xok, ev_lsome, ev_lnone, ev_seq, ev_if, ev_ret, ev_retN, ev_drop, ev_nop, ev_brk, ev_cont, ev_asgN, ev_asgT, ev_asgO, ev_mgTup, ev_mgN, ev_mgC, ev_mg0, ev_putL, ev_putO, ev_var, ev_vr, ev_c, ev_op, ev_un, ev_test, ev_tb, ev_notT, ev_andT, ev_orT, ev_ifE, ev_not, ev_nb, ev_and, ev_andK, ev_or, ev_orK, ev_chain, ev_chK, ev_nil, ev_cons, ev_tup, ev_lst, ev_new, ev_call, ev_cb, ev_size, ev_addI, ev_addS, ev_addT, ev_addL, ev_catO, ev_sub, ev_mul, ev_div, ev_mod, ev_p5, ev_p6, ev_p12, ev_p18, ev_p30, ev_neg, ev_ltI, ev_ltS, ev_leI, ev_leS, ev_gt, ev_ge, ev_eqI, ev_eqS, ev_neI, ev_neS, ev_neB, ev_eqB, ev_is, ev_isnot, ev_ixT, ev_ixS, ev_ixR, ev_ixL, ev_ixK, ev_getL, ev_getM, ev_gL, ev_gM, ev_at0, ev_at1, ev_at2, ev_at3, ev_at4, ev_lenS, ev_lenR, ev_lenT, ev_lenL, ev_lenO, ev_lenD, ev_abs, ev_min2, ev_max2, ev_intI, ev_intB, ev_set, ev_fc, ev_setset, ev_last, ev_appk, ev_app0, ev_setk, ev_set0, ev_assoc, ev_lapp, ev_lappA, ev_sl, ev_nopart, ev_part, ev_ptK, ev_slT, ev_slS, ev_slR, ev_slK, ev_tyN, ev_tyB, ev_tyI, ev_tyS, ev_tyT, ev_tyL, ev_tyR, ev_tyRL, ev_isi, ev_isi1, ev_isi2, ev_isi3, ev_isi4, ev_isi5, ev_isiT, ev_isi2K, ev_isTy, ev_list, ev_listK, ev_tuple, ev_tupK, ev_getST, ev_getSR, ev_getSL, ev_all, ev_allK, ev_eqXI, ev_eqXS, ev_neXI, ev_neXS, ev_neXB, ev_eqXB, ev_eqXR, ev_neXR, ev_nil2, ev_eqK, ev_neK, ev_meth, ev_meth0, ev_mth1, ev_mth2, ev_mth3, ev_append, ev_m0, ev_m0K, ev_str, ev_for, ev_miR1, ev_rg1K, ev_miL, ev_liK, ev_miT, ev_tiK, ev_lc, ev_wipe0, ev_wipeS, ev_yes, ev_lenSet, ev_lenSetK, ev_listR, ev_lrK, ev_put2, ev_p2A, ev_p2K, ev_p2E, ev_put1, ev_pt1, ev_addXI, ev_addXB, ev_addXS, ev_addXT, ev_addXL, ev_subXI, ev_subXB, ev_mulXI, ev_mulXB, ev_mulXL, ev_negXI, ev_negXB, ev_strXI, ev_strXB, List.getElem?_cons_zero, List.getElem?_cons_succ, List.set_cons_zero, List.set_cons_succ, List.length_cons, List.length_nil, List.cons_append, List.nil_append, if_true, if_false, Bool.false_eq_true, Bool.true_eq_false, reduceIte, Bool.not_true, Bool.not_false, Bool.and_true, Bool.true_and, Bool.and_false, Bool.false_and, Bool.or_true, Bool.true_or, Bool.or_false, Bool.false_or, decide_eq_true_eq, Nat.reduceAdd, Nat.reduceLeDiff, Nat.zero_add, Int.reduceLT, Int.reduceLE, Int.reduceEq, Int.reduceNeg, Nat.reduceEqDiff, and_self, and_true, true_and, decide_true, decide_false, eq_self, ite_true, ite_false, Int.reduceSub, Int.reduceAdd, Int.cast_ofNat_Int, Int.natCast_add, Int.cast_ofNat_Int, Nat.reduceSub, Nat.add_assoc, String.reduceBEq, String.reduceEq, Bool.or_not_self, beq_self_eq_true, isW]
              · simp only [ev_bok, ev_bno, ev_bex, ev_tok, ev_tno, ev_tex, ev_nnx, ev_nrt, ev_nbk, ev_nct, ev_nex, ev_nno, ev_frt, ev_fnx, ev_fex, ev_xok, ev_lsome, ev_lnone, ev_seq, ev_if, ev_ret, ev_retN, ev_drop, ev_nop, ev_brk, ev_cont, ev_asgN, ev_asgT, ev_asgO, ev_mgTup, ev_mgN, ev_mgC, ev_mg0, ev_putL, ev_putO, ev_var, ev_vr, ev_c, ev_op, ev_un, ev_test, ev_tb, ev_notT, ev_andT, ev_orT, ev_ifE, ev_not, ev_nb, ev_and, ev_andK, ev_or, ev_orK, ev_chain, ev_chK, ev_nil, ev_cons, ev_tup, ev_lst, ev_new, ev_call, ev_cb, ev_size, ev_addI, ev_addS, ev_addT, ev_addL, ev_catO, ev_sub, ev_mul, ev_div, ev_mod, ev_p5, ev_p6, ev_p12, ev_p18, ev_p30, ev_neg, ev_ltI, ev_ltS, ev_leI, ev_leS, ev_gt, ev_ge, ev_eqI, ev_eqS, ev_neI, ev_neS, ev_neB, ev_eqB, ev_is, ev_isnot, ev_ixT, ev_ixS, ev_ixR, ev_ixL, ev_ixK, ev_getL, ev_getM, ev_gL, ev_gM, ev_at0, ev_at1, ev_at2, ev_at3, ev_at4, ev_lenS, ev_lenR, ev_lenT, ev_lenL, ev_lenO, ev_lenD, ev_abs, ev_min2, ev_max2, ev_intI, ev_intB, ev_set, ev_fc, ev_setset, ev_last, ev_appk, ev_app0, ev_setk, ev_set0, ev_assoc, ev_lapp, ev_lappA, ev_sl, ev_nopart, ev_part, ev_ptK, ev_slT, ev_slS, ev_slR, ev_slK, ev_tyN, ev_tyB, ev_tyI, ev_tyS, ev_tyT, ev_tyL, ev_tyR, ev_tyRL, ev_isi, ev_isi1, ev_isi2, ev_isi3, ev_isi4, ev_isi5, ev_isiT, ev_isi2K, ev_isTy, ev_list, ev_listK, ev_tuple, ev_tupK, ev_getST, ev_getSR, ev_getSL, ev_all, ev_allK, ev_eqXI, ev_eqXS, ev_neXI, ev_neXS, ev_neXB, ev_eqXB, ev_eqXR, ev_neXR, ev_nil2, ev_eqK, ev_neK, ev_meth, ev_meth0, ev_mth1, ev_mth2, ev_mth3, ev_append, ev_m0, ev_m0K, ev_str, ev_for, ev_miR1, ev_rg1K, ev_miL, ev_liK, ev_miT, ev_tiK, ev_lc, ev_wipe0, ev_wipeS, ev_yes, ev_lenSet, ev_lenSetK, ev_listR, ev_lrK, ev_put2, ev_p2A, ev_p2K, ev_p2E, ev_put1, ev_pt1, ev_addXI, ev_addXB, ev_addXS, ev_addXT, ev_addXL, ev_subXI, ev_subXB, ev_mulXI, ev_mulXB, ev_mulXL, ev_negXI, ev_negXB, ev_strXI, ev_strXB, List.getElem?_cons_zero, List.getElem?_cons_succ, List.set_cons_zero, List.set_cons_succ, List.length_cons, List.length_nil, List.cons_append, List.nil_append, if_true, if_false, Bool.false_eq_true, Bool.true_eq_false, reduceIte, Bool.not_true, Bool.not_false, Bool.and_true, Bool.true_and, Bool.and_false, Bool.false_and, Bool.or_true, Bool.true_or, Bool.or_false, Bool.false_or, decide_eq_true_eq, Nat.reduceAdd, Nat.reduceLeDiff, Nat.zero_add, Int.reduceLT, Int.reduceLE, Int.reduceEq, Int.reduceNeg, Nat.reduceEqDiff, and_self, and_true, true_and, decide_true, decide_false, eq_self, ite_true, ite_false, Int.reduceSub, Int.reduceAdd, Int.cast_ofNat_Int, Int.natCast_add, Int.cast_ofNat_Int, Nat.reduceSub, Nat.add_assoc, String.reduceBEq, String.reduceEq, Bool.or_not_self, beq_self_eq_true, vOf]) (by simp only [List.length_nil]; omega)
            simpa only [List.append_assoc, List.cons_append, List.nil_append, wOfL, List.map_map, Function.comp_def] using z
          have e3 : ∀ B C, lcL (st.length + 2) (okL (.ref n) xs) (mgName 2) mYes (mOp oIxD (mVar 2) (mC (.int 0))) [some (.ref n), some (.ref (st.length + 1)), none] xs (st ++ [B, C, .lst []]) = .ok (.ref (st.length + 2)) (st ++ [B, C, .lst ((xs.map tOf).map A.int)]) := fun B C => by
            have z := lc_pure (n := st.length + 2) (s := st ++ [B, C]) (acc := []) (xs := xs) (ok := okL (.ref n) xs) (g := mgName 2) (tt := mYes) (te := mOp oIxD (mVar 2) (mC (.int 0))) (env := [some (.ref n), some (.ref (st.length + 1)), none]) (fun _ => true) (fun x => .int (tOf x)) (by rw [List.length_append]; rfl) (fun acc => by rw [List.append_assoc]; exact okl _) (fun x hx acc => by
              obtain ⟨t, v, b, e, k, rfl, _⟩ := rows x hx
              refine ⟨_, rfl, rfl, fun _ => ?_⟩
              simp only [ev_bok, ev_bno, ev_bex, ev_tok, ev_tno, ev_tex, ev_nnx, ev_nrt, ev_nbk, ev_nct, ev_nex, ev_nno, ev_frt, ev_fnx, ev_fex, ev_xok, ev_lsome, ev_lnone, ev_seq, ev_if, ev_ret, ev_retN, ev_drop, ev_nop, ev_brk, ev_cont, ev_asgN, ev_asgT, ev_asgO, ev_mgTup, ev_mgN, ev_mgC, ev_mg0, ev_putL, ev_putO, ev_var, ev_vr, ev_c, ev_op, ev_un, ev_test, ev_tb, ev_notT, ev_andT, ev_orT, ev_ifE, ev_not, ev_nb, ev_and, ev_andK, ev_or, ev_orK, ev_chain, ev_chK, ev_nil, ev_cons, ev_tup, ev_lst, ev_new, ev_call, ev_cb, ev_size, ev_addI, ev_addS, ev_addT, ev_addL, ev_catO, ev_sub, ev_mul, ev_div, ev_mod, ev_p5, ev_p6, ev_p12, ev_p18, ev_p30, ev_neg, ev_ltI, ev_ltS, ev_leI, ev_leS, ev_gt, ev_ge, ev_eqI, ev_eqS, ev_neI, ev_neS, ev_neB, ev_eqB, ev_is, ev_isnot, ev_ixT, ev_ixS, ev_ixR, ev_ixL, ev_ixK, ev_getL, ev_getM, ev_gL, ev_gM, ev_at0, ev_at1, ev_at2, ev_at3, ev_at4, ev_lenS, ev_lenR, ev_lenT, ev_lenL, ev_lenO, ev_lenD, ev_abs, ev_min2, ev_max2, ev_intI, ev_intB, ev_set, ev_fc, ev_setset, ev_last, ev_appk, ev_app0, ev_setk, ev_set0, ev_assoc, ev_lapp, ev_lappA, ev_sl, ev_nopart, ev_part, ev_ptK, ev_slT, ev_slS, ev_slR, ev_slK, ev_tyN, ev_tyB, ev_tyI, ev_tyS, ev_tyT, ev_tyL, ev_tyR, ev_tyRL, ev_isi, ev_isi1, ev_isi2, ev_isi3, ev_isi4, ev_isi5, ev_isiT, ev_isi2K, ev_isTy, ev_list, ev_listK, ev_tuple, ev_tupK, ev_getST, ev_getSR, ev_getSL, ev_all, ev_allK, ev_eqXI, ev_eqXS, ev_neXI, ev_neXS, ev_neXB, ev_eqXB, ev_eqXR, ev_neXR, ev_nil2, ev_eqK, ev_neK, ev_meth, ev_meth0, ev_mth1, ev_mth2, ev_mth3, ev_append, ev_m0, ev_m0K, ev_str, ev_for, ev_miR1, ev_rg1K, ev_miL, ev_liK, ev_miT, ev_tiK, ev_lc, ev_wipe0, ev_wipeS, ev_yes, ev_lenSet, ev_lenSetK, ev_listR, ev_lrK, ev_put2, ev_p2A, ev_p2K, ev_p2E, ev_put1, ev_pt1, ev_addXI, ev_addXB, ev_addXS, ev_addXT, ev_addXL, ev_subXI, ev_subXB, ev_mulXI, ev_mulXB, ev_mulXL, ev_negXI, ev_negXB, ev_strXI, ev_strXB, List.getElem?_cons_zero, List.getElem?_cons_succ, List.set_cons_zero, List.set_cons_succ, List.length_cons, List.length_nil, List.cons_append, List.nil_append, if_true, if_false, Bool.false_eq_true, Bool.true_eq_false, reduceIte, Bool.not_true, Bool.not_false, Bool.and_true, Bool.true_and, Bool.and_false, Bool.false_and, Bool.or_true, Bool.true_or, Bool.or_false, Bool.false_or, decide_eq_true_eq, Nat.reduceAdd, Nat.reduceLeDiff, Nat.zero_add, Int.reduceLT, Int.reduceLE, Int.reduceEq, Int.reduceNeg, Nat.reduceEqDiff, and_self, and_true, true_and, decide_true, decide_false, eq_self, ite_true, ite_false, Int.reduceSub, Int.reduceAdd, Int.cast_ofNat_Int, Int.natCast_add, Int.cast_ofNat_Int, Nat.reduceSub, Nat.add_assoc, String.reduceBEq, String.reduceEq, Bool.or_not_self, beq_self_eq_true, tOf]) (by simp only [List.length_nil]; omega)
            rw [List.filter_eq_self.mpr (fun _ _ => rfl)] at z
            simpa only [List.append_assoc, List.cons_append, List.nil_append, List.map_map, Function.comp_def] using z
          have e4 : ∀ B D, lcL (st.length + 3) (okL (.ref n) xs) (mgName 2) mYes (mOr (mOp oEqX (mOp oIxD (mVar 2) (mC (.int 2))) (mC (.int 0))) (mOp oInX (mOp oIxD (mVar 2) (mC (.int 2))) (mVar 1))) [some (.ref n), some (.ref (st.length + 1)), none] xs (st ++ [B, .lst ((wOfL xs).map A.int), D, .lst []]) = .ok (.ref (st.length + 3)) (st ++ [B, .lst ((wOfL xs).map A.int), D, .lst (xs.map fun x => .bl (lastH xs x))]) := fun B D => by
            have z := lc_pure (n := st.length + 3) (s := st ++ [B, .lst ((wOfL xs).map A.int), D]) (acc := []) (xs := xs) (ok := okL (.ref n) xs) (g := mgName 2) (tt := mYes) (te := mOr (mOp oEqX (mOp oIxD (mVar 2) (mC (.int 2))) (mC (.int 0))) (mOp oInX (mOp oIxD (mVar 2) (mC (.int 2))) (mVar 1))) (env := [some (.ref n), some (.ref (st.length + 1)), none]) (fun _ => true) (fun x => .bl (lastH xs x)) (by rw [List.length_append]; rfl) (fun acc => by rw [List.append_assoc]; exact okl _) (fun x hx acc => by
              obtain ⟨t, v, b, e, k, rfl, _⟩ := rows x hx
              refine ⟨_, rfl, rfl, fun _ => ?_⟩
              have ei : ∀ v, oInX (.int v) (.ref (st.length + 1)) (st ++ [B, .lst ((wOfL xs).map A.int), D, .lst acc]) = .ok (.bl (decide (v ∈ wOfL xs))) (st ++ [B, .lst ((wOfL xs).map A.int), D, .lst acc]) := fun v => in_ints ev_appk
              by_cases hv : v = 0
              · simp only [ev_bok, ev_bno, ev_bex, ev_tok, ev_tno, ev_tex, ev_nnx, ev_nrt, ev_nbk, ev_nct, ev_nex, ev_nno, ev_frt, ev_fnx, ev_fex, ev_xok, ev_lsome, ev_lnone, ev_seq, ev_if, ev_ret, ev_retN, ev_drop, ev_nop, ev_brk, ev_cont, ev_asgN, ev_asgT, ev_asgO, ev_mgTup, ev_mgN, ev_mgC, ev_mg0, ev_putL, ev_putO, ev_var, ev_vr, ev_c, ev_op, ev_un, ev_test, ev_tb, ev_notT, ev_andT, ev_orT, ev_ifE, ev_not, ev_nb, ev_and, ev_andK, ev_or, ev_orK, ev_chain, ev_chK, ev_nil, ev_cons, ev_tup, ev_lst, ev_new, ev_call, ev_cb, ev_size, ev_addI, ev_addS, ev_addT, ev_addL, ev_catO, ev_sub, ev_mul, ev_div, ev_mod, ev_p5, ev_p6, ev_p12, ev_p18, ev_p30, ev_neg, ev_ltI, ev_ltS, ev_leI, ev_leS, ev_gt, ev_ge, ev_eqI, ev_eqS, ev_neI, ev_neS, ev_neB, ev_eqB, ev_is, ev_isnot, ev_ixT, ev_ixS, ev_ixR, ev_ixL, ev_ixK, ev_getL, ev_getM, ev_gL, ev_gM, ev_at0, ev_at1, ev_at2, ev_at3, ev_at4, ev_lenS, ev_lenR, ev_lenT, ev_lenL, ev_lenO, ev_lenD, ev_abs, ev_min2, ev_max2, ev_intI, ev_intB, ev_set, ev_fc, ev_setset, ev_last, ev_appk, ev_app0, ev_setk, ev_set0, ev_assoc, ev_lapp, ev_lappA, ev_sl, ev_nopart, ev_part, ev_ptK, ev_slT, ev_slS, ev_slR, ev_slK, ev_tyN, ev_tyB, ev_tyI, ev_tyS, ev_tyT, ev_tyL, ev_tyR, ev_tyRL, ev_isi, ev_isi1, ev_isi2, ev_isi3, ev_isi4, ev_isi5, ev_isiT, ev_isi2K, ev_isTy, ev_list, ev_listK, ev_tuple, ev_tupK, ev_getST, ev_getSR, ev_getSL, ev_all, ev_allK, ev_eqXI, ev_eqXS, ev_neXI, ev_neXS, ev_neXB, ev_eqXB, ev_eqXR, ev_neXR, ev_nil2, ev_eqK, ev_neK, ev_meth, ev_meth0, ev_mth1, ev_mth2, ev_mth3, ev_append, ev_m0, ev_m0K, ev_str, ev_for, ev_miR1, ev_rg1K, ev_miL, ev_liK, ev_miT, ev_tiK, ev_lc, ev_wipe0, ev_wipeS, ev_yes, ev_lenSet, ev_lenSetK, ev_listR, ev_lrK, ev_put2, ev_p2A, ev_p2K, ev_p2E, ev_put1, ev_pt1, ev_addXI, ev_addXB, ev_addXS, ev_addXT, ev_addXL, ev_subXI, ev_subXB, ev_mulXI, ev_mulXB, ev_mulXL, ev_negXI, ev_negXB, ev_strXI, ev_strXB, List.getElem?_cons_zero, List.getElem?_cons_succ, List.set_cons_zero, List.set_cons_succ, List.length_cons, List.length_nil, List.cons_append, List.nil_append, if_true, if_false, Bool.false_eq_true, Bool.true_eq_false, reduceIte, Bool.not_true, Bool.not_false, Bool.and_true, Bool.true_and, Bool.and_false, Bool.false_and, Bool.or_true, Bool.true_or, Bool.or_false, Bool.false_or, decide_eq_true_eq, Nat.reduceAdd, Nat.reduceLeDiff, Nat.zero_add, Int.reduceLT, Int.reduceLE, Int.reduceEq, Int.reduceNeg, Nat.reduceEqDiff, and_self, and_true, true_and, decide_true, decide_false, eq_self, ite_true, ite_false, Int.reduceSub, Int.reduceAdd, Int.cast_ofNat_Int, Int.natCast_add, Int.cast_ofNat_Int, Nat.reduceSub, Nat.add_assoc, String.reduceBEq, String.reduceEq, Bool.or_not_self, beq_self_eq_true, hv, lastH, vOf]
              · simp only [ev_bok, ev_bno, ev_bex, ev_tok, ev_tno, ev_tex, ev_nnx, ev_nrt, ev_nbk, ev_nct, ev_nex, ev_nno, ev_frt, ev_fnx, ev_fex, ev_xok, ev_lsome, ev_lnone, ev_seq, ev_if, ev_ret, ev_retN, ev_drop, ev_nop, ev_brk, ev_cont, ev_asgN, ev_asgT, ev_asgO, ev_mgTup, ev_mgN, ev_mgC, ev_mg0, ev_putL, ev_putO, ev_var, ev_vr, ev_c, ev_op, ev_un, ev_test, ev_tb, ev_notT, ev_andT, ev_orT, ev_ifE, ev_not, ev_nb, ev_and, ev_andK, ev_or, ev_orK, ev_chain, ev_chK, ev_nil, ev_cons, ev_tup, ev_lst, ev_new, ev_call, ev_cb, ev_size, ev_addI, ev_addS, ev_addT, ev_addL, ev_catO, ev_sub, ev_mul, ev_div, ev_mod, ev_p5, ev_p6, ev_p12, ev_p18, ev_p30, ev_neg, ev_ltI, ev_ltS, ev_leI, ev_leS, ev_gt, ev_ge, ev_eqI, ev_eqS, ev_neI, ev_neS, ev_neB, ev_eqB, ev_is, ev_isnot, ev_ixT, ev_ixS, ev_ixR, ev_ixL, ev_ixK, ev_getL, ev_getM, ev_gL, ev_gM, ev_at0, ev_at1, ev_at2, ev_at3, ev_at4, ev_lenS, ev_lenR, ev_lenT, ev_lenL, ev_lenO, ev_lenD, ev_abs, ev_min2, ev_max2, ev_intI, ev_intB, ev_set, ev_fc, ev_setset, ev_last, ev_appk, ev_app0, ev_setk, ev_set0, ev_assoc, ev_lapp, ev_lappA, ev_sl, ev_nopart, ev_part, ev_ptK, ev_slT, ev_slS, ev_slR, ev_slK, ev_tyN, ev_tyB, ev_tyI, ev_tyS, ev_tyT, ev_tyL, ev_tyR, ev_tyRL, ev_isi, ev_isi1, ev_isi2, ev_isi3, ev_isi4, ev_isi5, ev_isiT, ev_isi2K, ev_isTy, ev_list, ev_listK, ev_tuple, ev_tupK, ev_getST, ev_getSR, ev_getSL, ev_all, ev_allK, ev_eqXI, ev_eqXS, ev_neXI, ev_neXS, ev_neXB, ev_eqXB, ev_eqXR, ev_neXR, ev_nil2, ev_eqK, ev_neK, ev_meth, ev_meth0, ev_mth1, ev_mth2, ev_mth3, ev_append, ev_m0, ev_m0K, ev_str, ev_for, ev_miR1, ev_rg1K, ev_miL, ev_liK, ev_miT, ev_tiK, ev_lc, ev_wipe0, ev_wipeS, ev_yes, ev_lenSet, ev_lenSetK, ev_listR, ev_lrK, ev_put2, ev_p2A, ev_p2K, ev_p2E, ev_put1, ev_pt1, ev_addXI, ev_addXB, ev_addXS, ev_addXT, ev_addXL, ev_subXI, ev_subXB, ev_mulXI, ev_mulXB, ev_mulXL, ev_negXI, ev_negXB, ev_strXI, ev_strXB, List.getElem?_cons_zero, List.getElem?_cons_succ, List.set_cons_zero, List.set_cons_succ, List.length_cons, List.length_nil, List.cons_append, List.nil_append, if_true, if_false, Bool.false_eq_true, Bool.true_eq_false, reduceIte, Bool.not_true, Bool.not_false, Bool.and_true, Bool.true_and, Bool.and_false, Bool.false_and, Bool.or_true, Bool.true_or, Bool.or_false, Bool.false_or, decide_eq_true_eq, Nat.reduceAdd, Nat.reduceLeDiff, Nat.zero_add, Int.reduceLT, Int.reduceLE, Int.reduceEq, Int.reduceNeg, Nat.reduceEqDiff, and_self, and_true, true_and, decide_true, decide_false, eq_self, ite_true, ite_false, Int.reduceSub, Int.reduceAdd, Int.cast_ofNat_Int, Int.natCast_add, Int.cast_ofNat_Int, Nat.reduceSub, Nat.add_assoc, String.reduceBEq, String.reduceEq, Bool.or_not_self, beq_self_eq_true, hv, ei, lastH, vOf]
                rfl) (by simp only [List.length_nil]; omega)
            rw [List.filter_eq_self.mpr (fun _ _ => rfl)] at z
            simpa only [List.append_assoc, List.cons_append, List.nil_append] using z
          have hb : (xs.map rowH).all id = true := by
            rw [List.all_map]
            simpa using hall
          have bm := bls_map rowH xs
          have lw : (wOfL xs).length ≤ 4000 := by
            unfold wOfL
            rw [List.length_map]
            have := List.length_filter_le isW xs
            omega
          have u1 : ∀ B, m_are_unlike [.ref (st.length + 1)] (st ++ [B, .lst ((wOfL xs).map A.int)]) = .ok (.bl (decide ((ddup (wOfL xs)).length = (wOfL xs).length))) (st ++ [B, .lst ((wOfL xs).map A.int)]) := fun B => unlike_ev ev_appk lw
          have u2 : ∀ B C, m_are_unlike [.ref (st.length + 2)] (st ++ [B, C, .lst ((xs.map tOf).map A.int)]) = .ok (.bl (decide ((ddup (xs.map tOf)).length = xs.length))) (st ++ [B, C, .lst ((xs.map tOf).map A.int)]) := fun B C => by
            have := unlike_ev (st := st ++ [B, C, .lst ((xs.map tOf).map A.int)]) (n := st.length + 2) (ns := xs.map tOf) ev_appk (by rw [List.length_map]; omega)
            rw [List.length_map] at this
            exact this
          have bl4 := bls_map (lastH xs) xs
          have al4 : (xs.map (lastH xs)).all id = xs.all (lastH xs) := by rw [List.all_map]; rfl
          have hh : histL xs = (decide ((ddup (wOfL xs)).length = (wOfL xs).length) && (decide ((ddup (xs.map tOf)).length = xs.length) && xs.all (lastH xs))) := by
            unfold histL
            rw [decide_eq_true h60, hall]
            rfl
          rw [hh]
          cases k1 : decide ((ddup (wOfL xs)).length = (wOfL xs).length) with
          | false =>
            refine ⟨[.lst (xs.map fun x => .bl (rowH x)), .lst ((wOfL xs).map A.int)], ?_⟩
            simp only [ev_bok, ev_bno, ev_bex, ev_tok, ev_tno, ev_tex, ev_nnx, ev_nrt, ev_nbk, ev_nct, ev_nex, ev_nno, ev_frt, ev_fnx, ev_fex, ev_xok, ev_lsome, ev_lnone, ev_seq, ev_if, ev_ret, ev_retN, ev_drop, ev_nop, ev_brk, ev_cont, ev_asgN, ev_asgT, ev_asgO, ev_mgTup, ev_mgN, ev_mgC, ev_mg0, ev_putL, ev_putO, ev_var, ev_vr, ev_c, ev_op, ev_un, ev_test, ev_tb, ev_notT, ev_andT, ev_orT, ev_ifE, ev_not, ev_nb, ev_and, ev_andK, ev_or, ev_orK, ev_chain, ev_chK, ev_nil, ev_cons, ev_tup, ev_lst, ev_new, ev_call, ev_cb, ev_size, ev_addI, ev_addS, ev_addT, ev_addL, ev_catO, ev_sub, ev_mul, ev_div, ev_mod, ev_p5, ev_p6, ev_p12, ev_p18, ev_p30, ev_neg, ev_ltI, ev_ltS, ev_leI, ev_leS, ev_gt, ev_ge, ev_eqI, ev_eqS, ev_neI, ev_neS, ev_neB, ev_eqB, ev_is, ev_isnot, ev_ixT, ev_ixS, ev_ixR, ev_ixL, ev_ixK, ev_getL, ev_getM, ev_gL, ev_gM, ev_at0, ev_at1, ev_at2, ev_at3, ev_at4, ev_lenS, ev_lenR, ev_lenT, ev_lenL, ev_lenO, ev_lenD, ev_abs, ev_min2, ev_max2, ev_intI, ev_intB, ev_set, ev_fc, ev_setset, ev_last, ev_appk, ev_app0, ev_setk, ev_set0, ev_assoc, ev_lapp, ev_lappA, ev_sl, ev_nopart, ev_part, ev_ptK, ev_slT, ev_slS, ev_slR, ev_slK, ev_tyN, ev_tyB, ev_tyI, ev_tyS, ev_tyT, ev_tyL, ev_tyR, ev_tyRL, ev_isi, ev_isi1, ev_isi2, ev_isi3, ev_isi4, ev_isi5, ev_isiT, ev_isi2K, ev_isTy, ev_list, ev_listK, ev_tuple, ev_tupK, ev_getST, ev_getSR, ev_getSL, ev_all, ev_allK, ev_eqXI, ev_eqXS, ev_neXI, ev_neXS, ev_neXB, ev_eqXB, ev_eqXR, ev_neXR, ev_nil2, ev_eqK, ev_neK, ev_meth, ev_meth0, ev_mth1, ev_mth2, ev_mth3, ev_append, ev_m0, ev_m0K, ev_str, ev_for, ev_miR1, ev_rg1K, ev_miL, ev_liK, ev_miT, ev_tiK, ev_lc, ev_wipe0, ev_wipeS, ev_yes, ev_lenSet, ev_lenSetK, ev_listR, ev_lrK, ev_put2, ev_p2A, ev_p2K, ev_p2E, ev_put1, ev_pt1, ev_addXI, ev_addXB, ev_addXS, ev_addXT, ev_addXL, ev_subXI, ev_subXB, ev_mulXI, ev_mulXB, ev_mulXL, ev_negXI, ev_negXB, ev_strXI, ev_strXB, List.getElem?_cons_zero, List.getElem?_cons_succ, List.set_cons_zero, List.set_cons_succ, List.length_cons, List.length_nil, List.cons_append, List.nil_append, if_true, if_false, Bool.false_eq_true, Bool.true_eq_false, reduceIte, Bool.not_true, Bool.not_false, Bool.and_true, Bool.true_and, Bool.and_false, Bool.false_and, Bool.or_true, Bool.true_or, Bool.or_false, Bool.false_or, decide_eq_true_eq, Nat.reduceAdd, Nat.reduceLeDiff, Nat.zero_add, Int.reduceLT, Int.reduceLE, Int.reduceEq, Int.reduceNeg, Nat.reduceEqDiff, and_self, and_true, true_and, decide_true, decide_false, eq_self, ite_true, ite_false, Int.reduceSub, Int.reduceAdd, Int.cast_ofNat_Int, Int.natCast_add, Int.cast_ofNat_Int, Nat.reduceSub, Nat.add_assoc, String.reduceBEq, String.reduceEq, Bool.or_not_self, beq_self_eq_true, h1, c60, e1, bm, Option.map_some, hb, hg, e2, u1, k1]
            try rfl
          | true =>
            cases k2 : decide ((ddup (xs.map tOf)).length = xs.length) with
            | false =>
              refine ⟨[.lst (xs.map fun x => .bl (rowH x)), .lst ((wOfL xs).map A.int), .lst ((xs.map tOf).map A.int)], ?_⟩
              simp only [ev_bok, ev_bno, ev_bex, ev_tok, ev_tno, ev_tex, ev_nnx, ev_nrt, ev_nbk, ev_nct, ev_nex, ev_nno, ev_frt, ev_fnx, ev_fex, ev_xok, ev_lsome, ev_lnone, ev_seq, ev_if, ev_ret, ev_retN, ev_drop, ev_nop, ev_brk, ev_cont, ev_asgN, ev_asgT, ev_asgO, ev_mgTup, ev_mgN, ev_mgC, ev_mg0, ev_putL, ev_putO, ev_var, ev_vr, ev_c, ev_op, ev_un, ev_test, ev_tb, ev_notT, ev_andT, ev_orT, ev_ifE, ev_not, ev_nb, ev_and, ev_andK, ev_or, ev_orK, ev_chain, ev_chK, ev_nil, ev_cons, ev_tup, ev_lst, ev_new, ev_call, ev_cb, ev_size, ev_addI, ev_addS, ev_addT, ev_addL, ev_catO, ev_sub, ev_mul, ev_div, ev_mod, ev_p5, ev_p6, ev_p12, ev_p18, ev_p30, ev_neg, ev_ltI, ev_ltS, ev_leI, ev_leS, ev_gt, ev_ge, ev_eqI, ev_eqS, ev_neI, ev_neS, ev_neB, ev_eqB, ev_is, ev_isnot, ev_ixT, ev_ixS, ev_ixR, ev_ixL, ev_ixK, ev_getL, ev_getM, ev_gL, ev_gM, ev_at0, ev_at1, ev_at2, ev_at3, ev_at4, ev_lenS, ev_lenR, ev_lenT, ev_lenL, ev_lenO, ev_lenD, ev_abs, ev_min2, ev_max2, ev_intI, ev_intB, ev_set, ev_fc, ev_setset, ev_last, ev_appk, ev_app0, ev_setk, ev_set0, ev_assoc, ev_lapp, ev_lappA, ev_sl, ev_nopart, ev_part, ev_ptK, ev_slT, ev_slS, ev_slR, ev_slK, ev_tyN, ev_tyB, ev_tyI, ev_tyS, ev_tyT, ev_tyL, ev_tyR, ev_tyRL, ev_isi, ev_isi1, ev_isi2, ev_isi3, ev_isi4, ev_isi5, ev_isiT, ev_isi2K, ev_isTy, ev_list, ev_listK, ev_tuple, ev_tupK, ev_getST, ev_getSR, ev_getSL, ev_all, ev_allK, ev_eqXI, ev_eqXS, ev_neXI, ev_neXS, ev_neXB, ev_eqXB, ev_eqXR, ev_neXR, ev_nil2, ev_eqK, ev_neK, ev_meth, ev_meth0, ev_mth1, ev_mth2, ev_mth3, ev_append, ev_m0, ev_m0K, ev_str, ev_for, ev_miR1, ev_rg1K, ev_miL, ev_liK, ev_miT, ev_tiK, ev_lc, ev_wipe0, ev_wipeS, ev_yes, ev_lenSet, ev_lenSetK, ev_listR, ev_lrK, ev_put2, ev_p2A, ev_p2K, ev_p2E, ev_put1, ev_pt1, ev_addXI, ev_addXB, ev_addXS, ev_addXT, ev_addXL, ev_subXI, ev_subXB, ev_mulXI, ev_mulXB, ev_mulXL, ev_negXI, ev_negXB, ev_strXI, ev_strXB, List.getElem?_cons_zero, List.getElem?_cons_succ, List.set_cons_zero, List.set_cons_succ, List.length_cons, List.length_nil, List.cons_append, List.nil_append, if_true, if_false, Bool.false_eq_true, Bool.true_eq_false, reduceIte, Bool.not_true, Bool.not_false, Bool.and_true, Bool.true_and, Bool.and_false, Bool.false_and, Bool.or_true, Bool.true_or, Bool.or_false, Bool.false_or, decide_eq_true_eq, Nat.reduceAdd, Nat.reduceLeDiff, Nat.zero_add, Int.reduceLT, Int.reduceLE, Int.reduceEq, Int.reduceNeg, Nat.reduceEqDiff, and_self, and_true, true_and, decide_true, decide_false, eq_self, ite_true, ite_false, Int.reduceSub, Int.reduceAdd, Int.cast_ofNat_Int, Int.natCast_add, Int.cast_ofNat_Int, Nat.reduceSub, Nat.add_assoc, String.reduceBEq, String.reduceEq, Bool.or_not_self, beq_self_eq_true, h1, c60, e1, bm, Option.map_some, hb, e2, u1, k1, hg, e3, u2, k2]
              try rfl
            | true =>
              refine ⟨[.lst (xs.map fun x => .bl (rowH x)), .lst ((wOfL xs).map A.int), .lst ((xs.map tOf).map A.int), .lst (xs.map fun x => .bl (lastH xs x))], ?_⟩
              simp only [ev_bok, ev_bno, ev_bex, ev_tok, ev_tno, ev_tex, ev_nnx, ev_nrt, ev_nbk, ev_nct, ev_nex, ev_nno, ev_frt, ev_fnx, ev_fex, ev_xok, ev_lsome, ev_lnone, ev_seq, ev_if, ev_ret, ev_retN, ev_drop, ev_nop, ev_brk, ev_cont, ev_asgN, ev_asgT, ev_asgO, ev_mgTup, ev_mgN, ev_mgC, ev_mg0, ev_putL, ev_putO, ev_var, ev_vr, ev_c, ev_op, ev_un, ev_test, ev_tb, ev_notT, ev_andT, ev_orT, ev_ifE, ev_not, ev_nb, ev_and, ev_andK, ev_or, ev_orK, ev_chain, ev_chK, ev_nil, ev_cons, ev_tup, ev_lst, ev_new, ev_call, ev_cb, ev_size, ev_addI, ev_addS, ev_addT, ev_addL, ev_catO, ev_sub, ev_mul, ev_div, ev_mod, ev_p5, ev_p6, ev_p12, ev_p18, ev_p30, ev_neg, ev_ltI, ev_ltS, ev_leI, ev_leS, ev_gt, ev_ge, ev_eqI, ev_eqS, ev_neI, ev_neS, ev_neB, ev_eqB, ev_is, ev_isnot, ev_ixT, ev_ixS, ev_ixR, ev_ixL, ev_ixK, ev_getL, ev_getM, ev_gL, ev_gM, ev_at0, ev_at1, ev_at2, ev_at3, ev_at4, ev_lenS, ev_lenR, ev_lenT, ev_lenL, ev_lenO, ev_lenD, ev_abs, ev_min2, ev_max2, ev_intI, ev_intB, ev_set, ev_fc, ev_setset, ev_last, ev_appk, ev_app0, ev_setk, ev_set0, ev_assoc, ev_lapp, ev_lappA, ev_sl, ev_nopart, ev_part, ev_ptK, ev_slT, ev_slS, ev_slR, ev_slK, ev_tyN, ev_tyB, ev_tyI, ev_tyS, ev_tyT, ev_tyL, ev_tyR, ev_tyRL, ev_isi, ev_isi1, ev_isi2, ev_isi3, ev_isi4, ev_isi5, ev_isiT, ev_isi2K, ev_isTy, ev_list, ev_listK, ev_tuple, ev_tupK, ev_getST, ev_getSR, ev_getSL, ev_all, ev_allK, ev_eqXI, ev_eqXS, ev_neXI, ev_neXS, ev_neXB, ev_eqXB, ev_eqXR, ev_neXR, ev_nil2, ev_eqK, ev_neK, ev_meth, ev_meth0, ev_mth1, ev_mth2, ev_mth3, ev_append, ev_m0, ev_m0K, ev_str, ev_for, ev_miR1, ev_rg1K, ev_miL, ev_liK, ev_miT, ev_tiK, ev_lc, ev_wipe0, ev_wipeS, ev_yes, ev_lenSet, ev_lenSetK, ev_listR, ev_lrK, ev_put2, ev_p2A, ev_p2K, ev_p2E, ev_put1, ev_pt1, ev_addXI, ev_addXB, ev_addXS, ev_addXT, ev_addXL, ev_subXI, ev_subXB, ev_mulXI, ev_mulXB, ev_mulXL, ev_negXI, ev_negXB, ev_strXI, ev_strXB, List.getElem?_cons_zero, List.getElem?_cons_succ, List.set_cons_zero, List.set_cons_succ, List.length_cons, List.length_nil, List.cons_append, List.nil_append, if_true, if_false, Bool.false_eq_true, Bool.true_eq_false, reduceIte, Bool.not_true, Bool.not_false, Bool.and_true, Bool.true_and, Bool.and_false, Bool.false_and, Bool.or_true, Bool.true_or, Bool.or_false, Bool.false_or, decide_eq_true_eq, Nat.reduceAdd, Nat.reduceLeDiff, Nat.zero_add, Int.reduceLT, Int.reduceLE, Int.reduceEq, Int.reduceNeg, Nat.reduceEqDiff, and_self, and_true, true_and, decide_true, decide_false, eq_self, ite_true, ite_false, Int.reduceSub, Int.reduceAdd, Int.cast_ofNat_Int, Int.natCast_add, Int.cast_ofNat_Int, Nat.reduceSub, Nat.add_assoc, String.reduceBEq, String.reduceEq, Bool.or_not_self, beq_self_eq_true, h1, c60, e1, bm, Option.map_some, hb, e2, u1, k1, hg, e3, u2, k2, e4, bl4, al4]
              try rfl
        · have hb : (xs.map rowH).all id = false := by
            rw [List.all_map]
            simpa using hall
          refine ⟨[.lst (xs.map fun x => .bl (rowH x))], ?_⟩
          have bm := bls_map rowH xs
          simp only [ev_bok, ev_bno, ev_bex, ev_tok, ev_tno, ev_tex, ev_nnx, ev_nrt, ev_nbk, ev_nct, ev_nex, ev_nno, ev_frt, ev_fnx, ev_fex, ev_xok, ev_lsome, ev_lnone, ev_seq, ev_if, ev_ret, ev_retN, ev_drop, ev_nop, ev_brk, ev_cont, ev_asgN, ev_asgT, ev_asgO, ev_mgTup, ev_mgN, ev_mgC, ev_mg0, ev_putL, ev_putO, ev_var, ev_vr, ev_c, ev_op, ev_un, ev_test, ev_tb, ev_notT, ev_andT, ev_orT, ev_ifE, ev_not, ev_nb, ev_and, ev_andK, ev_or, ev_orK, ev_chain, ev_chK, ev_nil, ev_cons, ev_tup, ev_lst, ev_new, ev_call, ev_cb, ev_size, ev_addI, ev_addS, ev_addT, ev_addL, ev_catO, ev_sub, ev_mul, ev_div, ev_mod, ev_p5, ev_p6, ev_p12, ev_p18, ev_p30, ev_neg, ev_ltI, ev_ltS, ev_leI, ev_leS, ev_gt, ev_ge, ev_eqI, ev_eqS, ev_neI, ev_neS, ev_neB, ev_eqB, ev_is, ev_isnot, ev_ixT, ev_ixS, ev_ixR, ev_ixL, ev_ixK, ev_getL, ev_getM, ev_gL, ev_gM, ev_at0, ev_at1, ev_at2, ev_at3, ev_at4, ev_lenS, ev_lenR, ev_lenT, ev_lenL, ev_lenO, ev_lenD, ev_abs, ev_min2, ev_max2, ev_intI, ev_intB, ev_set, ev_fc, ev_setset, ev_last, ev_appk, ev_app0, ev_setk, ev_set0, ev_assoc, ev_lapp, ev_lappA, ev_sl, ev_nopart, ev_part, ev_ptK, ev_slT, ev_slS, ev_slR, ev_slK, ev_tyN, ev_tyB, ev_tyI, ev_tyS, ev_tyT, ev_tyL, ev_tyR, ev_tyRL, ev_isi, ev_isi1, ev_isi2, ev_isi3, ev_isi4, ev_isi5, ev_isiT, ev_isi2K, ev_isTy, ev_list, ev_listK, ev_tuple, ev_tupK, ev_getST, ev_getSR, ev_getSL, ev_all, ev_allK, ev_eqXI, ev_eqXS, ev_neXI, ev_neXS, ev_neXB, ev_eqXB, ev_eqXR, ev_neXR, ev_nil2, ev_eqK, ev_neK, ev_meth, ev_meth0, ev_mth1, ev_mth2, ev_mth3, ev_append, ev_m0, ev_m0K, ev_str, ev_for, ev_miR1, ev_rg1K, ev_miL, ev_liK, ev_miT, ev_tiK, ev_lc, ev_wipe0, ev_wipeS, ev_yes, ev_lenSet, ev_lenSetK, ev_listR, ev_lrK, ev_put2, ev_p2A, ev_p2K, ev_p2E, ev_put1, ev_pt1, ev_addXI, ev_addXB, ev_addXS, ev_addXT, ev_addXL, ev_subXI, ev_subXB, ev_mulXI, ev_mulXB, ev_mulXL, ev_negXI, ev_negXB, ev_strXI, ev_strXB, List.getElem?_cons_zero, List.getElem?_cons_succ, List.set_cons_zero, List.set_cons_succ, List.length_cons, List.length_nil, List.cons_append, List.nil_append, if_true, if_false, Bool.false_eq_true, Bool.true_eq_false, reduceIte, Bool.not_true, Bool.not_false, Bool.and_true, Bool.true_and, Bool.and_false, Bool.false_and, Bool.or_true, Bool.true_or, Bool.or_false, Bool.false_or, decide_eq_true_eq, Nat.reduceAdd, Nat.reduceLeDiff, Nat.zero_add, Int.reduceLT, Int.reduceLE, Int.reduceEq, Int.reduceNeg, Nat.reduceEqDiff, and_self, and_true, true_and, decide_true, decide_false, eq_self, ite_true, ite_false, Int.reduceSub, Int.reduceAdd, Int.cast_ofNat_Int, Int.natCast_add, Int.cast_ofNat_Int, Nat.reduceSub, Nat.add_assoc, String.reduceBEq, String.reduceEq, Bool.or_not_self, beq_self_eq_true, h1, c60, e1, bm, Option.map_some, hb]
          unfold histL
          simp only [hall, Bool.false_and, Bool.and_false]
          try rfl
      · have c60 : (60 : Int) < (xs.length : Nat) := by omega
        refine ⟨[], ?_⟩
        simp only [ev_bok, ev_bno, ev_bex, ev_tok, ev_tno, ev_tex, ev_nnx, ev_nrt, ev_nbk, ev_nct, ev_nex, ev_nno, ev_frt, ev_fnx, ev_fex, ev_xok, ev_lsome, ev_lnone, ev_seq, ev_if, ev_ret, ev_retN, ev_drop, ev_nop, ev_brk, ev_cont, ev_asgN, ev_asgT, ev_asgO, ev_mgTup, ev_mgN, ev_mgC, ev_mg0, ev_putL, ev_putO, ev_var, ev_vr, ev_c, ev_op, ev_un, ev_test, ev_tb, ev_notT, ev_andT, ev_orT, ev_ifE, ev_not, ev_nb, ev_and, ev_andK, ev_or, ev_orK, ev_chain, ev_chK, ev_nil, ev_cons, ev_tup, ev_lst, ev_new, ev_call, ev_cb, ev_size, ev_addI, ev_addS, ev_addT, ev_addL, ev_catO, ev_sub, ev_mul, ev_div, ev_mod, ev_p5, ev_p6, ev_p12, ev_p18, ev_p30, ev_neg, ev_ltI, ev_ltS, ev_leI, ev_leS, ev_gt, ev_ge, ev_eqI, ev_eqS, ev_neI, ev_neS, ev_neB, ev_eqB, ev_is, ev_isnot, ev_ixT, ev_ixS, ev_ixR, ev_ixL, ev_ixK, ev_getL, ev_getM, ev_gL, ev_gM, ev_at0, ev_at1, ev_at2, ev_at3, ev_at4, ev_lenS, ev_lenR, ev_lenT, ev_lenL, ev_lenO, ev_lenD, ev_abs, ev_min2, ev_max2, ev_intI, ev_intB, ev_set, ev_fc, ev_setset, ev_last, ev_appk, ev_app0, ev_setk, ev_set0, ev_assoc, ev_lapp, ev_lappA, ev_sl, ev_nopart, ev_part, ev_ptK, ev_slT, ev_slS, ev_slR, ev_slK, ev_tyN, ev_tyB, ev_tyI, ev_tyS, ev_tyT, ev_tyL, ev_tyR, ev_tyRL, ev_isi, ev_isi1, ev_isi2, ev_isi3, ev_isi4, ev_isi5, ev_isiT, ev_isi2K, ev_isTy, ev_list, ev_listK, ev_tuple, ev_tupK, ev_getST, ev_getSR, ev_getSL, ev_all, ev_allK, ev_eqXI, ev_eqXS, ev_neXI, ev_neXS, ev_neXB, ev_eqXB, ev_eqXR, ev_neXR, ev_nil2, ev_eqK, ev_neK, ev_meth, ev_meth0, ev_mth1, ev_mth2, ev_mth3, ev_append, ev_m0, ev_m0K, ev_str, ev_for, ev_miR1, ev_rg1K, ev_miL, ev_liK, ev_miT, ev_tiK, ev_lc, ev_wipe0, ev_wipeS, ev_yes, ev_lenSet, ev_lenSetK, ev_listR, ev_lrK, ev_put2, ev_p2A, ev_p2K, ev_p2E, ev_put1, ev_pt1, ev_addXI, ev_addXB, ev_addXS, ev_addXT, ev_addXL, ev_subXI, ev_subXB, ev_mulXI, ev_mulXB, ev_mulXL, ev_negXI, ev_negXB, ev_strXI, ev_strXB, List.getElem?_cons_zero, List.getElem?_cons_succ, List.set_cons_zero, List.set_cons_succ, List.length_cons, List.length_nil, List.cons_append, List.nil_append, if_true, if_false, Bool.false_eq_true, Bool.true_eq_false, reduceIte, Bool.not_true, Bool.not_false, Bool.and_true, Bool.true_and, Bool.and_false, Bool.false_and, Bool.or_true, Bool.true_or, Bool.or_false, Bool.false_or, decide_eq_true_eq, Nat.reduceAdd, Nat.reduceLeDiff, Nat.zero_add, Int.reduceLT, Int.reduceLE, Int.reduceEq, Int.reduceNeg, Nat.reduceEqDiff, and_self, and_true, true_and, decide_true, decide_false, eq_self, ite_true, ite_false, Int.reduceSub, Int.reduceAdd, Int.cast_ofNat_Int, Int.natCast_add, Int.cast_ofNat_Int, Nat.reduceSub, Nat.add_assoc, String.reduceBEq, String.reduceEq, Bool.or_not_self, beq_self_eq_true, h1, c60, List.append_nil]
        unfold histL
        rw [decide_eq_false h60]
        rfl

/-! ### the law's own reading of a history -/
theorem lwhole_ev {st : Sto} {a : A} (h : ∃ t, tyA st a = some t) : m__law_whole [a] st = .ok (.bl (wholeA a)) st := by
  obtain ⟨t, ht⟩ := h
  rw [st__law_whole]
  unfold b__law_whole
  cases a with
  | ref n =>
    obtain ⟨xs, e⟩ := ty_ref ht
    simp only [ev_bok, ev_bno, ev_bex, ev_tok, ev_tno, ev_tex, ev_nnx, ev_nrt, ev_nbk, ev_nct, ev_nex, ev_nno, ev_frt, ev_fnx, ev_fex, ev_xok, ev_lsome, ev_lnone, ev_seq, ev_if, ev_ret, ev_retN, ev_drop, ev_nop, ev_brk, ev_cont, ev_asgN, ev_asgT, ev_asgO, ev_mgTup, ev_mgN, ev_mgC, ev_mg0, ev_putL, ev_putO, ev_var, ev_vr, ev_c, ev_op, ev_un, ev_test, ev_tb, ev_notT, ev_andT, ev_orT, ev_ifE, ev_not, ev_nb, ev_and, ev_andK, ev_or, ev_orK, ev_chain, ev_chK, ev_nil, ev_cons, ev_tup, ev_lst, ev_new, ev_call, ev_cb, ev_size, ev_addI, ev_addS, ev_addT, ev_addL, ev_catO, ev_sub, ev_mul, ev_div, ev_mod, ev_p5, ev_p6, ev_p12, ev_p18, ev_p30, ev_neg, ev_ltI, ev_ltS, ev_leI, ev_leS, ev_gt, ev_ge, ev_eqI, ev_eqS, ev_neI, ev_neS, ev_neB, ev_eqB, ev_is, ev_isnot, ev_ixT, ev_ixS, ev_ixR, ev_ixL, ev_ixK, ev_getL, ev_getM, ev_gL, ev_gM, ev_at0, ev_at1, ev_at2, ev_at3, ev_at4, ev_lenS, ev_lenR, ev_lenT, ev_lenL, ev_lenO, ev_lenD, ev_abs, ev_min2, ev_max2, ev_intI, ev_intB, ev_set, ev_fc, ev_setset, ev_last, ev_appk, ev_app0, ev_setk, ev_set0, ev_assoc, ev_lapp, ev_lappA, ev_sl, ev_nopart, ev_part, ev_ptK, ev_slT, ev_slS, ev_slR, ev_slK, ev_tyN, ev_tyB, ev_tyI, ev_tyS, ev_tyT, ev_tyL, ev_tyR, ev_tyRL, ev_isi, ev_isi1, ev_isi2, ev_isi3, ev_isi4, ev_isi5, ev_isiT, ev_isi2K, ev_isTy, ev_list, ev_listK, ev_tuple, ev_tupK, ev_getST, ev_getSR, ev_getSL, ev_all, ev_allK, ev_eqXI, ev_eqXS, ev_neXI, ev_neXS, ev_neXB, ev_eqXB, ev_eqXR, ev_neXR, ev_nil2, ev_eqK, ev_neK, ev_meth, ev_meth0, ev_mth1, ev_mth2, ev_mth3, ev_append, ev_m0, ev_m0K, ev_str, ev_for, ev_miR1, ev_rg1K, ev_miL, ev_liK, ev_miT, ev_tiK, ev_lc, ev_wipe0, ev_wipeS, ev_yes, ev_lenSet, ev_lenSetK, ev_listR, ev_lrK, ev_put2, ev_p2A, ev_p2K, ev_p2E, ev_put1, ev_pt1, ev_addXI, ev_addXB, ev_addXS, ev_addXT, ev_addXL, ev_subXI, ev_subXB, ev_mulXI, ev_mulXB, ev_mulXL, ev_negXI, ev_negXB, ev_strXI, ev_strXB, List.getElem?_cons_zero, List.getElem?_cons_succ, List.set_cons_zero, List.set_cons_succ, List.length_cons, List.length_nil, List.cons_append, List.nil_append, if_true, if_false, Bool.false_eq_true, Bool.true_eq_false, reduceIte, Bool.not_true, Bool.not_false, Bool.and_true, Bool.true_and, Bool.and_false, Bool.false_and, Bool.or_true, Bool.true_or, Bool.or_false, Bool.false_or, decide_eq_true_eq, Nat.reduceAdd, Nat.reduceLeDiff, Nat.zero_add, Int.reduceLT, Int.reduceLE, Int.reduceEq, Int.reduceNeg, Nat.reduceEqDiff, and_self, and_true, true_and, decide_true, decide_false, eq_self, ite_true, ite_false, Int.reduceSub, Int.reduceAdd, Int.cast_ofNat_Int, Int.natCast_add, Int.cast_ofNat_Int, Nat.reduceSub, Nat.add_assoc, String.reduceBEq, String.reduceEq, Bool.or_not_self, beq_self_eq_true, e]
    rfl
  | adr x => cases ht
  | ty x => cases ht
  | _ =>
    simp only [ev_bok, ev_bno, ev_bex, ev_tok, ev_tno, ev_tex, ev_nnx, ev_nrt, ev_nbk, ev_nct, ev_nex, ev_nno, ev_frt, ev_fnx, ev_fex, ev_xok, ev_lsome, ev_lnone, ev_seq, ev_if, ev_ret, ev_retN, ev_drop, ev_nop, ev_brk, ev_cont, ev_asgN, ev_asgT, ev_asgO, ev_mgTup, ev_mgN, ev_mgC, ev_mg0, ev_putL, ev_putO, ev_var, ev_vr, ev_c, ev_op, ev_un, ev_test, ev_tb, ev_notT, ev_andT, ev_orT, ev_ifE, ev_not, ev_nb, ev_and, ev_andK, ev_or, ev_orK, ev_chain, ev_chK, ev_nil, ev_cons, ev_tup, ev_lst, ev_new, ev_call, ev_cb, ev_size, ev_addI, ev_addS, ev_addT, ev_addL, ev_catO, ev_sub, ev_mul, ev_div, ev_mod, ev_p5, ev_p6, ev_p12, ev_p18, ev_p30, ev_neg, ev_ltI, ev_ltS, ev_leI, ev_leS, ev_gt, ev_ge, ev_eqI, ev_eqS, ev_neI, ev_neS, ev_neB, ev_eqB, ev_is, ev_isnot, ev_ixT, ev_ixS, ev_ixR, ev_ixL, ev_ixK, ev_getL, ev_getM, ev_gL, ev_gM, ev_at0, ev_at1, ev_at2, ev_at3, ev_at4, ev_lenS, ev_lenR, ev_lenT, ev_lenL, ev_lenO, ev_lenD, ev_abs, ev_min2, ev_max2, ev_intI, ev_intB, ev_set, ev_fc, ev_setset, ev_last, ev_appk, ev_app0, ev_setk, ev_set0, ev_assoc, ev_lapp, ev_lappA, ev_sl, ev_nopart, ev_part, ev_ptK, ev_slT, ev_slS, ev_slR, ev_slK, ev_tyN, ev_tyB, ev_tyI, ev_tyS, ev_tyT, ev_tyL, ev_tyR, ev_tyRL, ev_isi, ev_isi1, ev_isi2, ev_isi3, ev_isi4, ev_isi5, ev_isiT, ev_isi2K, ev_isTy, ev_list, ev_listK, ev_tuple, ev_tupK, ev_getST, ev_getSR, ev_getSL, ev_all, ev_allK, ev_eqXI, ev_eqXS, ev_neXI, ev_neXS, ev_neXB, ev_eqXB, ev_eqXR, ev_neXR, ev_nil2, ev_eqK, ev_neK, ev_meth, ev_meth0, ev_mth1, ev_mth2, ev_mth3, ev_append, ev_m0, ev_m0K, ev_str, ev_for, ev_miR1, ev_rg1K, ev_miL, ev_liK, ev_miT, ev_tiK, ev_lc, ev_wipe0, ev_wipeS, ev_yes, ev_lenSet, ev_lenSetK, ev_listR, ev_lrK, ev_put2, ev_p2A, ev_p2K, ev_p2E, ev_put1, ev_pt1, ev_addXI, ev_addXB, ev_addXS, ev_addXT, ev_addXL, ev_subXI, ev_subXB, ev_mulXI, ev_mulXB, ev_mulXL, ev_negXI, ev_negXB, ev_strXI, ev_strXB, List.getElem?_cons_zero, List.getElem?_cons_succ, List.set_cons_zero, List.set_cons_succ, List.length_cons, List.length_nil, List.cons_append, List.nil_append, if_true, if_false, Bool.false_eq_true, Bool.true_eq_false, reduceIte, Bool.not_true, Bool.not_false, Bool.and_true, Bool.true_and, Bool.and_false, Bool.false_and, Bool.or_true, Bool.true_or, Bool.or_false, Bool.false_or, decide_eq_true_eq, Nat.reduceAdd, Nat.reduceLeDiff, Nat.zero_add, Int.reduceLT, Int.reduceLE, Int.reduceEq, Int.reduceNeg, Nat.reduceEqDiff, and_self, and_true, true_and, decide_true, decide_false, eq_self, ite_true, ite_false, Int.reduceSub, Int.reduceAdd, Int.cast_ofNat_Int, Int.natCast_add, Int.cast_ofNat_Int, Nat.reduceSub, Nat.add_assoc, String.reduceBEq, String.reduceEq, Bool.or_not_self, beq_self_eq_true]
    rfl
theorem lwithin_ev {st : Sto} {a : A} {lo hi : Int} (h : ∃ t, tyA st a = some t) : m__law_within [a, .int lo, .int hi] st = .ok (.bl (withinA lo hi a)) st := by
  obtain ⟨t, ht⟩ := h
  rw [st__law_within]
  unfold b__law_within
  cases a with
  | int i =>
    by_cases c : lo ≤ i
    · simp only [ev_bok, ev_bno, ev_bex, ev_tok, ev_tno, ev_tex, ev_nnx, ev_nrt, ev_nbk, ev_nct, ev_nex, ev_nno, ev_frt, ev_fnx, ev_fex, ev_xok, ev_lsome, ev_lnone, ev_seq, ev_if, ev_ret, ev_retN, ev_drop, ev_nop, ev_brk, ev_cont, ev_asgN, ev_asgT, ev_asgO, ev_mgTup, ev_mgN, ev_mgC, ev_mg0, ev_putL, ev_putO, ev_var, ev_vr, ev_c, ev_op, ev_un, ev_test, ev_tb, ev_notT, ev_andT, ev_orT, ev_ifE, ev_not, ev_nb, ev_and, ev_andK, ev_or, ev_orK, ev_chain, ev_chK, ev_nil, ev_cons, ev_tup, ev_lst, ev_new, ev_call, ev_cb, ev_size, ev_addI, ev_addS, ev_addT, ev_addL, ev_catO, ev_sub, ev_mul, ev_div, ev_mod, ev_p5, ev_p6, ev_p12, ev_p18, ev_p30, ev_neg, ev_ltI, ev_ltS, ev_leI, ev_leS, ev_gt, ev_ge, ev_eqI, ev_eqS, ev_neI, ev_neS, ev_neB, ev_eqB, ev_is, ev_isnot, ev_ixT, ev_ixS, ev_ixR, ev_ixL, ev_ixK, ev_getL, ev_getM, ev_gL, ev_gM, ev_at0, ev_at1, ev_at2, ev_at3, ev_at4, ev_lenS, ev_lenR, ev_lenT, ev_lenL, ev_lenO, ev_lenD, ev_abs, ev_min2, ev_max2, ev_intI, ev_intB, ev_set, ev_fc, ev_setset, ev_last, ev_appk, ev_app0, ev_setk, ev_set0, ev_assoc, ev_lapp, ev_lappA, ev_sl, ev_nopart, ev_part, ev_ptK, ev_slT, ev_slS, ev_slR, ev_slK, ev_tyN, ev_tyB, ev_tyI, ev_tyS, ev_tyT, ev_tyL, ev_tyR, ev_tyRL, ev_isi, ev_isi1, ev_isi2, ev_isi3, ev_isi4, ev_isi5, ev_isiT, ev_isi2K, ev_isTy, ev_list, ev_listK, ev_tuple, ev_tupK, ev_getST, ev_getSR, ev_getSL, ev_all, ev_allK, ev_eqXI, ev_eqXS, ev_neXI, ev_neXS, ev_neXB, ev_eqXB, ev_eqXR, ev_neXR, ev_nil2, ev_eqK, ev_neK, ev_meth, ev_meth0, ev_mth1, ev_mth2, ev_mth3, ev_append, ev_m0, ev_m0K, ev_str, ev_for, ev_miR1, ev_rg1K, ev_miL, ev_liK, ev_miT, ev_tiK, ev_lc, ev_wipe0, ev_wipeS, ev_yes, ev_lenSet, ev_lenSetK, ev_listR, ev_lrK, ev_put2, ev_p2A, ev_p2K, ev_p2E, ev_put1, ev_pt1, ev_addXI, ev_addXB, ev_addXS, ev_addXT, ev_addXL, ev_subXI, ev_subXB, ev_mulXI, ev_mulXB, ev_mulXL, ev_negXI, ev_negXB, ev_strXI, ev_strXB, List.getElem?_cons_zero, List.getElem?_cons_succ, List.set_cons_zero, List.set_cons_succ, List.length_cons, List.length_nil, List.cons_append, List.nil_append, if_true, if_false, Bool.false_eq_true, Bool.true_eq_false, reduceIte, Bool.not_true, Bool.not_false, Bool.and_true, Bool.true_and, Bool.and_false, Bool.false_and, Bool.or_true, Bool.true_or, Bool.or_false, Bool.false_or, decide_eq_true_eq, Nat.reduceAdd, Nat.reduceLeDiff, Nat.zero_add, Int.reduceLT, Int.reduceLE, Int.reduceEq, Int.reduceNeg, Nat.reduceEqDiff, and_self, and_true, true_and, decide_true, decide_false, eq_self, ite_true, ite_false, Int.reduceSub, Int.reduceAdd, Int.cast_ofNat_Int, Int.natCast_add, Int.cast_ofNat_Int, Nat.reduceSub, Nat.add_assoc, String.reduceBEq, String.reduceEq, Bool.or_not_self, beq_self_eq_true, withinA, c]
    · simp only [ev_bok, ev_bno, ev_bex, ev_tok, ev_tno, ev_tex, ev_nnx, ev_nrt, ev_nbk, ev_nct, ev_nex, ev_nno, ev_frt, ev_fnx, ev_fex, ev_xok, ev_lsome, ev_lnone, ev_seq, ev_if, ev_ret, ev_retN, ev_drop, ev_nop, ev_brk, ev_cont, ev_asgN, ev_asgT, ev_asgO, ev_mgTup, ev_mgN, ev_mgC, ev_mg0, ev_putL, ev_putO, ev_var, ev_vr, ev_c, ev_op, ev_un, ev_test, ev_tb, ev_notT, ev_andT, ev_orT, ev_ifE, ev_not, ev_nb, ev_and, ev_andK, ev_or, ev_orK, ev_chain, ev_chK, ev_nil, ev_cons, ev_tup, ev_lst, ev_new, ev_call, ev_cb, ev_size, ev_addI, ev_addS, ev_addT, ev_addL, ev_catO, ev_sub, ev_mul, ev_div, ev_mod, ev_p5, ev_p6, ev_p12, ev_p18, ev_p30, ev_neg, ev_ltI, ev_ltS, ev_leI, ev_leS, ev_gt, ev_ge, ev_eqI, ev_eqS, ev_neI, ev_neS, ev_neB, ev_eqB, ev_is, ev_isnot, ev_ixT, ev_ixS, ev_ixR, ev_ixL, ev_ixK, ev_getL, ev_getM, ev_gL, ev_gM, ev_at0, ev_at1, ev_at2, ev_at3, ev_at4, ev_lenS, ev_lenR, ev_lenT, ev_lenL, ev_lenO, ev_lenD, ev_abs, ev_min2, ev_max2, ev_intI, ev_intB, ev_set, ev_fc, ev_setset, ev_last, ev_appk, ev_app0, ev_setk, ev_set0, ev_assoc, ev_lapp, ev_lappA, ev_sl, ev_nopart, ev_part, ev_ptK, ev_slT, ev_slS, ev_slR, ev_slK, ev_tyN, ev_tyB, ev_tyI, ev_tyS, ev_tyT, ev_tyL, ev_tyR, ev_tyRL, ev_isi, ev_isi1, ev_isi2, ev_isi3, ev_isi4, ev_isi5, ev_isiT, ev_isi2K, ev_isTy, ev_list, ev_listK, ev_tuple, ev_tupK, ev_getST, ev_getSR, ev_getSL, ev_all, ev_allK, ev_eqXI, ev_eqXS, ev_neXI, ev_neXS, ev_neXB, ev_eqXB, ev_eqXR, ev_neXR, ev_nil2, ev_eqK, ev_neK, ev_meth, ev_meth0, ev_mth1, ev_mth2, ev_mth3, ev_append, ev_m0, ev_m0K, ev_str, ev_for, ev_miR1, ev_rg1K, ev_miL, ev_liK, ev_miT, ev_tiK, ev_lc, ev_wipe0, ev_wipeS, ev_yes, ev_lenSet, ev_lenSetK, ev_listR, ev_lrK, ev_put2, ev_p2A, ev_p2K, ev_p2E, ev_put1, ev_pt1, ev_addXI, ev_addXB, ev_addXS, ev_addXT, ev_addXL, ev_subXI, ev_subXB, ev_mulXI, ev_mulXB, ev_mulXL, ev_negXI, ev_negXB, ev_strXI, ev_strXB, List.getElem?_cons_zero, List.getElem?_cons_succ, List.set_cons_zero, List.set_cons_succ, List.length_cons, List.length_nil, List.cons_append, List.nil_append, if_true, if_false, Bool.false_eq_true, Bool.true_eq_false, reduceIte, Bool.not_true, Bool.not_false, Bool.and_true, Bool.true_and, Bool.and_false, Bool.false_and, Bool.or_true, Bool.true_or, Bool.or_false, Bool.false_or, decide_eq_true_eq, Nat.reduceAdd, Nat.reduceLeDiff, Nat.zero_add, Int.reduceLT, Int.reduceLE, Int.reduceEq, Int.reduceNeg, Nat.reduceEqDiff, and_self, and_true, true_and, decide_true, decide_false, eq_self, ite_true, ite_false, Int.reduceSub, Int.reduceAdd, Int.cast_ofNat_Int, Int.natCast_add, Int.cast_ofNat_Int, Nat.reduceSub, Nat.add_assoc, String.reduceBEq, String.reduceEq, Bool.or_not_self, beq_self_eq_true, withinA, c]
  | ref n =>
    obtain ⟨xs, e⟩ := ty_ref ht
    simp only [ev_bok, ev_bno, ev_bex, ev_tok, ev_tno, ev_tex, ev_nnx, ev_nrt, ev_nbk, ev_nct, ev_nex, ev_nno, ev_frt, ev_fnx, ev_fex, ev_xok, ev_lsome, ev_lnone, ev_seq, ev_if, ev_ret, ev_retN, ev_drop, ev_nop, ev_brk, ev_cont, ev_asgN, ev_asgT, ev_asgO, ev_mgTup, ev_mgN, ev_mgC, ev_mg0, ev_putL, ev_putO, ev_var, ev_vr, ev_c, ev_op, ev_un, ev_test, ev_tb, ev_notT, ev_andT, ev_orT, ev_ifE, ev_not, ev_nb, ev_and, ev_andK, ev_or, ev_orK, ev_chain, ev_chK, ev_nil, ev_cons, ev_tup, ev_lst, ev_new, ev_call, ev_cb, ev_size, ev_addI, ev_addS, ev_addT, ev_addL, ev_catO, ev_sub, ev_mul, ev_div, ev_mod, ev_p5, ev_p6, ev_p12, ev_p18, ev_p30, ev_neg, ev_ltI, ev_ltS, ev_leI, ev_leS, ev_gt, ev_ge, ev_eqI, ev_eqS, ev_neI, ev_neS, ev_neB, ev_eqB, ev_is, ev_isnot, ev_ixT, ev_ixS, ev_ixR, ev_ixL, ev_ixK, ev_getL, ev_getM, ev_gL, ev_gM, ev_at0, ev_at1, ev_at2, ev_at3, ev_at4, ev_lenS, ev_lenR, ev_lenT, ev_lenL, ev_lenO, ev_lenD, ev_abs, ev_min2, ev_max2, ev_intI, ev_intB, ev_set, ev_fc, ev_setset, ev_last, ev_appk, ev_app0, ev_setk, ev_set0, ev_assoc, ev_lapp, ev_lappA, ev_sl, ev_nopart, ev_part, ev_ptK, ev_slT, ev_slS, ev_slR, ev_slK, ev_tyN, ev_tyB, ev_tyI, ev_tyS, ev_tyT, ev_tyL, ev_tyR, ev_tyRL, ev_isi, ev_isi1, ev_isi2, ev_isi3, ev_isi4, ev_isi5, ev_isiT, ev_isi2K, ev_isTy, ev_list, ev_listK, ev_tuple, ev_tupK, ev_getST, ev_getSR, ev_getSL, ev_all, ev_allK, ev_eqXI, ev_eqXS, ev_neXI, ev_neXS, ev_neXB, ev_eqXB, ev_eqXR, ev_neXR, ev_nil2, ev_eqK, ev_neK, ev_meth, ev_meth0, ev_mth1, ev_mth2, ev_mth3, ev_append, ev_m0, ev_m0K, ev_str, ev_for, ev_miR1, ev_rg1K, ev_miL, ev_liK, ev_miT, ev_tiK, ev_lc, ev_wipe0, ev_wipeS, ev_yes, ev_lenSet, ev_lenSetK, ev_listR, ev_lrK, ev_put2, ev_p2A, ev_p2K, ev_p2E, ev_put1, ev_pt1, ev_addXI, ev_addXB, ev_addXS, ev_addXT, ev_addXL, ev_subXI, ev_subXB, ev_mulXI, ev_mulXB, ev_mulXL, ev_negXI, ev_negXB, ev_strXI, ev_strXB, List.getElem?_cons_zero, List.getElem?_cons_succ, List.set_cons_zero, List.set_cons_succ, List.length_cons, List.length_nil, List.cons_append, List.nil_append, if_true, if_false, Bool.false_eq_true, Bool.true_eq_false, reduceIte, Bool.not_true, Bool.not_false, Bool.and_true, Bool.true_and, Bool.and_false, Bool.false_and, Bool.or_true, Bool.true_or, Bool.or_false, Bool.false_or, decide_eq_true_eq, Nat.reduceAdd, Nat.reduceLeDiff, Nat.zero_add, Int.reduceLT, Int.reduceLE, Int.reduceEq, Int.reduceNeg, Nat.reduceEqDiff, and_self, and_true, true_and, decide_true, decide_false, eq_self, ite_true, ite_false, Int.reduceSub, Int.reduceAdd, Int.cast_ofNat_Int, Int.natCast_add, Int.cast_ofNat_Int, Nat.reduceSub, Nat.add_assoc, String.reduceBEq, String.reduceEq, Bool.or_not_self, beq_self_eq_true, e, withinA]
  | adr x => cases ht
  | ty x => cases ht
  | _ => simp only [ev_bok, ev_bno, ev_bex, ev_tok, ev_tno, ev_tex, ev_nnx, ev_nrt, ev_nbk, ev_nct, ev_nex, ev_nno, ev_frt, ev_fnx, ev_fex, ev_xok, ev_lsome, ev_lnone, ev_seq, ev_if, ev_ret, ev_retN, ev_drop, ev_nop, ev_brk, ev_cont, ev_asgN, ev_asgT, ev_asgO, ev_mgTup, ev_mgN, ev_mgC, ev_mg0, ev_putL, ev_putO, ev_var, ev_vr, ev_c, ev_op, ev_un, ev_test, ev_tb, ev_notT, ev_andT, ev_orT, ev_ifE, ev_not, ev_nb, ev_and, ev_andK, ev_or, ev_orK, ev_chain, ev_chK, ev_nil, ev_cons, ev_tup, ev_lst, ev_new, ev_call, ev_cb, ev_size, ev_addI, ev_addS, ev_addT, ev_addL, ev_catO, ev_sub, ev_mul, ev_div, ev_mod, ev_p5, ev_p6, ev_p12, ev_p18, ev_p30, ev_neg, ev_ltI, ev_ltS, ev_leI, ev_leS, ev_gt, ev_ge, ev_eqI, ev_eqS, ev_neI, ev_neS, ev_neB, ev_eqB, ev_is, ev_isnot, ev_ixT, ev_ixS, ev_ixR, ev_ixL, ev_ixK, ev_getL, ev_getM, ev_gL, ev_gM, ev_at0, ev_at1, ev_at2, ev_at3, ev_at4, ev_lenS, ev_lenR, ev_lenT, ev_lenL, ev_lenO, ev_lenD, ev_abs, ev_min2, ev_max2, ev_intI, ev_intB, ev_set, ev_fc, ev_setset, ev_last, ev_appk, ev_app0, ev_setk, ev_set0, ev_assoc, ev_lapp, ev_lappA, ev_sl, ev_nopart, ev_part, ev_ptK, ev_slT, ev_slS, ev_slR, ev_slK, ev_tyN, ev_tyB, ev_tyI, ev_tyS, ev_tyT, ev_tyL, ev_tyR, ev_tyRL, ev_isi, ev_isi1, ev_isi2, ev_isi3, ev_isi4, ev_isi5, ev_isiT, ev_isi2K, ev_isTy, ev_list, ev_listK, ev_tuple, ev_tupK, ev_getST, ev_getSR, ev_getSL, ev_all, ev_allK, ev_eqXI, ev_eqXS, ev_neXI, ev_neXS, ev_neXB, ev_eqXB, ev_eqXR, ev_neXR, ev_nil2, ev_eqK, ev_neK, ev_meth, ev_meth0, ev_mth1, ev_mth2, ev_mth3, ev_append, ev_m0, ev_m0K, ev_str, ev_for, ev_miR1, ev_rg1K, ev_miL, ev_liK, ev_miT, ev_tiK, ev_lc, ev_wipe0, ev_wipeS, ev_yes, ev_lenSet, ev_lenSetK, ev_listR, ev_lrK, ev_put2, ev_p2A, ev_p2K, ev_p2E, ev_put1, ev_pt1, ev_addXI, ev_addXB, ev_addXS, ev_addXT, ev_addXL, ev_subXI, ev_subXB, ev_mulXI, ev_mulXB, ev_mulXL, ev_negXI, ev_negXB, ev_strXI, ev_strXB, List.getElem?_cons_zero, List.getElem?_cons_succ, List.set_cons_zero, List.set_cons_succ, List.length_cons, List.length_nil, List.cons_append, List.nil_append, if_true, if_false, Bool.false_eq_true, Bool.true_eq_false, reduceIte, Bool.not_true, Bool.not_false, Bool.and_true, Bool.true_and, Bool.and_false, Bool.false_and, Bool.or_true, Bool.true_or, Bool.or_false, Bool.false_or, decide_eq_true_eq, Nat.reduceAdd, Nat.reduceLeDiff, Nat.zero_add, Int.reduceLT, Int.reduceLE, Int.reduceEq, Int.reduceNeg, Nat.reduceEqDiff, and_self, and_true, true_and, decide_true, decide_false, eq_self, ite_true, ite_false, Int.reduceSub, Int.reduceAdd, Int.cast_ofNat_Int, Int.natCast_add, Int.cast_ofNat_Int, Nat.reduceSub, Nat.add_assoc, String.reduceBEq, String.reduceEq, Bool.or_not_self, beq_self_eq_true, withinA]
theorem notIn_wordsL {st : Sto} {n : Nat} {ws : List Str} {x : Str} (e : st[n]? = some (.lst (ws.map A.str))) : oNotInX (.str x) (.ref n) st = .ok (.bl (!inW ws (.str x))) st := by
  have hg : getS st (.ref n) = some (ws.map A.str) := by simp only [ev_getSR, ev_getL, e, ev_gL]
  have hf : (ws.map A.str).all flatA = true := by
    rw [List.all_eq_true]
    intro x hx
    obtain ⟨y, _, rfl⟩ := List.mem_map.mp hx
    rfl
  have t3 : (ws.map A.str).any (fun y => eqF y (.str x)) = inW ws (.str x) := by
    rw [List.any_map]
    rfl
  show oNotInF (.str x) (.ref n) st = _
  unfold oNotInF inA
  rw [hg]
  show lift ((if flatA (.str x) = true ∧ (ws.map A.str).all flatA = true then some ((ws.map A.str).any fun y => eqF y (.str x)) else none).map fun c => A.bl (!c)) st = _
  rw [if_pos ⟨rfl, hf⟩, t3]
  rfl
theorem lrow_ev {st : Sto} {E : Nat → Prop} {s d : Nat} {a x : A} {y2 y3 : Option A} (h : gd st E s d x) : ∃ l, lb__law_is_history_1 [some a, some x, y2, y3] st = if rowH x = true then .fl (.nx [some a, some x, y2, y3]) (st ++ l) else .fl (.rt (.bl false)) (st ++ l) := by
  obtain ⟨ty, hty⟩ := gd_ty h
  by_cases h5 : ∃ t k v b e, x = .tup [t, k, v, b, e]
  · obtain ⟨t, k, v, b, e, rfl⟩ := h5
    cases d with
    | zero => exact h.elim
    | succ d =>
      have hi : ∀ x ∈ [t, k, v, b, e], gd st E s d x := by
        rcases h with h | ⟨xs, e', h1, h2⟩ | ⟨n, xs, e', _⟩
        · exact h.elim
        · cases e'
          exact h2
        · cases e'
      have gt := hi t (by simp)
      have gk := hi k (by simp)
      have gv := hi v (by simp)
      have gb := hi b (by simp)
      have ge := hi e (by simp)
      have e1 := lwhole_ev (gd_ty gt)
      have hr : rowH (.tup [t, k, v, b, e]) = (numA t && inW rwS k && withinA (leastA k) 999 v && withinA 0 1000000 b && endA b e) := rfl
      rw [hr]
      cases t with
      | int i =>
        by_cases i0 : i < 0
        · refine ⟨[], ?_⟩
          have : numA (.int i) = false := decide_eq_false (by omega)
          unfold lb__law_is_history_1
          simp only [ev_bok, ev_bno, ev_bex, ev_tok, ev_tno, ev_tex, ev_nnx, ev_nrt, ev_nbk, ev_nct, ev_nex, ev_nno, ev_frt, ev_fnx, ev_fex, ev_xok, ev_lsome, ev_lnone, ev_seq, ev_if, ev_ret, ev_retN, ev_drop, ev_nop, ev_brk, ev_cont, ev_asgN, ev_asgT, ev_asgO, ev_mgTup, ev_mgN, ev_mgC, ev_mg0, ev_putL, ev_putO, ev_var, ev_vr, ev_c, ev_op, ev_un, ev_test, ev_tb, ev_notT, ev_andT, ev_orT, ev_ifE, ev_not, ev_nb, ev_and, ev_andK, ev_or, ev_orK, ev_chain, ev_chK, ev_nil, ev_cons, ev_tup, ev_lst, ev_new, ev_call, ev_cb, ev_size, ev_addI, ev_addS, ev_addT, ev_addL, ev_catO, ev_sub, ev_mul, ev_div, ev_mod, ev_p5, ev_p6, ev_p12, ev_p18, ev_p30, ev_neg, ev_ltI, ev_ltS, ev_leI, ev_leS, ev_gt, ev_ge, ev_eqI, ev_eqS, ev_neI, ev_neS, ev_neB, ev_eqB, ev_is, ev_isnot, ev_ixT, ev_ixS, ev_ixR, ev_ixL, ev_ixK, ev_getL, ev_getM, ev_gL, ev_gM, ev_at0, ev_at1, ev_at2, ev_at3, ev_at4, ev_lenS, ev_lenR, ev_lenT, ev_lenL, ev_lenO, ev_lenD, ev_abs, ev_min2, ev_max2, ev_intI, ev_intB, ev_set, ev_fc, ev_setset, ev_last, ev_appk, ev_app0, ev_setk, ev_set0, ev_assoc, ev_lapp, ev_lappA, ev_sl, ev_nopart, ev_part, ev_ptK, ev_slT, ev_slS, ev_slR, ev_slK, ev_tyN, ev_tyB, ev_tyI, ev_tyS, ev_tyT, ev_tyL, ev_tyR, ev_tyRL, ev_isi, ev_isi1, ev_isi2, ev_isi3, ev_isi4, ev_isi5, ev_isiT, ev_isi2K, ev_isTy, ev_list, ev_listK, ev_tuple, ev_tupK, ev_getST, ev_getSR, ev_getSL, ev_all, ev_allK, ev_eqXI, ev_eqXS, ev_neXI, ev_neXS, ev_neXB, ev_eqXB, ev_eqXR, ev_neXR, ev_nil2, ev_eqK, ev_neK, ev_meth, ev_meth0, ev_mth1, ev_mth2, ev_mth3, ev_append, ev_m0, ev_m0K, ev_str, ev_for, ev_miR1, ev_rg1K, ev_miL, ev_liK, ev_miT, ev_tiK, ev_lc, ev_wipe0, ev_wipeS, ev_yes, ev_lenSet, ev_lenSetK, ev_listR, ev_lrK, ev_put2, ev_p2A, ev_p2K, ev_p2E, ev_put1, ev_pt1, ev_addXI, ev_addXB, ev_addXS, ev_addXT, ev_addXL, ev_subXI, ev_subXB, ev_mulXI, ev_mulXB, ev_mulXL, ev_negXI, ev_negXB, ev_strXI, ev_strXB, List.getElem?_cons_zero, List.getElem?_cons_succ, List.set_cons_zero, List.set_cons_succ, List.length_cons, List.length_nil, List.cons_append, List.nil_append, if_true, if_false, Bool.false_eq_true, Bool.true_eq_false, reduceIte, Bool.not_true, Bool.not_false, Bool.and_true, Bool.true_and, Bool.and_false, Bool.false_and, Bool.or_true, Bool.true_or, Bool.or_false, Bool.false_or, decide_eq_true_eq, Nat.reduceAdd, Nat.reduceLeDiff, Nat.zero_add, Int.reduceLT, Int.reduceLE, Int.reduceEq, Int.reduceNeg, Nat.reduceEqDiff, and_self, and_true, true_and, decide_true, decide_false, eq_self, ite_true, ite_false, Int.reduceSub, Int.reduceAdd, Int.cast_ofNat_Int, Int.natCast_add, Int.cast_ofNat_Int, Nat.reduceSub, Nat.add_assoc, String.reduceBEq, String.reduceEq, Bool.or_not_self, beq_self_eq_true, e1, wholeA, i0, this, List.append_nil]
        · have hn : numA (.int i) = true := decide_eq_true (by omega)
          obtain ⟨tk, htk⟩ := gd_ty gk
          cases k with
          | str z =>
            have gS : ∀ {x : A}, gd st E s d x → ∃ t, tyA (st ++ [.lst [.str "read", .str "write"]]) x = some t := fun {x} g => by
              obtain ⟨t, ht⟩ := gd_ty g
              refine ⟨t, ?_⟩
              cases x with
              | ref n =>
                obtain ⟨xs, e⟩ := ty_ref ht
                rw [ev_tyR, List.getElem?_append_left (List.getElem?_eq_some_iff.mp e).1]
                exact ht
              | _ => exact ht
            have e2 : oNotInX (.str z) (.ref st.length) (st ++ [.lst [.str "read", .str "write"]]) = .ok (.bl (!inW rwS (.str z))) (st ++ [.lst [.str "read", .str "write"]]) := notIn_wordsL (ws := rwS) ev_last
            have e3 : m__law_within [v, .int 0, .int 999] (st ++ [.lst [.str "read", .str "write"]]) = .ok (.bl (withinA 0 999 v)) _ := lwithin_ev (gS gv)
            have e4 : m__law_within [b, .int 0, .int 1000000] (st ++ [.lst [.str "read", .str "write"]]) = .ok (.bl (withinA 0 1000000 b)) _ := lwithin_ev (gS gb)
            refine ⟨[.lst [.str "read", .str "write"]], ?_⟩
            unfold lb__law_is_history_1
            cases hk : inW rwS (.str z) with
            | false => simp only [ev_bok, ev_bno, ev_bex, ev_tok, ev_tno, ev_tex, ev_nnx, ev_nrt, ev_nbk, ev_nct, ev_nex, ev_nno, ev_frt, ev_fnx, ev_fex, ev_xok, ev_lsome, ev_lnone, ev_seq, ev_if, ev_ret, ev_retN, ev_drop, ev_nop, ev_brk, ev_cont, ev_asgN, ev_asgT, ev_asgO, ev_mgTup, ev_mgN, ev_mgC, ev_mg0, ev_putL, ev_putO, ev_var, ev_vr, ev_c, ev_op, ev_un, ev_test, ev_tb, ev_notT, ev_andT, ev_orT, ev_ifE, ev_not, ev_nb, ev_and, ev_andK, ev_or, ev_orK, ev_chain, ev_chK, ev_nil, ev_cons, ev_tup, ev_lst, ev_new, ev_call, ev_cb, ev_size, ev_addI, ev_addS, ev_addT, ev_addL, ev_catO, ev_sub, ev_mul, ev_div, ev_mod, ev_p5, ev_p6, ev_p12, ev_p18, ev_p30, ev_neg, ev_ltI, ev_ltS, ev_leI, ev_leS, ev_gt, ev_ge, ev_eqI, ev_eqS, ev_neI, ev_neS, ev_neB, ev_eqB, ev_is, ev_isnot, ev_ixT, ev_ixS, ev_ixR, ev_ixL, ev_ixK, ev_getL, ev_getM, ev_gL, ev_gM, ev_at0, ev_at1, ev_at2, ev_at3, ev_at4, ev_lenS, ev_lenR, ev_lenT, ev_lenL, ev_lenO, ev_lenD, ev_abs, ev_min2, ev_max2, ev_intI, ev_intB, ev_set, ev_fc, ev_setset, ev_last, ev_appk, ev_app0, ev_setk, ev_set0, ev_assoc, ev_lapp, ev_lappA, ev_sl, ev_nopart, ev_part, ev_ptK, ev_slT, ev_slS, ev_slR, ev_slK, ev_tyN, ev_tyB, ev_tyI, ev_tyS, ev_tyT, ev_tyL, ev_tyR, ev_tyRL, ev_isi, ev_isi1, ev_isi2, ev_isi3, ev_isi4, ev_isi5, ev_isiT, ev_isi2K, ev_isTy, ev_list, ev_listK, ev_tuple, ev_tupK, ev_getST, ev_getSR, ev_getSL, ev_all, ev_allK, ev_eqXI, ev_eqXS, ev_neXI, ev_neXS, ev_neXB, ev_eqXB, ev_eqXR, ev_neXR, ev_nil2, ev_eqK, ev_neK, ev_meth, ev_meth0, ev_mth1, ev_mth2, ev_mth3, ev_append, ev_m0, ev_m0K, ev_str, ev_for, ev_miR1, ev_rg1K, ev_miL, ev_liK, ev_miT, ev_tiK, ev_lc, ev_wipe0, ev_wipeS, ev_yes, ev_lenSet, ev_lenSetK, ev_listR, ev_lrK, ev_put2, ev_p2A, ev_p2K, ev_p2E, ev_put1, ev_pt1, ev_addXI, ev_addXB, ev_addXS, ev_addXT, ev_addXL, ev_subXI, ev_subXB, ev_mulXI, ev_mulXB, ev_mulXL, ev_negXI, ev_negXB, ev_strXI, ev_strXB, List.getElem?_cons_zero, List.getElem?_cons_succ, List.set_cons_zero, List.set_cons_succ, List.length_cons, List.length_nil, List.cons_append, List.nil_append, if_true, if_false, Bool.false_eq_true, Bool.true_eq_false, reduceIte, Bool.not_true, Bool.not_false, Bool.and_true, Bool.true_and, Bool.and_false, Bool.false_and, Bool.or_true, Bool.true_or, Bool.or_false, Bool.false_or, decide_eq_true_eq, Nat.reduceAdd, Nat.reduceLeDiff, Nat.zero_add, Int.reduceLT, Int.reduceLE, Int.reduceEq, Int.reduceNeg, Nat.reduceEqDiff, and_self, and_true, true_and, decide_true, decide_false, eq_self, ite_true, ite_false, Int.reduceSub, Int.reduceAdd, Int.cast_ofNat_Int, Int.natCast_add, Int.cast_ofNat_Int, Nat.reduceSub, Nat.add_assoc, String.reduceBEq, String.reduceEq, Bool.or_not_self, beq_self_eq_true, e1, wholeA, i0, hn, e2, hk]
            | true =>
              cases v with
              | int v =>
                cases hv : withinA 0 999 (.int v) with
                | false =>
                  have : withinA (leastA (.str z)) 999 (.int v) = false := by
                    simp only [withinA, Bool.and_eq_false_iff, decide_eq_false_iff_not] at hv ⊢
                    unfold leastA
                    split <;> omega
                  simp only [ev_bok, ev_bno, ev_bex, ev_tok, ev_tno, ev_tex, ev_nnx, ev_nrt, ev_nbk, ev_nct, ev_nex, ev_nno, ev_frt, ev_fnx, ev_fex, ev_xok, ev_lsome, ev_lnone, ev_seq, ev_if, ev_ret, ev_retN, ev_drop, ev_nop, ev_brk, ev_cont, ev_asgN, ev_asgT, ev_asgO, ev_mgTup, ev_mgN, ev_mgC, ev_mg0, ev_putL, ev_putO, ev_var, ev_vr, ev_c, ev_op, ev_un, ev_test, ev_tb, ev_notT, ev_andT, ev_orT, ev_ifE, ev_not, ev_nb, ev_and, ev_andK, ev_or, ev_orK, ev_chain, ev_chK, ev_nil, ev_cons, ev_tup, ev_lst, ev_new, ev_call, ev_cb, ev_size, ev_addI, ev_addS, ev_addT, ev_addL, ev_catO, ev_sub, ev_mul, ev_div, ev_mod, ev_p5, ev_p6, ev_p12, ev_p18, ev_p30, ev_neg, ev_ltI, ev_ltS, ev_leI, ev_leS, ev_gt, ev_ge, ev_eqI, ev_eqS, ev_neI, ev_neS, ev_neB, ev_eqB, ev_is, ev_isnot, ev_ixT, ev_ixS, ev_ixR, ev_ixL, ev_ixK, ev_getL, ev_getM, ev_gL, ev_gM, ev_at0, ev_at1, ev_at2, ev_at3, ev_at4, ev_lenS, ev_lenR, ev_lenT, ev_lenL, ev_lenO, ev_lenD, ev_abs, ev_min2, ev_max2, ev_intI, ev_intB, ev_set, ev_fc, ev_setset, ev_last, ev_appk, ev_app0, ev_setk, ev_set0, ev_assoc, ev_lapp, ev_lappA, ev_sl, ev_nopart, ev_part, ev_ptK, ev_slT, ev_slS, ev_slR, ev_slK, ev_tyN, ev_tyB, ev_tyI, ev_tyS, ev_tyT, ev_tyL, ev_tyR, ev_tyRL, ev_isi, ev_isi1, ev_isi2, ev_isi3, ev_isi4, ev_isi5, ev_isiT, ev_isi2K, ev_isTy, ev_list, ev_listK, ev_tuple, ev_tupK, ev_getST, ev_getSR, ev_getSL, ev_all, ev_allK, ev_eqXI, ev_eqXS, ev_neXI, ev_neXS, ev_neXB, ev_eqXB, ev_eqXR, ev_neXR, ev_nil2, ev_eqK, ev_neK, ev_meth, ev_meth0, ev_mth1, ev_mth2, ev_mth3, ev_append, ev_m0, ev_m0K, ev_str, ev_for, ev_miR1, ev_rg1K, ev_miL, ev_liK, ev_miT, ev_tiK, ev_lc, ev_wipe0, ev_wipeS, ev_yes, ev_lenSet, ev_lenSetK, ev_listR, ev_lrK, ev_put2, ev_p2A, ev_p2K, ev_p2E, ev_put1, ev_pt1, ev_addXI, ev_addXB, ev_addXS, ev_addXT, ev_addXL, ev_subXI, ev_subXB, ev_mulXI, ev_mulXB, ev_mulXL, ev_negXI, ev_negXB, ev_strXI, ev_strXB, List.getElem?_cons_zero, List.getElem?_cons_succ, List.set_cons_zero, List.set_cons_succ, List.length_cons, List.length_nil, List.cons_append, List.nil_append, if_true, if_false, Bool.false_eq_true, Bool.true_eq_false, reduceIte, Bool.not_true, Bool.not_false, Bool.and_true, Bool.true_and, Bool.and_false, Bool.false_and, Bool.or_true, Bool.true_or, Bool.or_false, Bool.false_or, decide_eq_true_eq, Nat.reduceAdd, Nat.reduceLeDiff, Nat.zero_add, Int.reduceLT, Int.reduceLE, Int.reduceEq, Int.reduceNeg, Nat.reduceEqDiff, and_self, and_true, true_and, decide_true, decide_false, eq_self, ite_true, ite_false, Int.reduceSub, Int.reduceAdd, Int.cast_ofNat_Int, Int.natCast_add, Int.cast_ofNat_Int, Nat.reduceSub, Nat.add_assoc, String.reduceBEq, String.reduceEq, Bool.or_not_self, beq_self_eq_true, e1, wholeA, i0, hn, e2, hk, e3, hv, this]
                | true =>
                  cases b with
                  | int b =>
                    have e5 : m__law_within [e, .int (b + 1), .int 1000000] (st ++ [.lst [.str "read", .str "write"]]) = .ok (.bl (withinA (b + 1) 1000000 e)) _ := lwithin_ev (gS ge)
                    by_cases hz : z = ("write" : Str)
                    · subst hz
                      by_cases v0 : v = 0
                      · subst v0
                        have : withinA (leastA (.str "write")) 999 (.int 0) = false := by decide
                        cases hb : withinA 0 1000000 (.int b) with
                        | false => simp only [ev_bok, ev_bno, ev_bex, ev_tok, ev_tno, ev_tex, ev_nnx, ev_nrt, ev_nbk, ev_nct, ev_nex, ev_nno, ev_frt, ev_fnx, ev_fex, ev_xok, ev_lsome, ev_lnone, ev_seq, ev_if, ev_ret, ev_retN, ev_drop, ev_nop, ev_brk, ev_cont, ev_asgN, ev_asgT, ev_asgO, ev_mgTup, ev_mgN, ev_mgC, ev_mg0, ev_putL, ev_putO, ev_var, ev_vr, ev_c, ev_op, ev_un, ev_test, ev_tb, ev_notT, ev_andT, ev_orT, ev_ifE, ev_not, ev_nb, ev_and, ev_andK, ev_or, ev_orK, ev_chain, ev_chK, ev_nil, ev_cons, ev_tup, ev_lst, ev_new, ev_call, ev_cb, ev_size, ev_addI, ev_addS, ev_addT, ev_addL, ev_catO, ev_sub, ev_mul, ev_div, ev_mod, ev_p5, ev_p6, ev_p12, ev_p18, ev_p30, ev_neg, ev_ltI, ev_ltS, ev_leI, ev_leS, ev_gt, ev_ge, ev_eqI, ev_eqS, ev_neI, ev_neS, ev_neB, ev_eqB, ev_is, ev_isnot, ev_ixT, ev_ixS, ev_ixR, ev_ixL, ev_ixK, ev_getL, ev_getM, ev_gL, ev_gM, ev_at0, ev_at1, ev_at2, ev_at3, ev_at4, ev_lenS, ev_lenR, ev_lenT, ev_lenL, ev_lenO, ev_lenD, ev_abs, ev_min2, ev_max2, ev_intI, ev_intB, ev_set, ev_fc, ev_setset, ev_last, ev_appk, ev_app0, ev_setk, ev_set0, ev_assoc, ev_lapp, ev_lappA, ev_sl, ev_nopart, ev_part, ev_ptK, ev_slT, ev_slS, ev_slR, ev_slK, ev_tyN, ev_tyB, ev_tyI, ev_tyS, ev_tyT, ev_tyL, ev_tyR, ev_tyRL, ev_isi, ev_isi1, ev_isi2, ev_isi3, ev_isi4, ev_isi5, ev_isiT, ev_isi2K, ev_isTy, ev_list, ev_listK, ev_tuple, ev_tupK, ev_getST, ev_getSR, ev_getSL, ev_all, ev_allK, ev_eqXI, ev_eqXS, ev_neXI, ev_neXS, ev_neXB, ev_eqXB, ev_eqXR, ev_neXR, ev_nil2, ev_eqK, ev_neK, ev_meth, ev_meth0, ev_mth1, ev_mth2, ev_mth3, ev_append, ev_m0, ev_m0K, ev_str, ev_for, ev_miR1, ev_rg1K, ev_miL, ev_liK, ev_miT, ev_tiK, ev_lc, ev_wipe0, ev_wipeS, ev_yes, ev_lenSet, ev_lenSetK, ev_listR, ev_lrK, ev_put2, ev_p2A, ev_p2K, ev_p2E, ev_put1, ev_pt1, ev_addXI, ev_addXB, ev_addXS, ev_addXT, ev_addXL, ev_subXI, ev_subXB, ev_mulXI, ev_mulXB, ev_mulXL, ev_negXI, ev_negXB, ev_strXI, ev_strXB, List.getElem?_cons_zero, List.getElem?_cons_succ, List.set_cons_zero, List.set_cons_succ, List.length_cons, List.length_nil, List.cons_append, List.nil_append, if_true, if_false, Bool.false_eq_true, Bool.true_eq_false, reduceIte, Bool.not_true, Bool.not_false, Bool.and_true, Bool.true_and, Bool.and_false, Bool.false_and, Bool.or_true, Bool.true_or, Bool.or_false, Bool.false_or, decide_eq_true_eq, Nat.reduceAdd, Nat.reduceLeDiff, Nat.zero_add, Int.reduceLT, Int.reduceLE, Int.reduceEq, Int.reduceNeg, Nat.reduceEqDiff, and_self, and_true, true_and, decide_true, decide_false, eq_self, ite_true, ite_false, Int.reduceSub, Int.reduceAdd, Int.cast_ofNat_Int, Int.natCast_add, Int.cast_ofNat_Int, Nat.reduceSub, Nat.add_assoc, String.reduceBEq, String.reduceEq, Bool.or_not_self, beq_self_eq_true, e1, wholeA, i0, hn, e2, hk, e3, hv, this, e4, hb]
                        | true =>
                          cases he : withinA (b + 1) 1000000 e with
                          | false => simp only [ev_bok, ev_bno, ev_bex, ev_tok, ev_tno, ev_tex, ev_nnx, ev_nrt, ev_nbk, ev_nct, ev_nex, ev_nno, ev_frt, ev_fnx, ev_fex, ev_xok, ev_lsome, ev_lnone, ev_seq, ev_if, ev_ret, ev_retN, ev_drop, ev_nop, ev_brk, ev_cont, ev_asgN, ev_asgT, ev_asgO, ev_mgTup, ev_mgN, ev_mgC, ev_mg0, ev_putL, ev_putO, ev_var, ev_vr, ev_c, ev_op, ev_un, ev_test, ev_tb, ev_notT, ev_andT, ev_orT, ev_ifE, ev_not, ev_nb, ev_and, ev_andK, ev_or, ev_orK, ev_chain, ev_chK, ev_nil, ev_cons, ev_tup, ev_lst, ev_new, ev_call, ev_cb, ev_size, ev_addI, ev_addS, ev_addT, ev_addL, ev_catO, ev_sub, ev_mul, ev_div, ev_mod, ev_p5, ev_p6, ev_p12, ev_p18, ev_p30, ev_neg, ev_ltI, ev_ltS, ev_leI, ev_leS, ev_gt, ev_ge, ev_eqI, ev_eqS, ev_neI, ev_neS, ev_neB, ev_eqB, ev_is, ev_isnot, ev_ixT, ev_ixS, ev_ixR, ev_ixL, ev_ixK, ev_getL, ev_getM, ev_gL, ev_gM, ev_at0, ev_at1, ev_at2, ev_at3, ev_at4, ev_lenS, ev_lenR, ev_lenT, ev_lenL, ev_lenO, ev_lenD, ev_abs, ev_min2, ev_max2, ev_intI, ev_intB, ev_set, ev_fc, ev_setset, ev_last, ev_appk, ev_app0, ev_setk, ev_set0, ev_assoc, ev_lapp, ev_lappA, ev_sl, ev_nopart, ev_part, ev_ptK, ev_slT, ev_slS, ev_slR, ev_slK, ev_tyN, ev_tyB, ev_tyI, ev_tyS, ev_tyT, ev_tyL, ev_tyR, ev_tyRL, ev_isi, ev_isi1, ev_isi2, ev_isi3, ev_isi4, ev_isi5, ev_isiT, ev_isi2K, ev_isTy, ev_list, ev_listK, ev_tuple, ev_tupK, ev_getST, ev_getSR, ev_getSL, ev_all, ev_allK, ev_eqXI, ev_eqXS, ev_neXI, ev_neXS, ev_neXB, ev_eqXB, ev_eqXR, ev_neXR, ev_nil2, ev_eqK, ev_neK, ev_meth, ev_meth0, ev_mth1, ev_mth2, ev_mth3, ev_append, ev_m0, ev_m0K, ev_str, ev_for, ev_miR1, ev_rg1K, ev_miL, ev_liK, ev_miT, ev_tiK, ev_lc, ev_wipe0, ev_wipeS, ev_yes, ev_lenSet, ev_lenSetK, ev_listR, ev_lrK, ev_put2, ev_p2A, ev_p2K, ev_p2E, ev_put1, ev_pt1, ev_addXI, ev_addXB, ev_addXS, ev_addXT, ev_addXL, ev_subXI, ev_subXB, ev_mulXI, ev_mulXB, ev_mulXL, ev_negXI, ev_negXB, ev_strXI, ev_strXB, List.getElem?_cons_zero, List.getElem?_cons_succ, List.set_cons_zero, List.set_cons_succ, List.length_cons, List.length_nil, List.cons_append, List.nil_append, if_true, if_false, Bool.false_eq_true, Bool.true_eq_false, reduceIte, Bool.not_true, Bool.not_false, Bool.and_true, Bool.true_and, Bool.and_false, Bool.false_and, Bool.or_true, Bool.true_or, Bool.or_false, Bool.false_or, decide_eq_true_eq, Nat.reduceAdd, Nat.reduceLeDiff, Nat.zero_add, Int.reduceLT, Int.reduceLE, Int.reduceEq, Int.reduceNeg, Nat.reduceEqDiff, and_self, and_true, true_and, decide_true, decide_false, eq_self, ite_true, ite_false, Int.reduceSub, Int.reduceAdd, Int.cast_ofNat_Int, Int.natCast_add, Int.cast_ofNat_Int, Nat.reduceSub, Nat.add_assoc, String.reduceBEq, String.reduceEq, Bool.or_not_self, beq_self_eq_true, e1, wholeA, i0, hn, e2, hk, e3, hv, this, e4, hb, e5, he, endA]
                          | true => simp only [ev_bok, ev_bno, ev_bex, ev_tok, ev_tno, ev_tex, ev_nnx, ev_nrt, ev_nbk, ev_nct, ev_nex, ev_nno, ev_frt, ev_fnx, ev_fex, ev_xok, ev_lsome, ev_lnone, ev_seq, ev_if, ev_ret, ev_retN, ev_drop, ev_nop, ev_brk, ev_cont, ev_asgN, ev_asgT, ev_asgO, ev_mgTup, ev_mgN, ev_mgC, ev_mg0, ev_putL, ev_putO, ev_var, ev_vr, ev_c, ev_op, ev_un, ev_test, ev_tb, ev_notT, ev_andT, ev_orT, ev_ifE, ev_not, ev_nb, ev_and, ev_andK, ev_or, ev_orK, ev_chain, ev_chK, ev_nil, ev_cons, ev_tup, ev_lst, ev_new, ev_call, ev_cb, ev_size, ev_addI, ev_addS, ev_addT, ev_addL, ev_catO, ev_sub, ev_mul, ev_div, ev_mod, ev_p5, ev_p6, ev_p12, ev_p18, ev_p30, ev_neg, ev_ltI, ev_ltS, ev_leI, ev_leS, ev_gt, ev_ge, ev_eqI, ev_eqS, ev_neI, ev_neS, ev_neB, ev_eqB, ev_is, ev_isnot, ev_ixT, ev_ixS, ev_ixR, ev_ixL, ev_ixK, ev_getL, ev_getM, ev_gL, ev_gM, ev_at0, ev_at1, ev_at2, ev_at3, ev_at4, ev_lenS, ev_lenR, ev_lenT, ev_lenL, ev_lenO, ev_lenD, ev_abs, ev_min2, ev_max2, ev_intI, ev_intB, ev_set, ev_fc, ev_setset, ev_last, ev_appk, ev_app0, ev_setk, ev_set0, ev_assoc, ev_lapp, ev_lappA, ev_sl, ev_nopart, ev_part, ev_ptK, ev_slT, ev_slS, ev_slR, ev_slK, ev_tyN, ev_tyB, ev_tyI, ev_tyS, ev_tyT, ev_tyL, ev_tyR, ev_tyRL, ev_isi, ev_isi1, ev_isi2, ev_isi3, ev_isi4, ev_isi5, ev_isiT, ev_isi2K, ev_isTy, ev_list, ev_listK, ev_tuple, ev_tupK, ev_getST, ev_getSR, ev_getSL, ev_all, ev_allK, ev_eqXI, ev_eqXS, ev_neXI, ev_neXS, ev_neXB, ev_eqXB, ev_eqXR, ev_neXR, ev_nil2, ev_eqK, ev_neK, ev_meth, ev_meth0, ev_mth1, ev_mth2, ev_mth3, ev_append, ev_m0, ev_m0K, ev_str, ev_for, ev_miR1, ev_rg1K, ev_miL, ev_liK, ev_miT, ev_tiK, ev_lc, ev_wipe0, ev_wipeS, ev_yes, ev_lenSet, ev_lenSetK, ev_listR, ev_lrK, ev_put2, ev_p2A, ev_p2K, ev_p2E, ev_put1, ev_pt1, ev_addXI, ev_addXB, ev_addXS, ev_addXT, ev_addXL, ev_subXI, ev_subXB, ev_mulXI, ev_mulXB, ev_mulXL, ev_negXI, ev_negXB, ev_strXI, ev_strXB, List.getElem?_cons_zero, List.getElem?_cons_succ, List.set_cons_zero, List.set_cons_succ, List.length_cons, List.length_nil, List.cons_append, List.nil_append, if_true, if_false, Bool.false_eq_true, Bool.true_eq_false, reduceIte, Bool.not_true, Bool.not_false, Bool.and_true, Bool.true_and, Bool.and_false, Bool.false_and, Bool.or_true, Bool.true_or, Bool.or_false, Bool.false_or, decide_eq_true_eq, Nat.reduceAdd, Nat.reduceLeDiff, Nat.zero_add, Int.reduceLT, Int.reduceLE, Int.reduceEq, Int.reduceNeg, Nat.reduceEqDiff, and_self, and_true, true_and, decide_true, decide_false, eq_self, ite_true, ite_false, Int.reduceSub, Int.reduceAdd, Int.cast_ofNat_Int, Int.natCast_add, Int.cast_ofNat_Int, Nat.reduceSub, Nat.add_assoc, String.reduceBEq, String.reduceEq, Bool.or_not_self, beq_self_eq_true, e1, wholeA, i0, hn, e2, hk, e3, hv, this, e4, hb, e5, he, endA]
                      · have : withinA (leastA (.str "write")) 999 (.int v) = true := by
                          simp only [withinA, Bool.and_eq_true, decide_eq_true_eq] at hv
                          show (decide ((1 : Int) ≤ v) && decide (v ≤ 999)) = true
                          rw [decide_eq_true (by omega), decide_eq_true hv.2]
                          rfl
                        cases hb : withinA 0 1000000 (.int b) with
                        | false => simp only [ev_bok, ev_bno, ev_bex, ev_tok, ev_tno, ev_tex, ev_nnx, ev_nrt, ev_nbk, ev_nct, ev_nex, ev_nno, ev_frt, ev_fnx, ev_fex, ev_xok, ev_lsome, ev_lnone, ev_seq, ev_if, ev_ret, ev_retN, ev_drop, ev_nop, ev_brk, ev_cont, ev_asgN, ev_asgT, ev_asgO, ev_mgTup, ev_mgN, ev_mgC, ev_mg0, ev_putL, ev_putO, ev_var, ev_vr, ev_c, ev_op, ev_un, ev_test, ev_tb, ev_notT, ev_andT, ev_orT, ev_ifE, ev_not, ev_nb, ev_and, ev_andK, ev_or, ev_orK, ev_chain, ev_chK, ev_nil, ev_cons, ev_tup, ev_lst, ev_new, ev_call, ev_cb, ev_size, ev_addI, ev_addS, ev_addT, ev_addL, ev_catO, ev_sub, ev_mul, ev_div, ev_mod, ev_p5, ev_p6, ev_p12, ev_p18, ev_p30, ev_neg, ev_ltI, ev_ltS, ev_leI, ev_leS, ev_gt, ev_ge, ev_eqI, ev_eqS, ev_neI, ev_neS, ev_neB, ev_eqB, ev_is, ev_isnot, ev_ixT, ev_ixS, ev_ixR, ev_ixL, ev_ixK, ev_getL, ev_getM, ev_gL, ev_gM, ev_at0, ev_at1, ev_at2, ev_at3, ev_at4, ev_lenS, ev_lenR, ev_lenT, ev_lenL, ev_lenO, ev_lenD, ev_abs, ev_min2, ev_max2, ev_intI, ev_intB, ev_set, ev_fc, ev_setset, ev_last, ev_appk, ev_app0, ev_setk, ev_set0, ev_assoc, ev_lapp, ev_lappA, ev_sl, ev_nopart, ev_part, ev_ptK, ev_slT, ev_slS, ev_slR, ev_slK, ev_tyN, ev_tyB, ev_tyI, ev_tyS, ev_tyT, ev_tyL, ev_tyR, ev_tyRL, ev_isi, ev_isi1, ev_isi2, ev_isi3, ev_isi4, ev_isi5, ev_isiT, ev_isi2K, ev_isTy, ev_list, ev_listK, ev_tuple, ev_tupK, ev_getST, ev_getSR, ev_getSL, ev_all, ev_allK, ev_eqXI, ev_eqXS, ev_neXI, ev_neXS, ev_neXB, ev_eqXB, ev_eqXR, ev_neXR, ev_nil2, ev_eqK, ev_neK, ev_meth, ev_meth0, ev_mth1, ev_mth2, ev_mth3, ev_append, ev_m0, ev_m0K, ev_str, ev_for, ev_miR1, ev_rg1K, ev_miL, ev_liK, ev_miT, ev_tiK, ev_lc, ev_wipe0, ev_wipeS, ev_yes, ev_lenSet, ev_lenSetK, ev_listR, ev_lrK, ev_put2, ev_p2A, ev_p2K, ev_p2E, ev_put1, ev_pt1, ev_addXI, ev_addXB, ev_addXS, ev_addXT, ev_addXL, ev_subXI, ev_subXB, ev_mulXI, ev_mulXB, ev_mulXL, ev_negXI, ev_negXB, ev_strXI, ev_strXB, List.getElem?_cons_zero, List.getElem?_cons_succ, List.set_cons_zero, List.set_cons_succ, List.length_cons, List.length_nil, List.cons_append, List.nil_append, if_true, if_false, Bool.false_eq_true, Bool.true_eq_false, reduceIte, Bool.not_true, Bool.not_false, Bool.and_true, Bool.true_and, Bool.and_false, Bool.false_and, Bool.or_true, Bool.true_or, Bool.or_false, Bool.false_or, decide_eq_true_eq, Nat.reduceAdd, Nat.reduceLeDiff, Nat.zero_add, Int.reduceLT, Int.reduceLE, Int.reduceEq, Int.reduceNeg, Nat.reduceEqDiff, and_self, and_true, true_and, decide_true, decide_false, eq_self, ite_true, ite_false, Int.reduceSub, Int.reduceAdd, Int.cast_ofNat_Int, Int.natCast_add, Int.cast_ofNat_Int, Nat.reduceSub, Nat.add_assoc, String.reduceBEq, String.reduceEq, Bool.or_not_self, beq_self_eq_true, e1, wholeA, i0, hn, e2, hk, e3, hv, this, e4, hb]
                        | true =>
                          cases he : withinA (b + 1) 1000000 e with
                          | false => simp only [ev_bok, ev_bno, ev_bex, ev_tok, ev_tno, ev_tex, ev_nnx, ev_nrt, ev_nbk, ev_nct, ev_nex, ev_nno, ev_frt, ev_fnx, ev_fex, ev_xok, ev_lsome, ev_lnone, ev_seq, ev_if, ev_ret, ev_retN, ev_drop, ev_nop, ev_brk, ev_cont, ev_asgN, ev_asgT, ev_asgO, ev_mgTup, ev_mgN, ev_mgC, ev_mg0, ev_putL, ev_putO, ev_var, ev_vr, ev_c, ev_op, ev_un, ev_test, ev_tb, ev_notT, ev_andT, ev_orT, ev_ifE, ev_not, ev_nb, ev_and, ev_andK, ev_or, ev_orK, ev_chain, ev_chK, ev_nil, ev_cons, ev_tup, ev_lst, ev_new, ev_call, ev_cb, ev_size, ev_addI, ev_addS, ev_addT, ev_addL, ev_catO, ev_sub, ev_mul, ev_div, ev_mod, ev_p5, ev_p6, ev_p12, ev_p18, ev_p30, ev_neg, ev_ltI, ev_ltS, ev_leI, ev_leS, ev_gt, ev_ge, ev_eqI, ev_eqS, ev_neI, ev_neS, ev_neB, ev_eqB, ev_is, ev_isnot, ev_ixT, ev_ixS, ev_ixR, ev_ixL, ev_ixK, ev_getL, ev_getM, ev_gL, ev_gM, ev_at0, ev_at1, ev_at2, ev_at3, ev_at4, ev_lenS, ev_lenR, ev_lenT, ev_lenL, ev_lenO, ev_lenD, ev_abs, ev_min2, ev_max2, ev_intI, ev_intB, ev_set, ev_fc, ev_setset, ev_last, ev_appk, ev_app0, ev_setk, ev_set0, ev_assoc, ev_lapp, ev_lappA, ev_sl, ev_nopart, ev_part, ev_ptK, ev_slT, ev_slS, ev_slR, ev_slK, ev_tyN, ev_tyB, ev_tyI, ev_tyS, ev_tyT, ev_tyL, ev_tyR, ev_tyRL, ev_isi, ev_isi1, ev_isi2, ev_isi3, ev_isi4, ev_isi5, ev_isiT, ev_isi2K, ev_isTy, ev_list, ev_listK, ev_tuple, ev_tupK, ev_getST, ev_getSR, ev_getSL, ev_all, ev_allK, ev_eqXI, ev_eqXS, ev_neXI, ev_neXS, ev_neXB, ev_eqXB, ev_eqXR, ev_neXR, ev_nil2, ev_eqK, ev_neK, ev_meth, ev_meth0, ev_mth1, ev_mth2, ev_mth3, ev_append, ev_m0, ev_m0K, ev_str, ev_for, ev_miR1, ev_rg1K, ev_miL, ev_liK, ev_miT, ev_tiK, ev_lc, ev_wipe0, ev_wipeS, ev_yes, ev_lenSet, ev_lenSetK, ev_listR, ev_lrK, ev_put2, ev_p2A, ev_p2K, ev_p2E, ev_put1, ev_pt1, ev_addXI, ev_addXB, ev_addXS, ev_addXT, ev_addXL, ev_subXI, ev_subXB, ev_mulXI, ev_mulXB, ev_mulXL, ev_negXI, ev_negXB, ev_strXI, ev_strXB, List.getElem?_cons_zero, List.getElem?_cons_succ, List.set_cons_zero, List.set_cons_succ, List.length_cons, List.length_nil, List.cons_append, List.nil_append, if_true, if_false, Bool.false_eq_true, Bool.true_eq_false, reduceIte, Bool.not_true, Bool.not_false, Bool.and_true, Bool.true_and, Bool.and_false, Bool.false_and, Bool.or_true, Bool.true_or, Bool.or_false, Bool.false_or, decide_eq_true_eq, Nat.reduceAdd, Nat.reduceLeDiff, Nat.zero_add, Int.reduceLT, Int.reduceLE, Int.reduceEq, Int.reduceNeg, Nat.reduceEqDiff, and_self, and_true, true_and, decide_true, decide_false, eq_self, ite_true, ite_false, Int.reduceSub, Int.reduceAdd, Int.cast_ofNat_Int, Int.natCast_add, Int.cast_ofNat_Int, Nat.reduceSub, Nat.add_assoc, String.reduceBEq, String.reduceEq, Bool.or_not_self, beq_self_eq_true, e1, wholeA, i0, hn, e2, hk, e3, hv, this, e4, hb, e5, he, endA]
                          | true => simp only [ev_bok, ev_bno, ev_bex, ev_tok, ev_tno, ev_tex, ev_nnx, ev_nrt, ev_nbk, ev_nct, ev_nex, ev_nno, ev_frt, ev_fnx, ev_fex, ev_xok, ev_lsome, ev_lnone, ev_seq, ev_if, ev_ret, ev_retN, ev_drop, ev_nop, ev_brk, ev_cont, ev_asgN, ev_asgT, ev_asgO, ev_mgTup, ev_mgN, ev_mgC, ev_mg0, ev_putL, ev_putO, ev_var, ev_vr, ev_c, ev_op, ev_un, ev_test, ev_tb, ev_notT, ev_andT, ev_orT, ev_ifE, ev_not, ev_nb, ev_and, ev_andK, ev_or, ev_orK, ev_chain, ev_chK, ev_nil, ev_cons, ev_tup, ev_lst, ev_new, ev_call, ev_cb, ev_size, ev_addI, ev_addS, ev_addT, ev_addL, ev_catO, ev_sub, ev_mul, ev_div, ev_mod, ev_p5, ev_p6, ev_p12, ev_p18, ev_p30, ev_neg, ev_ltI, ev_ltS, ev_leI, ev_leS, ev_gt, ev_ge, ev_eqI, ev_eqS, ev_neI, ev_neS, ev_neB, ev_eqB, ev_is, ev_isnot, ev_ixT, ev_ixS, ev_ixR, ev_ixL, ev_ixK, ev_getL, ev_getM, ev_gL, ev_gM, ev_at0, ev_at1, ev_at2, ev_at3, ev_at4, ev_lenS, ev_lenR, ev_lenT, ev_lenL, ev_lenO, ev_lenD, ev_abs, ev_min2, ev_max2, ev_intI, ev_intB, ev_set, ev_fc, ev_setset, ev_last, ev_appk, ev_app0, ev_setk, ev_set0, ev_assoc, ev_lapp, ev_lappA, ev_sl, ev_nopart, ev_part, ev_ptK, ev_slT, ev_slS, ev_slR, ev_slK, ev_tyN, ev_tyB, ev_tyI, ev_tyS, ev_tyT, ev_tyL, ev_tyR, ev_tyRL, ev_isi, ev_isi1, ev_isi2, ev_isi3, ev_isi4, ev_isi5, ev_isiT, ev_isi2K, ev_isTy, ev_list, ev_listK, ev_tuple, ev_tupK, ev_getST, ev_getSR, ev_getSL, ev_all, ev_allK, ev_eqXI, ev_eqXS, ev_neXI, ev_neXS, ev_neXB, ev_eqXB, ev_eqXR, ev_neXR, ev_nil2, ev_eqK, ev_neK, ev_meth, ev_meth0, ev_mth1, ev_mth2, ev_mth3, ev_append, ev_m0, ev_m0K, ev_str, ev_for, ev_miR1, ev_rg1K, ev_miL, ev_liK, ev_miT, ev_tiK, ev_lc, ev_wipe0, ev_wipeS, ev_yes, ev_lenSet, ev_lenSetK, ev_listR, ev_lrK, ev_put2, ev_p2A, ev_p2K, ev_p2E, ev_put1, ev_pt1, ev_addXI, ev_addXB, ev_addXS, ev_addXT, ev_addXL, ev_subXI, ev_subXB, ev_mulXI, ev_mulXB, ev_mulXL, ev_negXI, ev_negXB, ev_strXI, ev_strXB, List.getElem?_cons_zero, List.getElem?_cons_succ, List.set_cons_zero, List.set_cons_succ, List.length_cons, List.length_nil, List.cons_append, List.nil_append, if_true, if_false, Bool.false_eq_true, Bool.true_eq_false, reduceIte, Bool.not_true, Bool.not_false, Bool.and_true, Bool.true_and, Bool.and_false, Bool.false_and, Bool.or_true, Bool.true_or, Bool.or_false, Bool.false_or, decide_eq_true_eq, Nat.reduceAdd, Nat.reduceLeDiff, Nat.zero_add, Int.reduceLT, Int.reduceLE, Int.reduceEq, Int.reduceNeg, Nat.reduceEqDiff, and_self, and_true, true_and, decide_true, decide_false, eq_self, ite_true, ite_false, Int.reduceSub, Int.reduceAdd, Int.cast_ofNat_Int, Int.natCast_add, Int.cast_ofNat_Int, Nat.reduceSub, Nat.add_assoc, String.reduceBEq, String.reduceEq, Bool.or_not_self, beq_self_eq_true, e1, wholeA, i0, hn, e2, hk, e3, hv, this, e4, hb, e5, he, endA, v0]
                    · have : withinA (leastA (.str z)) 999 (.int v) = true := by
                        have : leastA (.str z) = 0 := if_neg hz
                        rw [this]
                        exact hv
                      cases hb : withinA 0 1000000 (.int b) with
                      | false => simp only [ev_bok, ev_bno, ev_bex, ev_tok, ev_tno, ev_tex, ev_nnx, ev_nrt, ev_nbk, ev_nct, ev_nex, ev_nno, ev_frt, ev_fnx, ev_fex, ev_xok, ev_lsome, ev_lnone, ev_seq, ev_if, ev_ret, ev_retN, ev_drop, ev_nop, ev_brk, ev_cont, ev_asgN, ev_asgT, ev_asgO, ev_mgTup, ev_mgN, ev_mgC, ev_mg0, ev_putL, ev_putO, ev_var, ev_vr, ev_c, ev_op, ev_un, ev_test, ev_tb, ev_notT, ev_andT, ev_orT, ev_ifE, ev_not, ev_nb, ev_and, ev_andK, ev_or, ev_orK, ev_chain, ev_chK, ev_nil, ev_cons, ev_tup, ev_lst, ev_new, ev_call, ev_cb, ev_size, ev_addI, ev_addS, ev_addT, ev_addL, ev_catO, ev_sub, ev_mul, ev_div, ev_mod, ev_p5, ev_p6, ev_p12, ev_p18, ev_p30, ev_neg, ev_ltI, ev_ltS, ev_leI, ev_leS, ev_gt, ev_ge, ev_eqI, ev_eqS, ev_neI, ev_neS, ev_neB, ev_eqB, ev_is, ev_isnot, ev_ixT, ev_ixS, ev_ixR, ev_ixL, ev_ixK, ev_getL, ev_getM, ev_gL, ev_gM, ev_at0, ev_at1, ev_at2, ev_at3, ev_at4, ev_lenS, ev_lenR, ev_lenT, ev_lenL, ev_lenO, ev_lenD, ev_abs, ev_min2, ev_max2, ev_intI, ev_intB, ev_set, ev_fc, ev_setset, ev_last, ev_appk, ev_app0, ev_setk, ev_set0, ev_assoc, ev_lapp, ev_lappA, ev_sl, ev_nopart, ev_part, ev_ptK, ev_slT, ev_slS, ev_slR, ev_slK, ev_tyN, ev_tyB, ev_tyI, ev_tyS, ev_tyT, ev_tyL, ev_tyR, ev_tyRL, ev_isi, ev_isi1, ev_isi2, ev_isi3, ev_isi4, ev_isi5, ev_isiT, ev_isi2K, ev_isTy, ev_list, ev_listK, ev_tuple, ev_tupK, ev_getST, ev_getSR, ev_getSL, ev_all, ev_allK, ev_eqXI, ev_eqXS, ev_neXI, ev_neXS, ev_neXB, ev_eqXB, ev_eqXR, ev_neXR, ev_nil2, ev_eqK, ev_neK, ev_meth, ev_meth0, ev_mth1, ev_mth2, ev_mth3, ev_append, ev_m0, ev_m0K, ev_str, ev_for, ev_miR1, ev_rg1K, ev_miL, ev_liK, ev_miT, ev_tiK, ev_lc, ev_wipe0, ev_wipeS, ev_yes, ev_lenSet, ev_lenSetK, ev_listR, ev_lrK, ev_put2, ev_p2A, ev_p2K, ev_p2E, ev_put1, ev_pt1, ev_addXI, ev_addXB, ev_addXS, ev_addXT, ev_addXL, ev_subXI, ev_subXB, ev_mulXI, ev_mulXB, ev_mulXL, ev_negXI, ev_negXB, ev_strXI, ev_strXB, List.getElem?_cons_zero, List.getElem?_cons_succ, List.set_cons_zero, List.set_cons_succ, List.length_cons, List.length_nil, List.cons_append, List.nil_append, if_true, if_false, Bool.false_eq_true, Bool.true_eq_false, reduceIte, Bool.not_true, Bool.not_false, Bool.and_true, Bool.true_and, Bool.and_false, Bool.false_and, Bool.or_true, Bool.true_or, Bool.or_false, Bool.false_or, decide_eq_true_eq, Nat.reduceAdd, Nat.reduceLeDiff, Nat.zero_add, Int.reduceLT, Int.reduceLE, Int.reduceEq, Int.reduceNeg, Nat.reduceEqDiff, and_self, and_true, true_and, decide_true, decide_false, eq_self, ite_true, ite_false, Int.reduceSub, Int.reduceAdd, Int.cast_ofNat_Int, Int.natCast_add, Int.cast_ofNat_Int, Nat.reduceSub, Nat.add_assoc, String.reduceBEq, String.reduceEq, Bool.or_not_self, beq_self_eq_true, e1, wholeA, i0, hn, e2, hk, e3, hv, this, e4, hb]
                      | true =>
                        cases he : withinA (b + 1) 1000000 e with
                        | false => simp only [ev_bok, ev_bno, ev_bex, ev_tok, ev_tno, ev_tex, ev_nnx, ev_nrt, ev_nbk, ev_nct, ev_nex, ev_nno, ev_frt, ev_fnx, ev_fex, ev_xok, ev_lsome, ev_lnone, ev_seq, ev_if, ev_ret, ev_retN, ev_drop, ev_nop, ev_brk, ev_cont, ev_asgN, ev_asgT, ev_asgO, ev_mgTup, ev_mgN, ev_mgC, ev_mg0, ev_putL, ev_putO, ev_var, ev_vr, ev_c, ev_op, ev_un, ev_test, ev_tb, ev_notT, ev_andT, ev_orT, ev_ifE, ev_not, ev_nb, ev_and, ev_andK, ev_or, ev_orK, ev_chain, ev_chK, ev_nil, ev_cons, ev_tup, ev_lst, ev_new, ev_call, ev_cb, ev_size, ev_addI, ev_addS, ev_addT, ev_addL, ev_catO, ev_sub, ev_mul, ev_div, ev_mod, ev_p5, ev_p6, ev_p12, ev_p18, ev_p30, ev_neg, ev_ltI, ev_ltS, ev_leI, ev_leS, ev_gt, ev_ge, ev_eqI, ev_eqS, ev_neI, ev_neS, ev_neB, ev_eqB, ev_is, ev_isnot, ev_ixT, ev_ixS, ev_ixR, ev_ixL, ev_ixK, ev_getL, ev_getM, ev_gL, ev_gM, ev_at0, ev_at1, ev_at2, ev_at3, ev_at4, ev_lenS, ev_lenR, ev_lenT, ev_lenL, ev_lenO, ev_lenD, ev_abs, ev_min2, ev_max2, ev_intI, ev_intB, ev_set, ev_fc, ev_setset, ev_last, ev_appk, ev_app0, ev_setk, ev_set0, ev_assoc, ev_lapp, ev_lappA, ev_sl, ev_nopart, ev_part, ev_ptK, ev_slT, ev_slS, ev_slR, ev_slK, ev_tyN, ev_tyB, ev_tyI, ev_tyS, ev_tyT, ev_tyL, ev_tyR, ev_tyRL, ev_isi, ev_isi1, ev_isi2, ev_isi3, ev_isi4, ev_isi5, ev_isiT, ev_isi2K, ev_isTy, ev_list, ev_listK, ev_tuple, ev_tupK, ev_getST, ev_getSR, ev_getSL, ev_all, ev_allK, ev_eqXI, ev_eqXS, ev_neXI, ev_neXS, ev_neXB, ev_eqXB, ev_eqXR, ev_neXR, ev_nil2, ev_eqK, ev_neK, ev_meth, ev_meth0, ev_mth1, ev_mth2, ev_mth3, ev_append, ev_m0, ev_m0K, ev_str, ev_for, ev_miR1, ev_rg1K, ev_miL, ev_liK, ev_miT, ev_tiK, ev_lc, ev_wipe0, ev_wipeS, ev_yes, ev_lenSet, ev_lenSetK, ev_listR, ev_lrK, ev_put2, ev_p2A, ev_p2K, ev_p2E, ev_put1, ev_pt1, ev_addXI, ev_addXB, ev_addXS, ev_addXT, ev_addXL, ev_subXI, ev_subXB, ev_mulXI, ev_mulXB, ev_mulXL, ev_negXI, ev_negXB, ev_strXI, ev_strXB, List.getElem?_cons_zero, List.getElem?_cons_succ, List.set_cons_zero, List.set_cons_succ, List.length_cons, List.length_nil, List.cons_append, List.nil_append, if_true, if_false, Bool.false_eq_true, Bool.true_eq_false, reduceIte, Bool.not_true, Bool.not_false, Bool.and_true, Bool.true_and, Bool.and_false, Bool.false_and, Bool.or_true, Bool.true_or, Bool.or_false, Bool.false_or, decide_eq_true_eq, Nat.reduceAdd, Nat.reduceLeDiff, Nat.zero_add, Int.reduceLT, Int.reduceLE, Int.reduceEq, Int.reduceNeg, Nat.reduceEqDiff, and_self, and_true, true_and, decide_true, decide_false, eq_self, ite_true, ite_false, Int.reduceSub, Int.reduceAdd, Int.cast_ofNat_Int, Int.natCast_add, Int.cast_ofNat_Int, Nat.reduceSub, Nat.add_assoc, String.reduceBEq, String.reduceEq, Bool.or_not_self, beq_self_eq_true, e1, wholeA, i0, hn, e2, hk, e3, hv, this, e4, hb, e5, he, endA]
                        | true => simp only [ev_bok, ev_bno, ev_bex, ev_tok, ev_tno, ev_tex, ev_nnx, ev_nrt, ev_nbk, ev_nct, ev_nex, ev_nno, ev_frt, ev_fnx, ev_fex, ev_xok, ev_lsome, ev_lnone, ev_seq, ev_if, ev_ret, ev_retN, ev_drop, ev_nop, ev_brk, ev_cont, ev_asgN, ev_asgT, ev_asgO, ev_mgTup, ev_mgN, ev_mgC, ev_mg0, ev_putL, ev_putO, ev_var, ev_vr, ev_c, ev_op, ev_un, ev_test, ev_tb, ev_notT, ev_andT, ev_orT, ev_ifE, ev_not, ev_nb, ev_and, ev_andK, ev_or, ev_orK, ev_chain, ev_chK, ev_nil, ev_cons, ev_tup, ev_lst, ev_new, ev_call, ev_cb, ev_size, ev_addI, ev_addS, ev_addT, ev_addL, ev_catO, ev_sub, ev_mul, ev_div, ev_mod, ev_p5, ev_p6, ev_p12, ev_p18, ev_p30, ev_neg, ev_ltI, ev_ltS, ev_leI, ev_leS, ev_gt, ev_ge, ev_eqI, ev_eqS, ev_neI, ev_neS, ev_neB, ev_eqB, ev_is, ev_isnot, ev_ixT, ev_ixS, ev_ixR, ev_ixL, ev_ixK, ev_getL, ev_getM, ev_gL, ev_gM, ev_at0, ev_at1, ev_at2, ev_at3, ev_at4, ev_lenS, ev_lenR, ev_lenT, ev_lenL, ev_lenO, ev_lenD, ev_abs, ev_min2, ev_max2, ev_intI, ev_intB, ev_set, ev_fc, ev_setset, ev_last, ev_appk, ev_app0, ev_setk, ev_set0, ev_assoc, ev_lapp, ev_lappA, ev_sl, ev_nopart, ev_part, ev_ptK, ev_slT, ev_slS, ev_slR, ev_slK, ev_tyN, ev_tyB, ev_tyI, ev_tyS, ev_tyT, ev_tyL, ev_tyR, ev_tyRL, ev_isi, ev_isi1, ev_isi2, ev_isi3, ev_isi4, ev_isi5, ev_isiT, ev_isi2K, ev_isTy, ev_list, ev_listK, ev_tuple, ev_tupK, ev_getST, ev_getSR, ev_getSL, ev_all, ev_allK, ev_eqXI, ev_eqXS, ev_neXI, ev_neXS, ev_neXB, ev_eqXB, ev_eqXR, ev_neXR, ev_nil2, ev_eqK, ev_neK, ev_meth, ev_meth0, ev_mth1, ev_mth2, ev_mth3, ev_append, ev_m0, ev_m0K, ev_str, ev_for, ev_miR1, ev_rg1K, ev_miL, ev_liK, ev_miT, ev_tiK, ev_lc, ev_wipe0, ev_wipeS, ev_yes, ev_lenSet, ev_lenSetK, ev_listR, ev_lrK, ev_put2, ev_p2A, ev_p2K, ev_p2E, ev_put1, ev_pt1, ev_addXI, ev_addXB, ev_addXS, ev_addXT, ev_addXL, ev_subXI, ev_subXB, ev_mulXI, ev_mulXB, ev_mulXL, ev_negXI, ev_negXB, ev_strXI, ev_strXB, List.getElem?_cons_zero, List.getElem?_cons_succ, List.set_cons_zero, List.set_cons_succ, List.length_cons, List.length_nil, List.cons_append, List.nil_append, if_true, if_false, Bool.false_eq_true, Bool.true_eq_false, reduceIte, Bool.not_true, Bool.not_false, Bool.and_true, Bool.true_and, Bool.and_false, Bool.false_and, Bool.or_true, Bool.true_or, Bool.or_false, Bool.false_or, decide_eq_true_eq, Nat.reduceAdd, Nat.reduceLeDiff, Nat.zero_add, Int.reduceLT, Int.reduceLE, Int.reduceEq, Int.reduceNeg, Nat.reduceEqDiff, and_self, and_true, true_and, decide_true, decide_false, eq_self, ite_true, ite_false, Int.reduceSub, Int.reduceAdd, Int.cast_ofNat_Int, Int.natCast_add, Int.cast_ofNat_Int, Nat.reduceSub, Nat.add_assoc, String.reduceBEq, String.reduceEq, Bool.or_not_self, beq_self_eq_true, e1, wholeA, i0, hn, e2, hk, e3, hv, this, e4, hb, e5, he, endA, hz]
                  | _ =>
                    simp only [withinA] at e4
                    simp only [ev_bok, ev_bno, ev_bex, ev_tok, ev_tno, ev_tex, ev_nnx, ev_nrt, ev_nbk, ev_nct, ev_nex, ev_nno, ev_frt, ev_fnx, ev_fex, ev_xok, ev_lsome, ev_lnone, ev_seq, ev_if, ev_ret, ev_retN, ev_drop, ev_nop, ev_brk, ev_cont, ev_asgN, ev_asgT, ev_asgO, ev_mgTup, ev_mgN, ev_mgC, ev_mg0, ev_putL, ev_putO, ev_var, ev_vr, ev_c, ev_op, ev_un, ev_test, ev_tb, ev_notT, ev_andT, ev_orT, ev_ifE, ev_not, ev_nb, ev_and, ev_andK, ev_or, ev_orK, ev_chain, ev_chK, ev_nil, ev_cons, ev_tup, ev_lst, ev_new, ev_call, ev_cb, ev_size, ev_addI, ev_addS, ev_addT, ev_addL, ev_catO, ev_sub, ev_mul, ev_div, ev_mod, ev_p5, ev_p6, ev_p12, ev_p18, ev_p30, ev_neg, ev_ltI, ev_ltS, ev_leI, ev_leS, ev_gt, ev_ge, ev_eqI, ev_eqS, ev_neI, ev_neS, ev_neB, ev_eqB, ev_is, ev_isnot, ev_ixT, ev_ixS, ev_ixR, ev_ixL, ev_ixK, ev_getL, ev_getM, ev_gL, ev_gM, ev_at0, ev_at1, ev_at2, ev_at3, ev_at4, ev_lenS, ev_lenR, ev_lenT, ev_lenL, ev_lenO, ev_lenD, ev_abs, ev_min2, ev_max2, ev_intI, ev_intB, ev_set, ev_fc, ev_setset, ev_last, ev_appk, ev_app0, ev_setk, ev_set0, ev_assoc, ev_lapp, ev_lappA, ev_sl, ev_nopart, ev_part, ev_ptK, ev_slT, ev_slS, ev_slR, ev_slK, ev_tyN, ev_tyB, ev_tyI, ev_tyS, ev_tyT, ev_tyL, ev_tyR, ev_tyRL, ev_isi, ev_isi1, ev_isi2, ev_isi3, ev_isi4, ev_isi5, ev_isiT, ev_isi2K, ev_isTy, ev_list, ev_listK, ev_tuple, ev_tupK, ev_getST, ev_getSR, ev_getSL, ev_all, ev_allK, ev_eqXI, ev_eqXS, ev_neXI, ev_neXS, ev_neXB, ev_eqXB, ev_eqXR, ev_neXR, ev_nil2, ev_eqK, ev_neK, ev_meth, ev_meth0, ev_mth1, ev_mth2, ev_mth3, ev_append, ev_m0, ev_m0K, ev_str, ev_for, ev_miR1, ev_rg1K, ev_miL, ev_liK, ev_miT, ev_tiK, ev_lc, ev_wipe0, ev_wipeS, ev_yes, ev_lenSet, ev_lenSetK, ev_listR, ev_lrK, ev_put2, ev_p2A, ev_p2K, ev_p2E, ev_put1, ev_pt1, ev_addXI, ev_addXB, ev_addXS, ev_addXT, ev_addXL, ev_subXI, ev_subXB, ev_mulXI, ev_mulXB, ev_mulXL, ev_negXI, ev_negXB, ev_strXI, ev_strXB, List.getElem?_cons_zero, List.getElem?_cons_succ, List.set_cons_zero, List.set_cons_succ, List.length_cons, List.length_nil, List.cons_append, List.nil_append, if_true, if_false, Bool.false_eq_true, Bool.true_eq_false, reduceIte, Bool.not_true, Bool.not_false, Bool.and_true, Bool.true_and, Bool.and_false, Bool.false_and, Bool.or_true, Bool.true_or, Bool.or_false, Bool.false_or, decide_eq_true_eq, Nat.reduceAdd, Nat.reduceLeDiff, Nat.zero_add, Int.reduceLT, Int.reduceLE, Int.reduceEq, Int.reduceNeg, Nat.reduceEqDiff, and_self, and_true, true_and, decide_true, decide_false, eq_self, ite_true, ite_false, Int.reduceSub, Int.reduceAdd, Int.cast_ofNat_Int, Int.natCast_add, Int.cast_ofNat_Int, Nat.reduceSub, Nat.add_assoc, String.reduceBEq, String.reduceEq, Bool.or_not_self, beq_self_eq_true, e1, wholeA, i0, hn, e2, hk, e3, hv, e4, endA]
              | _ =>
                simp only [withinA] at e3
                simp only [ev_bok, ev_bno, ev_bex, ev_tok, ev_tno, ev_tex, ev_nnx, ev_nrt, ev_nbk, ev_nct, ev_nex, ev_nno, ev_frt, ev_fnx, ev_fex, ev_xok, ev_lsome, ev_lnone, ev_seq, ev_if, ev_ret, ev_retN, ev_drop, ev_nop, ev_brk, ev_cont, ev_asgN, ev_asgT, ev_asgO, ev_mgTup, ev_mgN, ev_mgC, ev_mg0, ev_putL, ev_putO, ev_var, ev_vr, ev_c, ev_op, ev_un, ev_test, ev_tb, ev_notT, ev_andT, ev_orT, ev_ifE, ev_not, ev_nb, ev_and, ev_andK, ev_or, ev_orK, ev_chain, ev_chK, ev_nil, ev_cons, ev_tup, ev_lst, ev_new, ev_call, ev_cb, ev_size, ev_addI, ev_addS, ev_addT, ev_addL, ev_catO, ev_sub, ev_mul, ev_div, ev_mod, ev_p5, ev_p6, ev_p12, ev_p18, ev_p30, ev_neg, ev_ltI, ev_ltS, ev_leI, ev_leS, ev_gt, ev_ge, ev_eqI, ev_eqS, ev_neI, ev_neS, ev_neB, ev_eqB, ev_is, ev_isnot, ev_ixT, ev_ixS, ev_ixR, ev_ixL, ev_ixK, ev_getL, ev_getM, ev_gL, ev_gM, ev_at0, ev_at1, ev_at2, ev_at3, ev_at4, ev_lenS, ev_lenR, ev_lenT, ev_lenL, ev_lenO, ev_lenD, ev_abs, ev_min2, ev_max2, ev_intI, ev_intB, ev_set, ev_fc, ev_setset, ev_last, ev_appk, ev_app0, ev_setk, ev_set0, ev_assoc, ev_lapp, ev_lappA, ev_sl, ev_nopart, ev_part, ev_ptK, ev_slT, ev_slS, ev_slR, ev_slK, ev_tyN, ev_tyB, ev_tyI, ev_tyS, ev_tyT, ev_tyL, ev_tyR, ev_tyRL, ev_isi, ev_isi1, ev_isi2, ev_isi3, ev_isi4, ev_isi5, ev_isiT, ev_isi2K, ev_isTy, ev_list, ev_listK, ev_tuple, ev_tupK, ev_getST, ev_getSR, ev_getSL, ev_all, ev_allK, ev_eqXI, ev_eqXS, ev_neXI, ev_neXS, ev_neXB, ev_eqXB, ev_eqXR, ev_neXR, ev_nil2, ev_eqK, ev_neK, ev_meth, ev_meth0, ev_mth1, ev_mth2, ev_mth3, ev_append, ev_m0, ev_m0K, ev_str, ev_for, ev_miR1, ev_rg1K, ev_miL, ev_liK, ev_miT, ev_tiK, ev_lc, ev_wipe0, ev_wipeS, ev_yes, ev_lenSet, ev_lenSetK, ev_listR, ev_lrK, ev_put2, ev_p2A, ev_p2K, ev_p2E, ev_put1, ev_pt1, ev_addXI, ev_addXB, ev_addXS, ev_addXT, ev_addXL, ev_subXI, ev_subXB, ev_mulXI, ev_mulXB, ev_mulXL, ev_negXI, ev_negXB, ev_strXI, ev_strXB, List.getElem?_cons_zero, List.getElem?_cons_succ, List.set_cons_zero, List.set_cons_succ, List.length_cons, List.length_nil, List.cons_append, List.nil_append, if_true, if_false, Bool.false_eq_true, Bool.true_eq_false, reduceIte, Bool.not_true, Bool.not_false, Bool.and_true, Bool.true_and, Bool.and_false, Bool.false_and, Bool.or_true, Bool.true_or, Bool.or_false, Bool.false_or, decide_eq_true_eq, Nat.reduceAdd, Nat.reduceLeDiff, Nat.zero_add, Int.reduceLT, Int.reduceLE, Int.reduceEq, Int.reduceNeg, Nat.reduceEqDiff, and_self, and_true, true_and, decide_true, decide_false, eq_self, ite_true, ite_false, Int.reduceSub, Int.reduceAdd, Int.cast_ofNat_Int, Int.natCast_add, Int.cast_ofNat_Int, Nat.reduceSub, Nat.add_assoc, String.reduceBEq, String.reduceEq, Bool.or_not_self, beq_self_eq_true, e1, wholeA, i0, hn, e2, hk, e3, withinA]
          | ref n =>
            obtain ⟨xs, en⟩ := ty_ref htk
            refine ⟨[], ?_⟩
            unfold lb__law_is_history_1
            simp only [ev_bok, ev_bno, ev_bex, ev_tok, ev_tno, ev_tex, ev_nnx, ev_nrt, ev_nbk, ev_nct, ev_nex, ev_nno, ev_frt, ev_fnx, ev_fex, ev_xok, ev_lsome, ev_lnone, ev_seq, ev_if, ev_ret, ev_retN, ev_drop, ev_nop, ev_brk, ev_cont, ev_asgN, ev_asgT, ev_asgO, ev_mgTup, ev_mgN, ev_mgC, ev_mg0, ev_putL, ev_putO, ev_var, ev_vr, ev_c, ev_op, ev_un, ev_test, ev_tb, ev_notT, ev_andT, ev_orT, ev_ifE, ev_not, ev_nb, ev_and, ev_andK, ev_or, ev_orK, ev_chain, ev_chK, ev_nil, ev_cons, ev_tup, ev_lst, ev_new, ev_call, ev_cb, ev_size, ev_addI, ev_addS, ev_addT, ev_addL, ev_catO, ev_sub, ev_mul, ev_div, ev_mod, ev_p5, ev_p6, ev_p12, ev_p18, ev_p30, ev_neg, ev_ltI, ev_ltS, ev_leI, ev_leS, ev_gt, ev_ge, ev_eqI, ev_eqS, ev_neI, ev_neS, ev_neB, ev_eqB, ev_is, ev_isnot, ev_ixT, ev_ixS, ev_ixR, ev_ixL, ev_ixK, ev_getL, ev_getM, ev_gL, ev_gM, ev_at0, ev_at1, ev_at2, ev_at3, ev_at4, ev_lenS, ev_lenR, ev_lenT, ev_lenL, ev_lenO, ev_lenD, ev_abs, ev_min2, ev_max2, ev_intI, ev_intB, ev_set, ev_fc, ev_setset, ev_last, ev_appk, ev_app0, ev_setk, ev_set0, ev_assoc, ev_lapp, ev_lappA, ev_sl, ev_nopart, ev_part, ev_ptK, ev_slT, ev_slS, ev_slR, ev_slK, ev_tyN, ev_tyB, ev_tyI, ev_tyS, ev_tyT, ev_tyL, ev_tyR, ev_tyRL, ev_isi, ev_isi1, ev_isi2, ev_isi3, ev_isi4, ev_isi5, ev_isiT, ev_isi2K, ev_isTy, ev_list, ev_listK, ev_tuple, ev_tupK, ev_getST, ev_getSR, ev_getSL, ev_all, ev_allK, ev_eqXI, ev_eqXS, ev_neXI, ev_neXS, ev_neXB, ev_eqXB, ev_eqXR, ev_neXR, ev_nil2, ev_eqK, ev_neK, ev_meth, ev_meth0, ev_mth1, ev_mth2, ev_mth3, ev_append, ev_m0, ev_m0K, ev_str, ev_for, ev_miR1, ev_rg1K, ev_miL, ev_liK, ev_miT, ev_tiK, ev_lc, ev_wipe0, ev_wipeS, ev_yes, ev_lenSet, ev_lenSetK, ev_listR, ev_lrK, ev_put2, ev_p2A, ev_p2K, ev_p2E, ev_put1, ev_pt1, ev_addXI, ev_addXB, ev_addXS, ev_addXT, ev_addXL, ev_subXI, ev_subXB, ev_mulXI, ev_mulXB, ev_mulXL, ev_negXI, ev_negXB, ev_strXI, ev_strXB, List.getElem?_cons_zero, List.getElem?_cons_succ, List.set_cons_zero, List.set_cons_succ, List.length_cons, List.length_nil, List.cons_append, List.nil_append, if_true, if_false, Bool.false_eq_true, Bool.true_eq_false, reduceIte, Bool.not_true, Bool.not_false, Bool.and_true, Bool.true_and, Bool.and_false, Bool.false_and, Bool.or_true, Bool.true_or, Bool.or_false, Bool.false_or, decide_eq_true_eq, Nat.reduceAdd, Nat.reduceLeDiff, Nat.zero_add, Int.reduceLT, Int.reduceLE, Int.reduceEq, Int.reduceNeg, Nat.reduceEqDiff, and_self, and_true, true_and, decide_true, decide_false, eq_self, ite_true, ite_false, Int.reduceSub, Int.reduceAdd, Int.cast_ofNat_Int, Int.natCast_add, Int.cast_ofNat_Int, Nat.reduceSub, Nat.add_assoc, String.reduceBEq, String.reduceEq, Bool.or_not_self, beq_self_eq_true, e1, wholeA, i0, hn, en, inW, List.append_nil]
          | adr _ => cases htk
          | ty _ => cases htk
          | _ =>
            refine ⟨[], ?_⟩
            unfold lb__law_is_history_1
            simp only [ev_bok, ev_bno, ev_bex, ev_tok, ev_tno, ev_tex, ev_nnx, ev_nrt, ev_nbk, ev_nct, ev_nex, ev_nno, ev_frt, ev_fnx, ev_fex, ev_xok, ev_lsome, ev_lnone, ev_seq, ev_if, ev_ret, ev_retN, ev_drop, ev_nop, ev_brk, ev_cont, ev_asgN, ev_asgT, ev_asgO, ev_mgTup, ev_mgN, ev_mgC, ev_mg0, ev_putL, ev_putO, ev_var, ev_vr, ev_c, ev_op, ev_un, ev_test, ev_tb, ev_notT, ev_andT, ev_orT, ev_ifE, ev_not, ev_nb, ev_and, ev_andK, ev_or, ev_orK, ev_chain, ev_chK, ev_nil, ev_cons, ev_tup, ev_lst, ev_new, ev_call, ev_cb, ev_size, ev_addI, ev_addS, ev_addT, ev_addL, ev_catO, ev_sub, ev_mul, ev_div, ev_mod, ev_p5, ev_p6, ev_p12, ev_p18, ev_p30, ev_neg, ev_ltI, ev_ltS, ev_leI, ev_leS, ev_gt, ev_ge, ev_eqI, ev_eqS, ev_neI, ev_neS, ev_neB, ev_eqB, ev_is, ev_isnot, ev_ixT, ev_ixS, ev_ixR, ev_ixL, ev_ixK, ev_getL, ev_getM, ev_gL, ev_gM, ev_at0, ev_at1, ev_at2, ev_at3, ev_at4, ev_lenS, ev_lenR, ev_lenT, ev_lenL, ev_lenO, ev_lenD, ev_abs, ev_min2, ev_max2, ev_intI, ev_intB, ev_set, ev_fc, ev_setset, ev_last, ev_appk, ev_app0, ev_setk, ev_set0, ev_assoc, ev_lapp, ev_lappA, ev_sl, ev_nopart, ev_part, ev_ptK, ev_slT, ev_slS, ev_slR, ev_slK, ev_tyN, ev_tyB, ev_tyI, ev_tyS, ev_tyT, ev_tyL, ev_tyR, ev_tyRL, ev_isi, ev_isi1, ev_isi2, ev_isi3, ev_isi4, ev_isi5, ev_isiT, ev_isi2K, ev_isTy, ev_list, ev_listK, ev_tuple, ev_tupK, ev_getST, ev_getSR, ev_getSL, ev_all, ev_allK, ev_eqXI, ev_eqXS, ev_neXI, ev_neXS, ev_neXB, ev_eqXB, ev_eqXR, ev_neXR, ev_nil2, ev_eqK, ev_neK, ev_meth, ev_meth0, ev_mth1, ev_mth2, ev_mth3, ev_append, ev_m0, ev_m0K, ev_str, ev_for, ev_miR1, ev_rg1K, ev_miL, ev_liK, ev_miT, ev_tiK, ev_lc, ev_wipe0, ev_wipeS, ev_yes, ev_lenSet, ev_lenSetK, ev_listR, ev_lrK, ev_put2, ev_p2A, ev_p2K, ev_p2E, ev_put1, ev_pt1, ev_addXI, ev_addXB, ev_addXS, ev_addXT, ev_addXL, ev_subXI, ev_subXB, ev_mulXI, ev_mulXB, ev_mulXL, ev_negXI, ev_negXB, ev_strXI, ev_strXB, List.getElem?_cons_zero, List.getElem?_cons_succ, List.set_cons_zero, List.set_cons_succ, List.length_cons, List.length_nil, List.cons_append, List.nil_append, if_true, if_false, Bool.false_eq_true, Bool.true_eq_false, reduceIte, Bool.not_true, Bool.not_false, Bool.and_true, Bool.true_and, Bool.and_false, Bool.false_and, Bool.or_true, Bool.true_or, Bool.or_false, Bool.false_or, decide_eq_true_eq, Nat.reduceAdd, Nat.reduceLeDiff, Nat.zero_add, Int.reduceLT, Int.reduceLE, Int.reduceEq, Int.reduceNeg, Nat.reduceEqDiff, and_self, and_true, true_and, decide_true, decide_false, eq_self, ite_true, ite_false, Int.reduceSub, Int.reduceAdd, Int.cast_ofNat_Int, Int.natCast_add, Int.cast_ofNat_Int, Nat.reduceSub, Nat.add_assoc, String.reduceBEq, String.reduceEq, Bool.or_not_self, beq_self_eq_true, e1, wholeA, i0, hn, inW, List.append_nil]
      | _ =>
        refine ⟨[], ?_⟩
        unfold lb__law_is_history_1
        simp only [ev_bok, ev_bno, ev_bex, ev_tok, ev_tno, ev_tex, ev_nnx, ev_nrt, ev_nbk, ev_nct, ev_nex, ev_nno, ev_frt, ev_fnx, ev_fex, ev_xok, ev_lsome, ev_lnone, ev_seq, ev_if, ev_ret, ev_retN, ev_drop, ev_nop, ev_brk, ev_cont, ev_asgN, ev_asgT, ev_asgO, ev_mgTup, ev_mgN, ev_mgC, ev_mg0, ev_putL, ev_putO, ev_var, ev_vr, ev_c, ev_op, ev_un, ev_test, ev_tb, ev_notT, ev_andT, ev_orT, ev_ifE, ev_not, ev_nb, ev_and, ev_andK, ev_or, ev_orK, ev_chain, ev_chK, ev_nil, ev_cons, ev_tup, ev_lst, ev_new, ev_call, ev_cb, ev_size, ev_addI, ev_addS, ev_addT, ev_addL, ev_catO, ev_sub, ev_mul, ev_div, ev_mod, ev_p5, ev_p6, ev_p12, ev_p18, ev_p30, ev_neg, ev_ltI, ev_ltS, ev_leI, ev_leS, ev_gt, ev_ge, ev_eqI, ev_eqS, ev_neI, ev_neS, ev_neB, ev_eqB, ev_is, ev_isnot, ev_ixT, ev_ixS, ev_ixR, ev_ixL, ev_ixK, ev_getL, ev_getM, ev_gL, ev_gM, ev_at0, ev_at1, ev_at2, ev_at3, ev_at4, ev_lenS, ev_lenR, ev_lenT, ev_lenL, ev_lenO, ev_lenD, ev_abs, ev_min2, ev_max2, ev_intI, ev_intB, ev_set, ev_fc, ev_setset, ev_last, ev_appk, ev_app0, ev_setk, ev_set0, ev_assoc, ev_lapp, ev_lappA, ev_sl, ev_nopart, ev_part, ev_ptK, ev_slT, ev_slS, ev_slR, ev_slK, ev_tyN, ev_tyB, ev_tyI, ev_tyS, ev_tyT, ev_tyL, ev_tyR, ev_tyRL, ev_isi, ev_isi1, ev_isi2, ev_isi3, ev_isi4, ev_isi5, ev_isiT, ev_isi2K, ev_isTy, ev_list, ev_listK, ev_tuple, ev_tupK, ev_getST, ev_getSR, ev_getSL, ev_all, ev_allK, ev_eqXI, ev_eqXS, ev_neXI, ev_neXS, ev_neXB, ev_eqXB, ev_eqXR, ev_neXR, ev_nil2, ev_eqK, ev_neK, ev_meth, ev_meth0, ev_mth1, ev_mth2, ev_mth3, ev_append, ev_m0, ev_m0K, ev_str, ev_for, ev_miR1, ev_rg1K, ev_miL, ev_liK, ev_miT, ev_tiK, ev_lc, ev_wipe0, ev_wipeS, ev_yes, ev_lenSet, ev_lenSetK, ev_listR, ev_lrK, ev_put2, ev_p2A, ev_p2K, ev_p2E, ev_put1, ev_pt1, ev_addXI, ev_addXB, ev_addXS, ev_addXT, ev_addXL, ev_subXI, ev_subXB, ev_mulXI, ev_mulXB, ev_mulXL, ev_negXI, ev_negXB, ev_strXI, ev_strXB, List.getElem?_cons_zero, List.getElem?_cons_succ, List.set_cons_zero, List.set_cons_succ, List.length_cons, List.length_nil, List.cons_append, List.nil_append, if_true, if_false, Bool.false_eq_true, Bool.true_eq_false, reduceIte, Bool.not_true, Bool.not_false, Bool.and_true, Bool.true_and, Bool.and_false, Bool.false_and, Bool.or_true, Bool.true_or, Bool.or_false, Bool.false_or, decide_eq_true_eq, Nat.reduceAdd, Nat.reduceLeDiff, Nat.zero_add, Int.reduceLT, Int.reduceLE, Int.reduceEq, Int.reduceNeg, Nat.reduceEqDiff, and_self, and_true, true_and, decide_true, decide_false, eq_self, ite_true, ite_false, Int.reduceSub, Int.reduceAdd, Int.cast_ofNat_Int, Int.natCast_add, Int.cast_ofNat_Int, Nat.reduceSub, Nat.add_assoc, String.reduceBEq, String.reduceEq, Bool.or_not_self, beq_self_eq_true, e1, wholeA, numA, List.append_nil]
  · refine ⟨[], ?_⟩
    unfold lb__law_is_history_1
    cases x with
    | tup xs =>
      have hl : xs.length ≠ 5 := fun z => by
        obtain ⟨t, k, v, b, e, rfl⟩ := five z
        exact h5 ⟨t, k, v, b, e, rfl⟩
      have hl2 : ¬ ((xs.length : Nat) : Int) = 5 := by omega
      simp only [ev_bok, ev_bno, ev_bex, ev_tok, ev_tno, ev_tex, ev_nnx, ev_nrt, ev_nbk, ev_nct, ev_nex, ev_nno, ev_frt, ev_fnx, ev_fex, ev_xok, ev_lsome, ev_lnone, ev_seq, ev_if, ev_ret, ev_retN, ev_drop, ev_nop, ev_brk, ev_cont, ev_asgN, ev_asgT, ev_asgO, ev_mgTup, ev_mgN, ev_mgC, ev_mg0, ev_putL, ev_putO, ev_var, ev_vr, ev_c, ev_op, ev_un, ev_test, ev_tb, ev_notT, ev_andT, ev_orT, ev_ifE, ev_not, ev_nb, ev_and, ev_andK, ev_or, ev_orK, ev_chain, ev_chK, ev_nil, ev_cons, ev_tup, ev_lst, ev_new, ev_call, ev_cb, ev_size, ev_addI, ev_addS, ev_addT, ev_addL, ev_catO, ev_sub, ev_mul, ev_div, ev_mod, ev_p5, ev_p6, ev_p12, ev_p18, ev_p30, ev_neg, ev_ltI, ev_ltS, ev_leI, ev_leS, ev_gt, ev_ge, ev_eqI, ev_eqS, ev_neI, ev_neS, ev_neB, ev_eqB, ev_is, ev_isnot, ev_ixT, ev_ixS, ev_ixR, ev_ixL, ev_ixK, ev_getL, ev_getM, ev_gL, ev_gM, ev_at0, ev_at1, ev_at2, ev_at3, ev_at4, ev_lenS, ev_lenR, ev_lenT, ev_lenL, ev_lenO, ev_lenD, ev_abs, ev_min2, ev_max2, ev_intI, ev_intB, ev_set, ev_fc, ev_setset, ev_last, ev_appk, ev_app0, ev_setk, ev_set0, ev_assoc, ev_lapp, ev_lappA, ev_sl, ev_nopart, ev_part, ev_ptK, ev_slT, ev_slS, ev_slR, ev_slK, ev_tyN, ev_tyB, ev_tyI, ev_tyS, ev_tyT, ev_tyL, ev_tyR, ev_tyRL, ev_isi, ev_isi1, ev_isi2, ev_isi3, ev_isi4, ev_isi5, ev_isiT, ev_isi2K, ev_isTy, ev_list, ev_listK, ev_tuple, ev_tupK, ev_getST, ev_getSR, ev_getSL, ev_all, ev_allK, ev_eqXI, ev_eqXS, ev_neXI, ev_neXS, ev_neXB, ev_eqXB, ev_eqXR, ev_neXR, ev_nil2, ev_eqK, ev_neK, ev_meth, ev_meth0, ev_mth1, ev_mth2, ev_mth3, ev_append, ev_m0, ev_m0K, ev_str, ev_for, ev_miR1, ev_rg1K, ev_miL, ev_liK, ev_miT, ev_tiK, ev_lc, ev_wipe0, ev_wipeS, ev_yes, ev_lenSet, ev_lenSetK, ev_listR, ev_lrK, ev_put2, ev_p2A, ev_p2K, ev_p2E, ev_put1, ev_pt1, ev_addXI, ev_addXB, ev_addXS, ev_addXT, ev_addXL, ev_subXI, ev_subXB, ev_mulXI, ev_mulXB, ev_mulXL, ev_negXI, ev_negXB, ev_strXI, ev_strXB, List.getElem?_cons_zero, List.getElem?_cons_succ, List.set_cons_zero, List.set_cons_succ, List.length_cons, List.length_nil, List.cons_append, List.nil_append, if_true, if_false, Bool.false_eq_true, Bool.true_eq_false, reduceIte, Bool.not_true, Bool.not_false, Bool.and_true, Bool.true_and, Bool.and_false, Bool.false_and, Bool.or_true, Bool.true_or, Bool.or_false, Bool.false_or, decide_eq_true_eq, Nat.reduceAdd, Nat.reduceLeDiff, Nat.zero_add, Int.reduceLT, Int.reduceLE, Int.reduceEq, Int.reduceNeg, Nat.reduceEqDiff, and_self, and_true, true_and, decide_true, decide_false, eq_self, ite_true, ite_false, Int.reduceSub, Int.reduceAdd, Int.cast_ofNat_Int, Int.natCast_add, Int.cast_ofNat_Int, Nat.reduceSub, Nat.add_assoc, String.reduceBEq, String.reduceEq, Bool.or_not_self, beq_self_eq_true, hl2, rowH_len hl, List.append_nil]
    | ref n =>
      obtain ⟨xs, en⟩ := ty_ref hty
      simp only [ev_bok, ev_bno, ev_bex, ev_tok, ev_tno, ev_tex, ev_nnx, ev_nrt, ev_nbk, ev_nct, ev_nex, ev_nno, ev_frt, ev_fnx, ev_fex, ev_xok, ev_lsome, ev_lnone, ev_seq, ev_if, ev_ret, ev_retN, ev_drop, ev_nop, ev_brk, ev_cont, ev_asgN, ev_asgT, ev_asgO, ev_mgTup, ev_mgN, ev_mgC, ev_mg0, ev_putL, ev_putO, ev_var, ev_vr, ev_c, ev_op, ev_un, ev_test, ev_tb, ev_notT, ev_andT, ev_orT, ev_ifE, ev_not, ev_nb, ev_and, ev_andK, ev_or, ev_orK, ev_chain, ev_chK, ev_nil, ev_cons, ev_tup, ev_lst, ev_new, ev_call, ev_cb, ev_size, ev_addI, ev_addS, ev_addT, ev_addL, ev_catO, ev_sub, ev_mul, ev_div, ev_mod, ev_p5, ev_p6, ev_p12, ev_p18, ev_p30, ev_neg, ev_ltI, ev_ltS, ev_leI, ev_leS, ev_gt, ev_ge, ev_eqI, ev_eqS, ev_neI, ev_neS, ev_neB, ev_eqB, ev_is, ev_isnot, ev_ixT, ev_ixS, ev_ixR, ev_ixL, ev_ixK, ev_getL, ev_getM, ev_gL, ev_gM, ev_at0, ev_at1, ev_at2, ev_at3, ev_at4, ev_lenS, ev_lenR, ev_lenT, ev_lenL, ev_lenO, ev_lenD, ev_abs, ev_min2, ev_max2, ev_intI, ev_intB, ev_set, ev_fc, ev_setset, ev_last, ev_appk, ev_app0, ev_setk, ev_set0, ev_assoc, ev_lapp, ev_lappA, ev_sl, ev_nopart, ev_part, ev_ptK, ev_slT, ev_slS, ev_slR, ev_slK, ev_tyN, ev_tyB, ev_tyI, ev_tyS, ev_tyT, ev_tyL, ev_tyR, ev_tyRL, ev_isi, ev_isi1, ev_isi2, ev_isi3, ev_isi4, ev_isi5, ev_isiT, ev_isi2K, ev_isTy, ev_list, ev_listK, ev_tuple, ev_tupK, ev_getST, ev_getSR, ev_getSL, ev_all, ev_allK, ev_eqXI, ev_eqXS, ev_neXI, ev_neXS, ev_neXB, ev_eqXB, ev_eqXR, ev_neXR, ev_nil2, ev_eqK, ev_neK, ev_meth, ev_meth0, ev_mth1, ev_mth2, ev_mth3, ev_append, ev_m0, ev_m0K, ev_str, ev_for, ev_miR1, ev_rg1K, ev_miL, ev_liK, ev_miT, ev_tiK, ev_lc, ev_wipe0, ev_wipeS, ev_yes, ev_lenSet, ev_lenSetK, ev_listR, ev_lrK, ev_put2, ev_p2A, ev_p2K, ev_p2E, ev_put1, ev_pt1, ev_addXI, ev_addXB, ev_addXS, ev_addXT, ev_addXL, ev_subXI, ev_subXB, ev_mulXI, ev_mulXB, ev_mulXL, ev_negXI, ev_negXB, ev_strXI, ev_strXB, List.getElem?_cons_zero, List.getElem?_cons_succ, List.set_cons_zero, List.set_cons_succ, List.length_cons, List.length_nil, List.cons_append, List.nil_append, if_true, if_false, Bool.false_eq_true, Bool.true_eq_false, reduceIte, Bool.not_true, Bool.not_false, Bool.and_true, Bool.true_and, Bool.and_false, Bool.false_and, Bool.or_true, Bool.true_or, Bool.or_false, Bool.false_or, decide_eq_true_eq, Nat.reduceAdd, Nat.reduceLeDiff, Nat.zero_add, Int.reduceLT, Int.reduceLE, Int.reduceEq, Int.reduceNeg, Nat.reduceEqDiff, and_self, and_true, true_and, decide_true, decide_false, eq_self, ite_true, ite_false, Int.reduceSub, Int.reduceAdd, Int.cast_ofNat_Int, Int.natCast_add, Int.cast_ofNat_Int, Nat.reduceSub, Nat.add_assoc, String.reduceBEq, String.reduceEq, Bool.or_not_self, beq_self_eq_true, en, rowH, List.append_nil]
    | adr _ => cases hty
    | ty _ => cases hty
    | _ => simp only [ev_bok, ev_bno, ev_bex, ev_tok, ev_tno, ev_tex, ev_nnx, ev_nrt, ev_nbk, ev_nct, ev_nex, ev_nno, ev_frt, ev_fnx, ev_fex, ev_xok, ev_lsome, ev_lnone, ev_seq, ev_if, ev_ret, ev_retN, ev_drop, ev_nop, ev_brk, ev_cont, ev_asgN, ev_asgT, ev_asgO, ev_mgTup, ev_mgN, ev_mgC, ev_mg0, ev_putL, ev_putO, ev_var, ev_vr, ev_c, ev_op, ev_un, ev_test, ev_tb, ev_notT, ev_andT, ev_orT, ev_ifE, ev_not, ev_nb, ev_and, ev_andK, ev_or, ev_orK, ev_chain, ev_chK, ev_nil, ev_cons, ev_tup, ev_lst, ev_new, ev_call, ev_cb, ev_size, ev_addI, ev_addS, ev_addT, ev_addL, ev_catO, ev_sub, ev_mul, ev_div, ev_mod, ev_p5, ev_p6, ev_p12, ev_p18, ev_p30, ev_neg, ev_ltI, ev_ltS, ev_leI, ev_leS, ev_gt, ev_ge, ev_eqI, ev_eqS, ev_neI, ev_neS, ev_neB, ev_eqB, ev_is, ev_isnot, ev_ixT, ev_ixS, ev_ixR, ev_ixL, ev_ixK, ev_getL, ev_getM, ev_gL, ev_gM, ev_at0, ev_at1, ev_at2, ev_at3, ev_at4, ev_lenS, ev_lenR, ev_lenT, ev_lenL, ev_lenO, ev_lenD, ev_abs, ev_min2, ev_max2, ev_intI, ev_intB, ev_set, ev_fc, ev_setset, ev_last, ev_appk, ev_app0, ev_setk, ev_set0, ev_assoc, ev_lapp, ev_lappA, ev_sl, ev_nopart, ev_part, ev_ptK, ev_slT, ev_slS, ev_slR, ev_slK, ev_tyN, ev_tyB, ev_tyI, ev_tyS, ev_tyT, ev_tyL, ev_tyR, ev_tyRL, ev_isi, ev_isi1, ev_isi2, ev_isi3, ev_isi4, ev_isi5, ev_isiT, ev_isi2K, ev_isTy, ev_list, ev_listK, ev_tuple, ev_tupK, ev_getST, ev_getSR, ev_getSL, ev_all, ev_allK, ev_eqXI, ev_eqXS, ev_neXI, ev_neXS, ev_neXB, ev_eqXB, ev_eqXR, ev_neXR, ev_nil2, ev_eqK, ev_neK, ev_meth, ev_meth0, ev_mth1, ev_mth2, ev_mth3, ev_append, ev_m0, ev_m0K, ev_str, ev_for, ev_miR1, ev_rg1K, ev_miL, ev_liK, ev_miT, ev_tiK, ev_lc, ev_wipe0, ev_wipeS, ev_yes, ev_lenSet, ev_lenSetK, ev_listR, ev_lrK, ev_put2, ev_p2A, ev_p2K, ev_p2E, ev_put1, ev_pt1, ev_addXI, ev_addXB, ev_addXS, ev_addXT, ev_addXL, ev_subXI, ev_subXB, ev_mulXI, ev_mulXB, ev_mulXL, ev_negXI, ev_negXB, ev_strXI, ev_strXB, List.getElem?_cons_zero, List.getElem?_cons_succ, List.set_cons_zero, List.set_cons_succ, List.length_cons, List.length_nil, List.cons_append, List.nil_append, if_true, if_false, Bool.false_eq_true, Bool.true_eq_false, reduceIte, Bool.not_true, Bool.not_false, Bool.and_true, Bool.true_and, Bool.and_false, Bool.false_and, Bool.or_true, Bool.true_or, Bool.or_false, Bool.false_or, decide_eq_true_eq, Nat.reduceAdd, Nat.reduceLeDiff, Nat.zero_add, Int.reduceLT, Int.reduceLE, Int.reduceEq, Int.reduceNeg, Nat.reduceEqDiff, and_self, and_true, true_and, decide_true, decide_false, eq_self, ite_true, ite_false, Int.reduceSub, Int.reduceAdd, Int.cast_ofNat_Int, Int.natCast_add, Int.cast_ofNat_Int, Nat.reduceSub, Nat.add_assoc, String.reduceBEq, String.reduceEq, Bool.or_not_self, beq_self_eq_true, rowH, List.append_nil]
theorem notIn_ints {st : Sto} {n : Nat} {ns : List Int} {v : Int} (e : st[n]? = some (.lst (ns.map A.int))) : oNotInX (.int v) (.ref n) st = .ok (.bl (!decide (v ∈ ns))) st := by
  have h := in_ints (v := v) e
  have h : oInF (.int v) (.ref n) st = .ok (.bl (decide (v ∈ ns))) st := h
  show oNotInF (.int v) (.ref n) st = _
  unfold oInF at h
  unfold oNotInF
  cases hi : inA st (.int v) (.ref n) with
  | none => rw [hi] at h; cases h
  | some c =>
    rw [hi] at h
    have h : Res.ok (A.bl c) st = .ok (.bl (decide (v ∈ ns))) st := h
    cases h
    rfl
theorem lhist_ev {st : Sto} {E : Nat → Prop} {s d : Nat} {a : A} (hd : d ≤ 30) (hs : s ≤ 100) (h : gd st E s d a) : ∃ l, m__law_is_history [a] st = .ok (.bl (histA st a)) (st ++ l) := by
  rw [st__law_is_history]
  have other : ∀ t, tyA st a = some t → isTy t "list" = false → histA st a = false → ∃ l, fin (b__law_is_history [some a, none, none, none] st) = .ok (.bl (histA st a)) (st ++ l) := fun t ht hl hh => by
    refine ⟨[], ?_⟩
    unfold b__law_is_history
    simp only [ev_bok, ev_bno, ev_bex, ev_tok, ev_tno, ev_tex, ev_nnx, ev_nrt, ev_nbk, ev_nct, ev_nex, ev_nno, ev_frt, ev_fnx, ev_fex, ev_xok, ev_lsome, ev_lnone, ev_seq, ev_if, ev_ret, ev_retN, ev_drop, ev_nop, ev_brk, ev_cont, ev_asgN, ev_asgT, ev_asgO, ev_mgTup, ev_mgN, ev_mgC, ev_mg0, ev_putL, ev_putO, ev_var, ev_vr, ev_c, ev_op, ev_un, ev_test, ev_tb, ev_notT, ev_andT, ev_orT, ev_ifE, ev_not, ev_nb, ev_and, ev_andK, ev_or, ev_orK, ev_chain, ev_chK, ev_nil, ev_cons, ev_tup, ev_lst, ev_new, ev_call, ev_cb, ev_size, ev_addI, ev_addS, ev_addT, ev_addL, ev_catO, ev_sub, ev_mul, ev_div, ev_mod, ev_p5, ev_p6, ev_p12, ev_p18, ev_p30, ev_neg, ev_ltI, ev_ltS, ev_leI, ev_leS, ev_gt, ev_ge, ev_eqI, ev_eqS, ev_neI, ev_neS, ev_neB, ev_eqB, ev_is, ev_isnot, ev_ixT, ev_ixS, ev_ixR, ev_ixL, ev_ixK, ev_getL, ev_getM, ev_gL, ev_gM, ev_at0, ev_at1, ev_at2, ev_at3, ev_at4, ev_lenS, ev_lenR, ev_lenT, ev_lenL, ev_lenO, ev_lenD, ev_abs, ev_min2, ev_max2, ev_intI, ev_intB, ev_set, ev_fc, ev_setset, ev_last, ev_appk, ev_app0, ev_setk, ev_set0, ev_assoc, ev_lapp, ev_lappA, ev_sl, ev_nopart, ev_part, ev_ptK, ev_slT, ev_slS, ev_slR, ev_slK, ev_tyN, ev_tyB, ev_tyI, ev_tyS, ev_tyT, ev_tyL, ev_tyR, ev_tyRL, ev_isi, ev_isi1, ev_isi2, ev_isi3, ev_isi4, ev_isi5, ev_isiT, ev_isi2K, ev_list, ev_listK, ev_tuple, ev_tupK, ev_getST, ev_getSR, ev_getSL, ev_all, ev_allK, ev_eqXI, ev_eqXS, ev_neXI, ev_neXS, ev_neXB, ev_eqXB, ev_eqXR, ev_neXR, ev_nil2, ev_eqK, ev_neK, ev_meth, ev_meth0, ev_mth1, ev_mth2, ev_mth3, ev_append, ev_m0, ev_m0K, ev_str, ev_for, ev_miR1, ev_rg1K, ev_miL, ev_liK, ev_miT, ev_tiK, ev_lc, ev_wipe0, ev_wipeS, ev_yes, ev_lenSet, ev_lenSetK, ev_listR, ev_lrK, ev_put2, ev_p2A, ev_p2K, ev_p2E, ev_put1, ev_pt1, ev_addXI, ev_addXB, ev_addXS, ev_addXT, ev_addXL, ev_subXI, ev_subXB, ev_mulXI, ev_mulXB, ev_mulXL, ev_negXI, ev_negXB, ev_strXI, ev_strXB, List.getElem?_cons_zero, List.getElem?_cons_succ, List.set_cons_zero, List.set_cons_succ, List.length_cons, List.length_nil, List.cons_append, List.nil_append, if_true, if_false, Bool.false_eq_true, Bool.true_eq_false, reduceIte, Bool.not_true, Bool.not_false, Bool.and_true, Bool.true_and, Bool.and_false, Bool.false_and, Bool.or_true, Bool.true_or, Bool.or_false, Bool.false_or, decide_eq_true_eq, Nat.reduceAdd, Nat.reduceLeDiff, Nat.zero_add, Int.reduceLT, Int.reduceLE, Int.reduceEq, Int.reduceNeg, Nat.reduceEqDiff, and_self, and_true, true_and, decide_true, decide_false, eq_self, ite_true, ite_false, Int.reduceSub, Int.reduceAdd, Int.cast_ofNat_Int, Int.natCast_add, Int.cast_ofNat_Int, Nat.reduceSub, Nat.add_assoc, String.reduceBEq, String.reduceEq, Bool.or_not_self, beq_self_eq_true, ht, hl, hh, List.append_nil]
  cases d with
  | zero =>
    cases a with
    | non => exact other _ rfl (by decide) rfl
    | bl _ => exact other _ rfl (by decide) rfl
    | int _ => exact other _ rfl (by decide) rfl
    | str _ => exact other _ rfl (by decide) rfl
    | _ => exact h.elim
  | succ d =>
    rcases id h with h' | ⟨xs, rfl, h1, h2⟩ | ⟨n, xs, rfl, h0, h1, h2, h3⟩
    · cases a with
      | non => exact other _ rfl (by decide) rfl
      | bl _ => exact other _ rfl (by decide) rfl
      | int _ => exact other _ rfl (by decide) rfl
      | str _ => exact other _ rfl (by decide) rfl
      | _ => exact h'.elim
    · exact other _ rfl (by decide) rfl
    · have hA : histA st (.ref n) = histL xs := by simp only [histA, h1]
      rw [hA]
      have hn : n < st.length := (List.getElem?_eq_some_iff.mp h1).1
      have hg : ∀ l, (st ++ l)[n]? = some (.lst xs) := fun l => by rw [List.getElem?_append_left hn]; exact h1
      have gapp : ∀ (l : Sto) {k : Nat} {a : A}, gd st E s k a → gd (st ++ l) E s k a := fun l {k} => by
        induction k with
        | zero => exact fun h => h
        | succ k ihk =>
          intro a h
          rcases h with h | ⟨zs, e, h1, h2⟩ | ⟨n, zs, e, h0, h1, h2, h3⟩
          · exact .inl h
          · exact .inr (.inl ⟨zs, e, h1, fun x hx => ihk (h2 x hx)⟩)
          · exact .inr (.inr ⟨n, zs, e, h0, by rw [List.getElem?_append_left (List.getElem?_eq_some_iff.mp h1).1]; exact h1, h2, fun x hx => ihk (h3 x hx)⟩)
      by_cases h60 : xs.length ≤ 60
      · have c60 : ¬ (60 : Int) < (xs.length : Nat) := by omega
        obtain ⟨e2, l', ⟨y1, y2, y3, he2⟩, hF⟩ := forL_ret (ok := okL (.ref n) xs) (g := mgName 1) (b := lb__law_is_history_1) (st := st) (xs := xs) rowH (fun env => ∃ y1 y2 y3, env = [some (.ref n), y1, y2, y3]) (fun l => by show getL _ _ = _; simp only [ev_getL, hg, ev_gL]) (fun x hx env l hSh => by
          obtain ⟨y1, y2, y3, rfl⟩ := hSh
          obtain ⟨l2, e⟩ := lrow_ev (a := .ref n) (y2 := y2) (y3 := y3) (gapp l (h3 x hx))
          refine ⟨_, l ++ l2, [some (.ref n), some x, y2, y3], rfl, ⟨_, _, _, rfl⟩, ?_⟩
          rw [← List.append_assoc]
          exact e) [some (.ref n), none, none, none] [] ⟨_, _, _, rfl⟩
        rw [List.append_nil] at hF
        subst he2
        unfold b__law_is_history
        cases hall : xs.all rowH with
        | false =>
          refine ⟨l', ?_⟩
          rw [hall] at hF
          simp only [ev_bok, ev_bno, ev_bex, ev_tok, ev_tno, ev_tex, ev_nnx, ev_nrt, ev_nbk, ev_nct, ev_nex, ev_nno, ev_frt, ev_fnx, ev_fex, ev_xok, ev_lsome, ev_lnone, ev_seq, ev_if, ev_ret, ev_retN, ev_drop, ev_nop, ev_brk, ev_cont, ev_asgN, ev_asgT, ev_asgO, ev_mgTup, ev_mgN, ev_mgC, ev_mg0, ev_putL, ev_putO, ev_var, ev_vr, ev_c, ev_op, ev_un, ev_test, ev_tb, ev_notT, ev_andT, ev_orT, ev_ifE, ev_not, ev_nb, ev_and, ev_andK, ev_or, ev_orK, ev_chain, ev_chK, ev_nil, ev_cons, ev_tup, ev_lst, ev_new, ev_call, ev_cb, ev_size, ev_addI, ev_addS, ev_addT, ev_addL, ev_catO, ev_sub, ev_mul, ev_div, ev_mod, ev_p5, ev_p6, ev_p12, ev_p18, ev_p30, ev_neg, ev_ltI, ev_ltS, ev_leI, ev_leS, ev_gt, ev_ge, ev_eqI, ev_eqS, ev_neI, ev_neS, ev_neB, ev_eqB, ev_is, ev_isnot, ev_ixT, ev_ixS, ev_ixR, ev_ixL, ev_ixK, ev_getL, ev_getM, ev_gL, ev_gM, ev_at0, ev_at1, ev_at2, ev_at3, ev_at4, ev_lenS, ev_lenR, ev_lenT, ev_lenL, ev_lenO, ev_lenD, ev_abs, ev_min2, ev_max2, ev_intI, ev_intB, ev_set, ev_fc, ev_setset, ev_last, ev_appk, ev_app0, ev_setk, ev_set0, ev_assoc, ev_lapp, ev_lappA, ev_sl, ev_nopart, ev_part, ev_ptK, ev_slT, ev_slS, ev_slR, ev_slK, ev_tyN, ev_tyB, ev_tyI, ev_tyS, ev_tyT, ev_tyL, ev_tyR, ev_tyRL, ev_isi, ev_isi1, ev_isi2, ev_isi3, ev_isi4, ev_isi5, ev_isiT, ev_isi2K, ev_isTy, ev_list, ev_listK, ev_tuple, ev_tupK, ev_getST, ev_getSR, ev_getSL, ev_all, ev_allK, ev_eqXI, ev_eqXS, ev_neXI, ev_neXS, ev_neXB, ev_eqXB, ev_eqXR, ev_neXR, ev_nil2, ev_eqK, ev_neK, ev_meth, ev_meth0, ev_mth1, ev_mth2, ev_mth3, ev_append, ev_m0, ev_m0K, ev_str, ev_for, ev_miR1, ev_rg1K, ev_miL, ev_liK, ev_miT, ev_tiK, ev_lc, ev_wipe0, ev_wipeS, ev_yes, ev_lenSet, ev_lenSetK, ev_listR, ev_lrK, ev_put2, ev_p2A, ev_p2K, ev_p2E, ev_put1, ev_pt1, ev_addXI, ev_addXB, ev_addXS, ev_addXT, ev_addXL, ev_subXI, ev_subXB, ev_mulXI, ev_mulXB, ev_mulXL, ev_negXI, ev_negXB, ev_strXI, ev_strXB, List.getElem?_cons_zero, List.getElem?_cons_succ, List.set_cons_zero, List.set_cons_succ, List.length_cons, List.length_nil, List.cons_append, List.nil_append, if_true, if_false, Bool.false_eq_true, Bool.true_eq_false, reduceIte, Bool.not_true, Bool.not_false, Bool.and_true, Bool.true_and, Bool.and_false, Bool.false_and, Bool.or_true, Bool.true_or, Bool.or_false, Bool.false_or, decide_eq_true_eq, Nat.reduceAdd, Nat.reduceLeDiff, Nat.zero_add, Int.reduceLT, Int.reduceLE, Int.reduceEq, Int.reduceNeg, Nat.reduceEqDiff, and_self, and_true, true_and, decide_true, decide_false, eq_self, ite_true, ite_false, Int.reduceSub, Int.reduceAdd, Int.cast_ofNat_Int, Int.natCast_add, Int.cast_ofNat_Int, Nat.reduceSub, Nat.add_assoc, String.reduceBEq, String.reduceEq, Bool.or_not_self, beq_self_eq_true, h1, c60, hF]
          unfold histL
          simp only [hall, Bool.false_and, Bool.and_false]
        | true =>
          rw [hall] at hF
          have rows := fun x hx => rowH_is (List.all_eq_true.mp hall x hx)
          have hh : histL xs = (decide ((ddup (wOfL xs)).length = (wOfL xs).length) && (decide ((ddup (xs.map tOf)).length = xs.length) && xs.all (lastH xs))) := by
            unfold histL
            rw [decide_eq_true h60, hall]
            rfl
          rw [hh]
          obtain ⟨S, hS⟩ : ∃ S, S = st ++ l' := ⟨_, rfl⟩
          rw [← hS] at hF
          have hgS : ∀ l, (S ++ l)[n]? = some (.lst xs) := fun l => by rw [hS, List.append_assoc]; exact hg _
          have hS0 : S[n]? = some (.lst xs) := by rw [hS]; exact hg _
          have okl : ∀ l, okL (.ref n) xs (S ++ l) := fun l => by show getL _ _ = _; simp only [ev_getL, hgS, ev_gL]
          have c2 : lcL S.length (okL (.ref n) xs) (mgName 1) (mTest (mOp oEqX (mOp oIxD (mVar 1) (mC (.int 1))) (mC (.str "write")))) (mOp oIxD (mVar 1) (mC (.int 2))) [some (.ref n), none, y2, y3] xs (S ++ [.lst []]) = .ok (.ref S.length) (S ++ [.lst ((wOfL xs).map A.int)]) := by
            have z := lc_pure (n := S.length) (s := S) (acc := []) (xs := xs) (ok := okL (.ref n) xs) (g := mgName 1) (tt := mTest (mOp oEqX (mOp oIxD (mVar 1) (mC (.int 1))) (mC (.str "write")))) (te := mOp oIxD (mVar 1) (mC (.int 2))) (env := [some (.ref n), none, y2, y3]) isW (fun x => .int (vOf x)) rfl (fun acc => okl _) (fun x hx acc => by
              obtain ⟨t, v, b, e, k, rfl, _⟩ := rows x hx
              refine ⟨_, rfl, ?_, fun _ => ?_⟩
              · simp only [ev_bok, ev_bno, ev_bex, ev_tok, ev_tno, ev_tex, ev_nnx, ev_nrt, ev_nbk, ev_nct, ev_nex, ev_nno, ev_frt, ev_fnx, ev_fex, ev_xok, ev_lsome, ev_lnone, ev_seq, ev_if, ev_ret, ev_retN, ev_drop, ev_nop, ev_brk, ev_cont, ev_asgN, ev_asgT, ev_asgO, ev_mgTup, ev_mgN, ev_mgC, ev_mg0, ev_putL, ev_putO, ev_var, ev_vr, ev_c, ev_op, ev_un, ev_test, ev_tb, ev_notT, ev_andT, ev_orT, ev_ifE, ev_not, ev_nb, ev_and, ev_andK, ev_or, ev_orK, ev_chain, ev_chK, ev_nil, ev_cons, ev_tup, ev_lst, ev_new, ev_call, ev_cb, ev_size, ev_addI, ev_addS, ev_addT, ev_addL, ev_catO, ev_sub, ev_mul, ev_div, ev_mod, ev_p5, ev_p6, ev_p12, ev_p18, ev_p30, ev_neg, ev_ltI, ev_ltS, ev_leI, ev_leS, ev_gt, ev_ge, ev_eqI, ev_eqS, ev_neI, ev_neS, ev_neB, ev_eqB, ev_is, ev_isnot, ev_ixT, ev_ixS, ev_ixR, ev_ixL, ev_ixK, ev_getL, ev_getM, ev_gL, ev_gM, ev_at0, ev_at1, ev_at2, ev_at3, ev_at4, ev_lenS, ev_lenR, ev_lenT, ev_lenL, ev_lenO, ev_lenD, ev_abs, ev_min2, ev_max2, ev_intI, ev_intB, ev_set, ev_fc, ev_setset, ev_last, ev_appk, ev_app0, ev_setk, ev_set0, ev_assoc, ev_lapp, ev_lappA, ev_sl, ev_nopart, ev_part, ev_ptK, ev_slT, ev_slS, ev_slR, ev_slK, ev_tyN, ev_tyB, ev_tyI, ev_tyS, ev_tyT, ev_tyL, ev_tyR, ev_tyRL, ev_isi, ev_isi1, ev_isi2, ev_isi3, ev_isi4, ev_isi5, ev_isiT, ev_isi2K, ev_isTy, ev_list, ev_listK, ev_tuple, ev_tupK, ev_getST, ev_getSR, ev_getSL, ev_all, ev_allK, ev_eqXI, ev_eqXS, ev_neXI, ev_neXS, ev_neXB, ev_eqXB, ev_eqXR, ev_neXR, ev_nil2, ev_eqK, ev_neK, ev_meth, ev_meth0, ev_mth1, ev_mth2, ev_mth3, ev_append, ev_m0, ev_m0K, ev_str, ev_for, ev_miR1, ev_rg1K, ev_miL, ev_liK, ev_miT, ev_tiK, ev_lc, ev_wipe0, ev_wipeS, ev_yes, ev_lenSet, ev_lenSetK, ev_listR, ev_lrK, ev_put2, ev_p2A, ev_p2K, ev_p2E, ev_put1, ev_pt1, ev_addXI, ev_addXB, ev_addXS, ev_addXT, ev_addXL, ev_subXI, ev_subXB, ev_mulXI, ev_mulXB, ev_mulXL, ev_negXI, ev_negXB, ev_strXI, ev_strXB, List.getElem?_cons_zero, List.getElem?_cons_succ, List.set_cons_zero, List.set_cons_succ, List.length_cons, List.length_nil, List.cons_append, List.nil_append, if_true, if_false, Bool.false_eq_true, Bool.true_eq_false, reduceIte, Bool.not_true, Bool.not_false, Bool.and_true, Bool.true_and, Bool.and_false, Bool.false_and, Bool.or_true, Bool.true_or, Bool.or_false, Bool.false_or, decide_eq_true_eq, Nat.reduceAdd, Nat.reduceLeDiff, Nat.zero_add, Int.reduceLT, Int.reduceLE, Int.reduceEq, Int.reduceNeg, Nat.reduceEqDiff, and_self, and_true, true_and, decide_true, decide_false, eq_self, ite_true, ite_false, Int.reduceSub, Int.reduceAdd, Int.cast_ofNat_Int, Int.natCast_add, Int.cast_ofNat_Int, Nat.reduceSub, Nat.add_assoc, String.reduceBEq, String.reduceEq, Bool.or_not_self, beq_self_eq_true, isW]
              · simp only [ev_bok, ev_bno, ev_bex, ev_tok, ev_tno, ev_tex, ev_nnx, ev_nrt, ev_nbk, ev_nct, ev_nex, ev_nno, ev_frt, ev_fnx, ev_fex, ev_xok, ev_lsome, ev_lnone, ev_seq, ev_if, ev_ret, ev_retN, ev_drop, ev_nop, ev_brk, ev_cont, ev_asgN, ev_asgT, ev_asgO, ev_mgTup, ev_mgN, ev_mgC, ev_mg0, ev_putL, ev_putO, ev_var, ev_vr, ev_c, ev_op, ev_un, ev_test, ev_tb, ev_notT, ev_andT, ev_orT, ev_ifE, ev_not, ev_nb, ev_and, ev_andK, ev_or, ev_orK, ev_chain, ev_chK, ev_nil, ev_cons, ev_tup, ev_lst, ev_new, ev_call, ev_cb, ev_size, ev_addI, ev_addS, ev_addT, ev_addL, ev_catO, ev_sub, ev_mul, ev_div, ev_mod, ev_p5, ev_p6, ev_p12, ev_p18, ev_p30, ev_neg, ev_ltI, ev_ltS, ev_leI, ev_leS, ev_gt, ev_ge, ev_eqI, ev_eqS, ev_neI, ev_neS, ev_neB, ev_eqB, ev_is, ev_isnot, ev_ixT, ev_ixS, ev_ixR, ev_ixL, ev_ixK, ev_getL, ev_getM, ev_gL, ev_gM, ev_at0, ev_at1, ev_at2, ev_at3, ev_at4, ev_lenS, ev_lenR, ev_lenT, ev_lenL, ev_lenO, ev_lenD, ev_abs, ev_min2, ev_max2, ev_intI, ev_intB, ev_set, ev_fc, ev_setset, ev_last, ev_appk, ev_app0, ev_setk, ev_set0, ev_assoc, ev_lapp, ev_lappA, ev_sl, ev_nopart, ev_part, ev_ptK, ev_slT, ev_slS, ev_slR, ev_slK, ev_tyN, ev_tyB, ev_tyI, ev_tyS, ev_tyT, ev_tyL, ev_tyR, ev_tyRL, ev_isi, ev_isi1, ev_isi2, ev_isi3, ev_isi4, ev_isi5, ev_isiT, ev_isi2K, ev_isTy, ev_list, ev_listK, ev_tuple, ev_tupK, ev_getST, ev_getSR, ev_getSL, ev_all, ev_allK, ev_eqXI, ev_eqXS, ev_neXI, ev_neXS, ev_neXB, ev_eqXB, ev_eqXR, ev_neXR, ev_nil2, ev_eqK, ev_neK, ev_meth, ev_meth0, ev_mth1, ev_mth2, ev_mth3, ev_append, ev_m0, ev_m0K, ev_str, ev_for, ev_miR1, ev_rg1K, ev_miL, ev_liK, ev_miT, ev_tiK, ev_lc, ev_wipe0, ev_wipeS, ev_yes, ev_lenSet, ev_lenSetK, ev_listR, ev_lrK, ev_put2, ev_p2A, ev_p2K, ev_p2E, ev_put1, ev_pt1, ev_addXI, ev_addXB, ev_addXS, ev_addXT, ev_addXL, ev_subXI, ev_subXB, ev_mulXI, ev_mulXB, ev_mulXL, ev_negXI, ev_negXB, ev_strXI, ev_strXB, List.getElem?_cons_zero, List.getElem?_cons_succ, List.set_cons_zero, List.set_cons_succ, List.length_cons, List.length_nil, List.cons_append, List.nil_append, if_true, if_false, Bool.false_eq_true, Bool.true_eq_false, reduceIte, Bool.not_true, Bool.not_false, Bool.and_true, Bool.true_and, Bool.and_false, Bool.false_and, Bool.or_true, Bool.true_or, Bool.or_false, Bool.false_or, decide_eq_true_eq, Nat.reduceAdd, Nat.reduceLeDiff, Nat.zero_add, Int.reduceLT, Int.reduceLE, Int.reduceEq, Int.reduceNeg, Nat.reduceEqDiff, and_self, and_true, true_and, decide_true, decide_false, eq_self, ite_true, ite_false, Int.reduceSub, Int.reduceAdd, Int.cast_ofNat_Int, Int.natCast_add, Int.cast_ofNat_Int, Nat.reduceSub, Nat.add_assoc, String.reduceBEq, String.reduceEq, Bool.or_not_self, beq_self_eq_true, vOf]) (by simp only [List.length_nil]; omega)
            simpa only [List.nil_append, wOfL, List.map_map, Function.comp_def] using z
          have c3 : ∀ B, lcL (S.length + 1) (okL (.ref n) xs) (mgName 1) mYes (mOp oIxD (mVar 1) (mC (.int 0))) [some (.ref n), none, some (.ref S.length), y3] xs (S ++ [B, .lst []]) = .ok (.ref (S.length + 1)) (S ++ [B, .lst ((xs.map tOf).map A.int)]) := fun B => by
            have z := lc_pure (n := S.length + 1) (s := S ++ [B]) (acc := []) (xs := xs) (ok := okL (.ref n) xs) (g := mgName 1) (tt := mYes) (te := mOp oIxD (mVar 1) (mC (.int 0))) (env := [some (.ref n), none, some (.ref S.length), y3]) (fun _ => true) (fun x => .int (tOf x)) (by rw [List.length_append]; rfl) (fun acc => by rw [List.append_assoc]; exact okl _) (fun x hx acc => by
              obtain ⟨t, v, b, e, k, rfl, _⟩ := rows x hx
              refine ⟨_, rfl, rfl, fun _ => ?_⟩
              simp only [ev_bok, ev_bno, ev_bex, ev_tok, ev_tno, ev_tex, ev_nnx, ev_nrt, ev_nbk, ev_nct, ev_nex, ev_nno, ev_frt, ev_fnx, ev_fex, ev_xok, ev_lsome, ev_lnone, ev_seq, ev_if, ev_ret, ev_retN, ev_drop, ev_nop, ev_brk, ev_cont, ev_asgN, ev_asgT, ev_asgO, ev_mgTup, ev_mgN, ev_mgC, ev_mg0, ev_putL, ev_putO, ev_var, ev_vr, ev_c, ev_op, ev_un, ev_test, ev_tb, ev_notT, ev_andT, ev_orT, ev_ifE, ev_not, ev_nb, ev_and, ev_andK, ev_or, ev_orK, ev_chain, ev_chK, ev_nil, ev_cons, ev_tup, ev_lst, ev_new, ev_call, ev_cb, ev_size, ev_addI, ev_addS, ev_addT, ev_addL, ev_catO, ev_sub, ev_mul, ev_div, ev_mod, ev_p5, ev_p6, ev_p12, ev_p18, ev_p30, ev_neg, ev_ltI, ev_ltS, ev_leI, ev_leS, ev_gt, ev_ge, ev_eqI, ev_eqS, ev_neI, ev_neS, ev_neB, ev_eqB, ev_is, ev_isnot, ev_ixT, ev_ixS, ev_ixR, ev_ixL, ev_ixK, ev_getL, ev_getM, ev_gL, ev_gM, ev_at0, ev_at1, ev_at2, ev_at3, ev_at4, ev_lenS, ev_lenR, ev_lenT, ev_lenL, ev_lenO, ev_lenD, ev_abs, ev_min2, ev_max2, ev_intI, ev_intB, ev_set, ev_fc, ev_setset, ev_last, ev_appk, ev_app0, ev_setk, ev_set0, ev_assoc, ev_lapp, ev_lappA, ev_sl, ev_nopart, ev_part, ev_ptK, ev_slT, ev_slS, ev_slR, ev_slK, ev_tyN, ev_tyB, ev_tyI, ev_tyS, ev_tyT, ev_tyL, ev_tyR, ev_tyRL, ev_isi, ev_isi1, ev_isi2, ev_isi3, ev_isi4, ev_isi5, ev_isiT, ev_isi2K, ev_isTy, ev_list, ev_listK, ev_tuple, ev_tupK, ev_getST, ev_getSR, ev_getSL, ev_all, ev_allK, ev_eqXI, ev_eqXS, ev_neXI, ev_neXS, ev_neXB, ev_eqXB, ev_eqXR, ev_neXR, ev_nil2, ev_eqK, ev_neK, ev_meth, ev_meth0, ev_mth1, ev_mth2, ev_mth3, ev_append, ev_m0, ev_m0K, ev_str, ev_for, ev_miR1, ev_rg1K, ev_miL, ev_liK, ev_miT, ev_tiK, ev_lc, ev_wipe0, ev_wipeS, ev_yes, ev_lenSet, ev_lenSetK, ev_listR, ev_lrK, ev_put2, ev_p2A, ev_p2K, ev_p2E, ev_put1, ev_pt1, ev_addXI, ev_addXB, ev_addXS, ev_addXT, ev_addXL, ev_subXI, ev_subXB, ev_mulXI, ev_mulXB, ev_mulXL, ev_negXI, ev_negXB, ev_strXI, ev_strXB, List.getElem?_cons_zero, List.getElem?_cons_succ, List.set_cons_zero, List.set_cons_succ, List.length_cons, List.length_nil, List.cons_append, List.nil_append, if_true, if_false, Bool.false_eq_true, Bool.true_eq_false, reduceIte, Bool.not_true, Bool.not_false, Bool.and_true, Bool.true_and, Bool.and_false, Bool.false_and, Bool.or_true, Bool.true_or, Bool.or_false, Bool.false_or, decide_eq_true_eq, Nat.reduceAdd, Nat.reduceLeDiff, Nat.zero_add, Int.reduceLT, Int.reduceLE, Int.reduceEq, Int.reduceNeg, Nat.reduceEqDiff, and_self, and_true, true_and, decide_true, decide_false, eq_self, ite_true, ite_false, Int.reduceSub, Int.reduceAdd, Int.cast_ofNat_Int, Int.natCast_add, Int.cast_ofNat_Int, Nat.reduceSub, Nat.add_assoc, String.reduceBEq, String.reduceEq, Bool.or_not_self, beq_self_eq_true, tOf]) (by simp only [List.length_nil]; omega)
            rw [List.filter_eq_self.mpr (fun _ _ => rfl)] at z
            simpa only [List.append_assoc, List.cons_append, List.nil_append, List.map_map, Function.comp_def] using z
          have c4 : ∀ D, lcL (S.length + 2) (okL (.ref n) xs) (mgName 1) (mAndT (mTest (mOp oNeX (mOp oIxD (mVar 1) (mC (.int 2))) (mC (.int 0)))) (mTest (mOp oNotInX (mOp oIxD (mVar 1) (mC (.int 2))) (mVar 2)))) (mVar 1) [some (.ref n), none, some (.ref S.length), some (.ref (S.length + 1))] xs (S ++ [.lst ((wOfL xs).map A.int), D, .lst []]) = .ok (.ref (S.length + 2)) (S ++ [.lst ((wOfL xs).map A.int), D, .lst (xs.filter fun x => !lastH xs x)]) := fun D => by
            have z := lc_pure (n := S.length + 2) (s := S ++ [.lst ((wOfL xs).map A.int), D]) (acc := []) (xs := xs) (ok := okL (.ref n) xs) (g := mgName 1) (tt := mAndT (mTest (mOp oNeX (mOp oIxD (mVar 1) (mC (.int 2))) (mC (.int 0)))) (mTest (mOp oNotInX (mOp oIxD (mVar 1) (mC (.int 2))) (mVar 2)))) (te := mVar 1) (env := [some (.ref n), none, some (.ref S.length), some (.ref (S.length + 1))]) (fun x => !lastH xs x) (fun x => x) (by rw [List.length_append]; rfl) (fun acc => by rw [List.append_assoc]; exact okl _) (fun x hx acc => by
              obtain ⟨t, v, b, e, k, rfl, _⟩ := rows x hx
              have ei : ∀ v, oNotInX (.int v) (.ref S.length) (S ++ [.lst ((wOfL xs).map A.int), D, .lst acc]) = .ok (.bl (!decide (v ∈ wOfL xs))) (S ++ [.lst ((wOfL xs).map A.int), D, .lst acc]) := fun v => notIn_ints ev_app0
              refine ⟨_, rfl, ?_, fun _ => ?_⟩
              · by_cases hv : v = 0
                · simp only [ev_bok, ev_bno, ev_bex, ev_tok, ev_tno, ev_tex, ev_nnx, ev_nrt, ev_nbk, ev_nct, ev_nex, ev_nno, ev_frt, ev_fnx, ev_fex, ev_xok, ev_lsome, ev_lnone, ev_seq, ev_if, ev_ret, ev_retN, ev_drop, ev_nop, ev_brk, ev_cont, ev_asgN, ev_asgT, ev_asgO, ev_mgTup, ev_mgN, ev_mgC, ev_mg0, ev_putL, ev_putO, ev_var, ev_vr, ev_c, ev_op, ev_un, ev_test, ev_tb, ev_notT, ev_andT, ev_orT, ev_ifE, ev_not, ev_nb, ev_and, ev_andK, ev_or, ev_orK, ev_chain, ev_chK, ev_nil, ev_cons, ev_tup, ev_lst, ev_new, ev_call, ev_cb, ev_size, ev_addI, ev_addS, ev_addT, ev_addL, ev_catO, ev_sub, ev_mul, ev_div, ev_mod, ev_p5, ev_p6, ev_p12, ev_p18, ev_p30, ev_neg, ev_ltI, ev_ltS, ev_leI, ev_leS, ev_gt, ev_ge, ev_eqI, ev_eqS, ev_neI, ev_neS, ev_neB, ev_eqB, ev_is, ev_isnot, ev_ixT, ev_ixS, ev_ixR, ev_ixL, ev_ixK, ev_getL, ev_getM, ev_gL, ev_gM, ev_at0, ev_at1, ev_at2, ev_at3, ev_at4, ev_lenS, ev_lenR, ev_lenT, ev_lenL, ev_lenO, ev_lenD, ev_abs, ev_min2, ev_max2, ev_intI, ev_intB, ev_set, ev_fc, ev_setset, ev_last, ev_appk, ev_app0, ev_setk, ev_set0, ev_assoc, ev_lapp, ev_lappA, ev_sl, ev_nopart, ev_part, ev_ptK, ev_slT, ev_slS, ev_slR, ev_slK, ev_tyN, ev_tyB, ev_tyI, ev_tyS, ev_tyT, ev_tyL, ev_tyR, ev_tyRL, ev_isi, ev_isi1, ev_isi2, ev_isi3, ev_isi4, ev_isi5, ev_isiT, ev_isi2K, ev_isTy, ev_list, ev_listK, ev_tuple, ev_tupK, ev_getST, ev_getSR, ev_getSL, ev_all, ev_allK, ev_eqXI, ev_eqXS, ev_neXI, ev_neXS, ev_neXB, ev_eqXB, ev_eqXR, ev_neXR, ev_nil2, ev_eqK, ev_neK, ev_meth, ev_meth0, ev_mth1, ev_mth2, ev_mth3, ev_append, ev_m0, ev_m0K, ev_str, ev_for, ev_miR1, ev_rg1K, ev_miL, ev_liK, ev_miT, ev_tiK, ev_lc, ev_wipe0, ev_wipeS, ev_yes, ev_lenSet, ev_lenSetK, ev_listR, ev_lrK, ev_put2, ev_p2A, ev_p2K, ev_p2E, ev_put1, ev_pt1, ev_addXI, ev_addXB, ev_addXS, ev_addXT, ev_addXL, ev_subXI, ev_subXB, ev_mulXI, ev_mulXB, ev_mulXL, ev_negXI, ev_negXB, ev_strXI, ev_strXB, List.getElem?_cons_zero, List.getElem?_cons_succ, List.set_cons_zero, List.set_cons_succ, List.length_cons, List.length_nil, List.cons_append, List.nil_append, if_true, if_false, Bool.false_eq_true, Bool.true_eq_false, reduceIte, Bool.not_true, Bool.not_false, Bool.and_true, Bool.true_and, Bool.and_false, Bool.false_and, Bool.or_true, Bool.true_or, Bool.or_false, Bool.false_or, decide_eq_true_eq, Nat.reduceAdd, Nat.reduceLeDiff, Nat.zero_add, Int.reduceLT, Int.reduceLE, Int.reduceEq, Int.reduceNeg, Nat.reduceEqDiff, and_self, and_true, true_and, decide_true, decide_false, eq_self, ite_true, ite_false, Int.reduceSub, Int.reduceAdd, Int.cast_ofNat_Int, Int.natCast_add, Int.cast_ofNat_Int, Nat.reduceSub, Nat.add_assoc, String.reduceBEq, String.reduceEq, Bool.or_not_self, beq_self_eq_true, hv, lastH, vOf]
                · simp only [ev_bok, ev_bno, ev_bex, ev_tok, ev_tno, ev_tex, ev_nnx, ev_nrt, ev_nbk, ev_nct, ev_nex, ev_nno, ev_frt, ev_fnx, ev_fex, ev_xok, ev_lsome, ev_lnone, ev_seq, ev_if, ev_ret, ev_retN, ev_drop, ev_nop, ev_brk, ev_cont, ev_asgN, ev_asgT, ev_asgO, ev_mgTup, ev_mgN, ev_mgC, ev_mg0, ev_putL, ev_putO, ev_var, ev_vr, ev_c, ev_op, ev_un, ev_test, ev_tb, ev_notT, ev_andT, ev_orT, ev_ifE, ev_not, ev_nb, ev_and, ev_andK, ev_or, ev_orK, ev_chain, ev_chK, ev_nil, ev_cons, ev_tup, ev_lst, ev_new, ev_call, ev_cb, ev_size, ev_addI, ev_addS, ev_addT, ev_addL, ev_catO, ev_sub, ev_mul, ev_div, ev_mod, ev_p5, ev_p6, ev_p12, ev_p18, ev_p30, ev_neg, ev_ltI, ev_ltS, ev_leI, ev_leS, ev_gt, ev_ge, ev_eqI, ev_eqS, ev_neI, ev_neS, ev_neB, ev_eqB, ev_is, ev_isnot, ev_ixT, ev_ixS, ev_ixR, ev_ixL, ev_ixK, ev_getL, ev_getM, ev_gL, ev_gM, ev_at0, ev_at1, ev_at2, ev_at3, ev_at4, ev_lenS, ev_lenR, ev_lenT, ev_lenL, ev_lenO, ev_lenD, ev_abs, ev_min2, ev_max2, ev_intI, ev_intB, ev_set, ev_fc, ev_setset, ev_last, ev_appk, ev_app0, ev_setk, ev_set0, ev_assoc, ev_lapp, ev_lappA, ev_sl, ev_nopart, ev_part, ev_ptK, ev_slT, ev_slS, ev_slR, ev_slK, ev_tyN, ev_tyB, ev_tyI, ev_tyS, ev_tyT, ev_tyL, ev_tyR, ev_tyRL, ev_isi, ev_isi1, ev_isi2, ev_isi3, ev_isi4, ev_isi5, ev_isiT, ev_isi2K, ev_isTy, ev_list, ev_listK, ev_tuple, ev_tupK, ev_getST, ev_getSR, ev_getSL, ev_all, ev_allK, ev_eqXI, ev_eqXS, ev_neXI, ev_neXS, ev_neXB, ev_eqXB, ev_eqXR, ev_neXR, ev_nil2, ev_eqK, ev_neK, ev_meth, ev_meth0, ev_mth1, ev_mth2, ev_mth3, ev_append, ev_m0, ev_m0K, ev_str, ev_for, ev_miR1, ev_rg1K, ev_miL, ev_liK, ev_miT, ev_tiK, ev_lc, ev_wipe0, ev_wipeS, ev_yes, ev_lenSet, ev_lenSetK, ev_listR, ev_lrK, ev_put2, ev_p2A, ev_p2K, ev_p2E, ev_put1, ev_pt1, ev_addXI, ev_addXB, ev_addXS, ev_addXT, ev_addXL, ev_subXI, ev_subXB, ev_mulXI, ev_mulXB, ev_mulXL, ev_negXI, ev_negXB, ev_strXI, ev_strXB, List.getElem?_cons_zero, List.getElem?_cons_succ, List.set_cons_zero, List.set_cons_succ, List.length_cons, List.length_nil, List.cons_append, List.nil_append, if_true, if_false, Bool.false_eq_true, Bool.true_eq_false, reduceIte, Bool.not_true, Bool.not_false, Bool.and_true, Bool.true_and, Bool.and_false, Bool.false_and, Bool.or_true, Bool.true_or, Bool.or_false, Bool.false_or, decide_eq_true_eq, Nat.reduceAdd, Nat.reduceLeDiff, Nat.zero_add, Int.reduceLT, Int.reduceLE, Int.reduceEq, Int.reduceNeg, Nat.reduceEqDiff, and_self, and_true, true_and, decide_true, decide_false, eq_self, ite_true, ite_false, Int.reduceSub, Int.reduceAdd, Int.cast_ofNat_Int, Int.natCast_add, Int.cast_ofNat_Int, Nat.reduceSub, Nat.add_assoc, String.reduceBEq, String.reduceEq, Bool.or_not_self, beq_self_eq_true, hv, ei, lastH, vOf]
                  rfl
              · simp only [ev_bok, ev_bno, ev_bex, ev_tok, ev_tno, ev_tex, ev_nnx, ev_nrt, ev_nbk, ev_nct, ev_nex, ev_nno, ev_frt, ev_fnx, ev_fex, ev_xok, ev_lsome, ev_lnone, ev_seq, ev_if, ev_ret, ev_retN, ev_drop, ev_nop, ev_brk, ev_cont, ev_asgN, ev_asgT, ev_asgO, ev_mgTup, ev_mgN, ev_mgC, ev_mg0, ev_putL, ev_putO, ev_var, ev_vr, ev_c, ev_op, ev_un, ev_test, ev_tb, ev_notT, ev_andT, ev_orT, ev_ifE, ev_not, ev_nb, ev_and, ev_andK, ev_or, ev_orK, ev_chain, ev_chK, ev_nil, ev_cons, ev_tup, ev_lst, ev_new, ev_call, ev_cb, ev_size, ev_addI, ev_addS, ev_addT, ev_addL, ev_catO, ev_sub, ev_mul, ev_div, ev_mod, ev_p5, ev_p6, ev_p12, ev_p18, ev_p30, ev_neg, ev_ltI, ev_ltS, ev_leI, ev_leS, ev_gt, ev_ge, ev_eqI, ev_eqS, ev_neI, ev_neS, ev_neB, ev_eqB, ev_is, ev_isnot, ev_ixT, ev_ixS, ev_ixR, ev_ixL, ev_ixK, ev_getL, ev_getM, ev_gL, ev_gM, ev_at0, ev_at1, ev_at2, ev_at3, ev_at4, ev_lenS, ev_lenR, ev_lenT, ev_lenL, ev_lenO, ev_lenD, ev_abs, ev_min2, ev_max2, ev_intI, ev_intB, ev_set, ev_fc, ev_setset, ev_last, ev_appk, ev_app0, ev_setk, ev_set0, ev_assoc, ev_lapp, ev_lappA, ev_sl, ev_nopart, ev_part, ev_ptK, ev_slT, ev_slS, ev_slR, ev_slK, ev_tyN, ev_tyB, ev_tyI, ev_tyS, ev_tyT, ev_tyL, ev_tyR, ev_tyRL, ev_isi, ev_isi1, ev_isi2, ev_isi3, ev_isi4, ev_isi5, ev_isiT, ev_isi2K, ev_isTy, ev_list, ev_listK, ev_tuple, ev_tupK, ev_getST, ev_getSR, ev_getSL, ev_all, ev_allK, ev_eqXI, ev_eqXS, ev_neXI, ev_neXS, ev_neXB, ev_eqXB, ev_eqXR, ev_neXR, ev_nil2, ev_eqK, ev_neK, ev_meth, ev_meth0, ev_mth1, ev_mth2, ev_mth3, ev_append, ev_m0, ev_m0K, ev_str, ev_for, ev_miR1, ev_rg1K, ev_miL, ev_liK, ev_miT, ev_tiK, ev_lc, ev_wipe0, ev_wipeS, ev_yes, ev_lenSet, ev_lenSetK, ev_listR, ev_lrK, ev_put2, ev_p2A, ev_p2K, ev_p2E, ev_put1, ev_pt1, ev_addXI, ev_addXB, ev_addXS, ev_addXT, ev_addXL, ev_subXI, ev_subXB, ev_mulXI, ev_mulXB, ev_mulXL, ev_negXI, ev_negXB, ev_strXI, ev_strXB, List.getElem?_cons_zero, List.getElem?_cons_succ, List.set_cons_zero, List.set_cons_succ, List.length_cons, List.length_nil, List.cons_append, List.nil_append, if_true, if_false, Bool.false_eq_true, Bool.true_eq_false, reduceIte, Bool.not_true, Bool.not_false, Bool.and_true, Bool.true_and, Bool.and_false, Bool.false_and, Bool.or_true, Bool.true_or, Bool.or_false, Bool.false_or, decide_eq_true_eq, Nat.reduceAdd, Nat.reduceLeDiff, Nat.zero_add, Int.reduceLT, Int.reduceLE, Int.reduceEq, Int.reduceNeg, Nat.reduceEqDiff, and_self, and_true, true_and, decide_true, decide_false, eq_self, ite_true, ite_false, Int.reduceSub, Int.reduceAdd, Int.cast_ofNat_Int, Int.natCast_add, Int.cast_ofNat_Int, Nat.reduceSub, Nat.add_assoc, String.reduceBEq, String.reduceEq, Bool.or_not_self, beq_self_eq_true]) (by simp only [List.length_nil]; omega)
            simpa only [List.append_assoc, List.cons_append, List.nil_append, List.map_id'] using z
          have lw : (wOfL xs).length ≤ 4000 := by
            unfold wOfL
            rw [List.length_map]
            have := List.length_filter_le isW xs
            omega
          have i1 : (some ((wOfL xs).map A.int)).bind intsOf = some (wOfL xs) := intsOf_map _
          have i2 : (some ((xs.map tOf).map A.int)).bind intsOf = some (xs.map tOf) := intsOf_map _
          have l2 : xs.length ≤ 4000 := by omega
          have d1 : decide (((ddup (wOfL xs)).length : Int) = ((wOfL xs).length : Nat)) = decide ((ddup (wOfL xs)).length = (wOfL xs).length) := decide_eq_decide.mpr Int.ofNat_inj
          have d2 : decide (((ddup (xs.map tOf)).length : Int) = (xs.length : Nat)) = decide ((ddup (xs.map tOf)).length = xs.length) := decide_eq_decide.mpr Int.ofNat_inj
          have em : (xs.filter fun x => !lastH xs x).isEmpty = xs.all (lastH xs) := by
            by_cases ha : xs.all (lastH xs) = true
            · rw [ha, List.isEmpty_iff, List.filter_eq_nil_iff]
              intro x hx
              simp [List.all_eq_true.mp ha x hx]
            · have : ¬ (xs.filter fun x => !lastH xs x).isEmpty = true := fun z => ha (by
                rw [List.isEmpty_iff, List.filter_eq_nil_iff] at z
                rw [List.all_eq_true]
                intro x hx
                have := z x hx
                simpa using this)
              rw [Bool.eq_false_iff.mpr ha, Bool.eq_false_iff.mpr this]
          cases k1 : decide ((ddup (wOfL xs)).length = (wOfL xs).length) with
          | false =>
            refine ⟨l' ++ [.lst ((wOfL xs).map A.int), .lst ((xs.map tOf).map A.int)], ?_⟩
            rw [← List.append_assoc, ← hS]
            rw [k1] at d1
            simp only [ev_bok, ev_bno, ev_bex, ev_tok, ev_tno, ev_tex, ev_nnx, ev_nrt, ev_nbk, ev_nct, ev_nex, ev_nno, ev_frt, ev_fnx, ev_fex, ev_xok, ev_lsome, ev_lnone, ev_seq, ev_if, ev_ret, ev_retN, ev_drop, ev_nop, ev_brk, ev_cont, ev_asgN, ev_asgT, ev_asgO, ev_mgTup, ev_mgN, ev_mgC, ev_mg0, ev_putL, ev_putO, ev_var, ev_vr, ev_c, ev_op, ev_un, ev_test, ev_tb, ev_notT, ev_andT, ev_orT, ev_ifE, ev_not, ev_nb, ev_and, ev_andK, ev_or, ev_orK, ev_chain, ev_chK, ev_nil, ev_cons, ev_tup, ev_lst, ev_new, ev_call, ev_cb, ev_size, ev_addI, ev_addS, ev_addT, ev_addL, ev_catO, ev_sub, ev_mul, ev_div, ev_mod, ev_p5, ev_p6, ev_p12, ev_p18, ev_p30, ev_neg, ev_ltI, ev_ltS, ev_leI, ev_leS, ev_gt, ev_ge, ev_eqI, ev_eqS, ev_neI, ev_neS, ev_neB, ev_eqB, ev_is, ev_isnot, ev_ixT, ev_ixS, ev_ixR, ev_ixL, ev_ixK, ev_getL, ev_getM, ev_gL, ev_gM, ev_at0, ev_at1, ev_at2, ev_at3, ev_at4, ev_lenS, ev_lenR, ev_lenT, ev_lenL, ev_lenO, ev_lenD, ev_abs, ev_min2, ev_max2, ev_intI, ev_intB, ev_set, ev_fc, ev_setset, ev_last, ev_appk, ev_app0, ev_setk, ev_set0, ev_assoc, ev_lapp, ev_lappA, ev_sl, ev_nopart, ev_part, ev_ptK, ev_slT, ev_slS, ev_slR, ev_slK, ev_tyN, ev_tyB, ev_tyI, ev_tyS, ev_tyT, ev_tyL, ev_tyR, ev_tyRL, ev_isi, ev_isi1, ev_isi2, ev_isi3, ev_isi4, ev_isi5, ev_isiT, ev_isi2K, ev_isTy, ev_list, ev_listK, ev_tuple, ev_tupK, ev_getST, ev_getSR, ev_getSL, ev_all, ev_allK, ev_eqXI, ev_eqXS, ev_neXI, ev_neXS, ev_neXB, ev_eqXB, ev_eqXR, ev_neXR, ev_nil2, ev_eqK, ev_neK, ev_meth, ev_meth0, ev_mth1, ev_mth2, ev_mth3, ev_append, ev_m0, ev_m0K, ev_str, ev_for, ev_miR1, ev_rg1K, ev_miL, ev_liK, ev_miT, ev_tiK, ev_lc, ev_wipe0, ev_wipeS, ev_yes, ev_lenSet, ev_lenSetK, ev_listR, ev_lrK, ev_put2, ev_p2A, ev_p2K, ev_p2E, ev_put1, ev_pt1, ev_addXI, ev_addXB, ev_addXS, ev_addXT, ev_addXL, ev_subXI, ev_subXB, ev_mulXI, ev_mulXB, ev_mulXL, ev_negXI, ev_negXB, ev_strXI, ev_strXB, List.getElem?_cons_zero, List.getElem?_cons_succ, List.set_cons_zero, List.set_cons_succ, List.length_cons, List.length_nil, List.cons_append, List.nil_append, if_true, if_false, Bool.false_eq_true, Bool.true_eq_false, reduceIte, Bool.not_true, Bool.not_false, Bool.and_true, Bool.true_and, Bool.and_false, Bool.false_and, Bool.or_true, Bool.true_or, Bool.or_false, Bool.false_or, Nat.reduceAdd, Nat.reduceLeDiff, Nat.zero_add, Int.reduceLT, Int.reduceLE, Int.reduceEq, Int.reduceNeg, Nat.reduceEqDiff, and_self, and_true, true_and, decide_true, decide_false, eq_self, ite_true, ite_false, Int.reduceSub, Int.reduceAdd, Int.cast_ofNat_Int, Int.natCast_add, Int.cast_ofNat_Int, Nat.reduceSub, Nat.add_assoc, String.reduceBEq, String.reduceEq, Bool.or_not_self, beq_self_eq_true, h1, c60, hF, hS0, hgS, c2, c3, i1, lw, List.length_map, d1]
          | true =>
            rw [k1] at d1
            cases k2 : decide ((ddup (xs.map tOf)).length = xs.length) with
            | false =>
              rw [k2] at d2
              refine ⟨l' ++ [.lst ((wOfL xs).map A.int), .lst ((xs.map tOf).map A.int)], ?_⟩
              rw [← List.append_assoc, ← hS]
              simp only [ev_bok, ev_bno, ev_bex, ev_tok, ev_tno, ev_tex, ev_nnx, ev_nrt, ev_nbk, ev_nct, ev_nex, ev_nno, ev_frt, ev_fnx, ev_fex, ev_xok, ev_lsome, ev_lnone, ev_seq, ev_if, ev_ret, ev_retN, ev_drop, ev_nop, ev_brk, ev_cont, ev_asgN, ev_asgT, ev_asgO, ev_mgTup, ev_mgN, ev_mgC, ev_mg0, ev_putL, ev_putO, ev_var, ev_vr, ev_c, ev_op, ev_un, ev_test, ev_tb, ev_notT, ev_andT, ev_orT, ev_ifE, ev_not, ev_nb, ev_and, ev_andK, ev_or, ev_orK, ev_chain, ev_chK, ev_nil, ev_cons, ev_tup, ev_lst, ev_new, ev_call, ev_cb, ev_size, ev_addI, ev_addS, ev_addT, ev_addL, ev_catO, ev_sub, ev_mul, ev_div, ev_mod, ev_p5, ev_p6, ev_p12, ev_p18, ev_p30, ev_neg, ev_ltI, ev_ltS, ev_leI, ev_leS, ev_gt, ev_ge, ev_eqI, ev_eqS, ev_neI, ev_neS, ev_neB, ev_eqB, ev_is, ev_isnot, ev_ixT, ev_ixS, ev_ixR, ev_ixL, ev_ixK, ev_getL, ev_getM, ev_gL, ev_gM, ev_at0, ev_at1, ev_at2, ev_at3, ev_at4, ev_lenS, ev_lenR, ev_lenT, ev_lenL, ev_lenO, ev_lenD, ev_abs, ev_min2, ev_max2, ev_intI, ev_intB, ev_set, ev_fc, ev_setset, ev_last, ev_appk, ev_app0, ev_setk, ev_set0, ev_assoc, ev_lapp, ev_lappA, ev_sl, ev_nopart, ev_part, ev_ptK, ev_slT, ev_slS, ev_slR, ev_slK, ev_tyN, ev_tyB, ev_tyI, ev_tyS, ev_tyT, ev_tyL, ev_tyR, ev_tyRL, ev_isi, ev_isi1, ev_isi2, ev_isi3, ev_isi4, ev_isi5, ev_isiT, ev_isi2K, ev_isTy, ev_list, ev_listK, ev_tuple, ev_tupK, ev_getST, ev_getSR, ev_getSL, ev_all, ev_allK, ev_eqXI, ev_eqXS, ev_neXI, ev_neXS, ev_neXB, ev_eqXB, ev_eqXR, ev_neXR, ev_nil2, ev_eqK, ev_neK, ev_meth, ev_meth0, ev_mth1, ev_mth2, ev_mth3, ev_append, ev_m0, ev_m0K, ev_str, ev_for, ev_miR1, ev_rg1K, ev_miL, ev_liK, ev_miT, ev_tiK, ev_lc, ev_wipe0, ev_wipeS, ev_yes, ev_lenSet, ev_lenSetK, ev_listR, ev_lrK, ev_put2, ev_p2A, ev_p2K, ev_p2E, ev_put1, ev_pt1, ev_addXI, ev_addXB, ev_addXS, ev_addXT, ev_addXL, ev_subXI, ev_subXB, ev_mulXI, ev_mulXB, ev_mulXL, ev_negXI, ev_negXB, ev_strXI, ev_strXB, List.getElem?_cons_zero, List.getElem?_cons_succ, List.set_cons_zero, List.set_cons_succ, List.length_cons, List.length_nil, List.cons_append, List.nil_append, if_true, if_false, Bool.false_eq_true, Bool.true_eq_false, reduceIte, Bool.not_true, Bool.not_false, Bool.and_true, Bool.true_and, Bool.and_false, Bool.false_and, Bool.or_true, Bool.true_or, Bool.or_false, Bool.false_or, Nat.reduceAdd, Nat.reduceLeDiff, Nat.zero_add, Int.reduceLT, Int.reduceLE, Int.reduceEq, Int.reduceNeg, Nat.reduceEqDiff, and_self, and_true, true_and, decide_true, decide_false, eq_self, ite_true, ite_false, Int.reduceSub, Int.reduceAdd, Int.cast_ofNat_Int, Int.natCast_add, Int.cast_ofNat_Int, Nat.reduceSub, Nat.add_assoc, String.reduceBEq, String.reduceEq, Bool.or_not_self, beq_self_eq_true, h1, c60, hF, hS0, hgS, c2, c3, i1, i2, lw, l2, List.length_map, d1, d2]
            | true =>
              rw [k2] at d2
              refine ⟨l' ++ [.lst ((wOfL xs).map A.int), .lst ((xs.map tOf).map A.int), .lst (xs.filter fun x => !lastH xs x), .lst []], ?_⟩
              rw [← List.append_assoc, ← hS]
              simp only [ev_bok, ev_bno, ev_bex, ev_tok, ev_tno, ev_tex, ev_nnx, ev_nrt, ev_nbk, ev_nct, ev_nex, ev_nno, ev_frt, ev_fnx, ev_fex, ev_xok, ev_lsome, ev_lnone, ev_seq, ev_if, ev_ret, ev_retN, ev_drop, ev_nop, ev_brk, ev_cont, ev_asgN, ev_asgT, ev_asgO, ev_mgTup, ev_mgN, ev_mgC, ev_mg0, ev_putL, ev_putO, ev_var, ev_vr, ev_c, ev_op, ev_un, ev_test, ev_tb, ev_notT, ev_andT, ev_orT, ev_ifE, ev_not, ev_nb, ev_and, ev_andK, ev_or, ev_orK, ev_chain, ev_chK, ev_nil, ev_cons, ev_tup, ev_lst, ev_new, ev_call, ev_cb, ev_size, ev_addI, ev_addS, ev_addT, ev_addL, ev_catO, ev_sub, ev_mul, ev_div, ev_mod, ev_p5, ev_p6, ev_p12, ev_p18, ev_p30, ev_neg, ev_ltI, ev_ltS, ev_leI, ev_leS, ev_gt, ev_ge, ev_eqI, ev_eqS, ev_neI, ev_neS, ev_neB, ev_eqB, ev_is, ev_isnot, ev_ixT, ev_ixS, ev_ixR, ev_ixL, ev_ixK, ev_getL, ev_getM, ev_gL, ev_gM, ev_at0, ev_at1, ev_at2, ev_at3, ev_at4, ev_lenS, ev_lenR, ev_lenT, ev_lenL, ev_lenO, ev_lenD, ev_abs, ev_min2, ev_max2, ev_intI, ev_intB, ev_set, ev_fc, ev_setset, ev_last, ev_appk, ev_app0, ev_setk, ev_set0, ev_assoc, ev_lapp, ev_lappA, ev_sl, ev_nopart, ev_part, ev_ptK, ev_slT, ev_slS, ev_slR, ev_slK, ev_tyN, ev_tyB, ev_tyI, ev_tyS, ev_tyT, ev_tyL, ev_tyR, ev_tyRL, ev_isi, ev_isi1, ev_isi2, ev_isi3, ev_isi4, ev_isi5, ev_isiT, ev_isi2K, ev_isTy, ev_list, ev_listK, ev_tuple, ev_tupK, ev_getST, ev_getSR, ev_getSL, ev_all, ev_allK, ev_eqXI, ev_eqXS, ev_neXI, ev_neXS, ev_neXB, ev_eqXB, ev_eqXR, ev_neXR, ev_nil2, ev_eqK, ev_neK, ev_meth, ev_meth0, ev_mth1, ev_mth2, ev_mth3, ev_append, ev_m0, ev_m0K, ev_str, ev_for, ev_miR1, ev_rg1K, ev_miL, ev_liK, ev_miT, ev_tiK, ev_lc, ev_wipe0, ev_wipeS, ev_yes, ev_lenSet, ev_lenSetK, ev_listR, ev_lrK, ev_put2, ev_p2A, ev_p2K, ev_p2E, ev_put1, ev_pt1, ev_addXI, ev_addXB, ev_addXS, ev_addXT, ev_addXL, ev_subXI, ev_subXB, ev_mulXI, ev_mulXB, ev_mulXL, ev_negXI, ev_negXB, ev_strXI, ev_strXB, List.getElem?_cons_zero, List.getElem?_cons_succ, List.set_cons_zero, List.set_cons_succ, List.length_cons, List.length_nil, List.cons_append, List.nil_append, if_true, if_false, Bool.false_eq_true, Bool.true_eq_false, reduceIte, Bool.not_true, Bool.not_false, Bool.and_true, Bool.true_and, Bool.and_false, Bool.false_and, Bool.or_true, Bool.true_or, Bool.or_false, Bool.false_or, Nat.reduceAdd, Nat.reduceLeDiff, Nat.zero_add, Int.reduceLT, Int.reduceLE, Int.reduceEq, Int.reduceNeg, Nat.reduceEqDiff, and_self, and_true, true_and, decide_true, decide_false, eq_self, ite_true, ite_false, Int.reduceSub, Int.reduceAdd, Int.cast_ofNat_Int, Int.natCast_add, Int.cast_ofNat_Int, Nat.reduceSub, Nat.add_assoc, String.reduceBEq, String.reduceEq, Bool.or_not_self, beq_self_eq_true, h1, c60, hF, hS0, hgS, c2, c3, c4, i1, i2, lw, l2, List.length_map, d1, d2, em]
      · have c60 : (60 : Int) < (xs.length : Nat) := by omega
        refine ⟨[], ?_⟩
        unfold b__law_is_history
        simp only [ev_bok, ev_bno, ev_bex, ev_tok, ev_tno, ev_tex, ev_nnx, ev_nrt, ev_nbk, ev_nct, ev_nex, ev_nno, ev_frt, ev_fnx, ev_fex, ev_xok, ev_lsome, ev_lnone, ev_seq, ev_if, ev_ret, ev_retN, ev_drop, ev_nop, ev_brk, ev_cont, ev_asgN, ev_asgT, ev_asgO, ev_mgTup, ev_mgN, ev_mgC, ev_mg0, ev_putL, ev_putO, ev_var, ev_vr, ev_c, ev_op, ev_un, ev_test, ev_tb, ev_notT, ev_andT, ev_orT, ev_ifE, ev_not, ev_nb, ev_and, ev_andK, ev_or, ev_orK, ev_chain, ev_chK, ev_nil, ev_cons, ev_tup, ev_lst, ev_new, ev_call, ev_cb, ev_size, ev_addI, ev_addS, ev_addT, ev_addL, ev_catO, ev_sub, ev_mul, ev_div, ev_mod, ev_p5, ev_p6, ev_p12, ev_p18, ev_p30, ev_neg, ev_ltI, ev_ltS, ev_leI, ev_leS, ev_gt, ev_ge, ev_eqI, ev_eqS, ev_neI, ev_neS, ev_neB, ev_eqB, ev_is, ev_isnot, ev_ixT, ev_ixS, ev_ixR, ev_ixL, ev_ixK, ev_getL, ev_getM, ev_gL, ev_gM, ev_at0, ev_at1, ev_at2, ev_at3, ev_at4, ev_lenS, ev_lenR, ev_lenT, ev_lenL, ev_lenO, ev_lenD, ev_abs, ev_min2, ev_max2, ev_intI, ev_intB, ev_set, ev_fc, ev_setset, ev_last, ev_appk, ev_app0, ev_setk, ev_set0, ev_assoc, ev_lapp, ev_lappA, ev_sl, ev_nopart, ev_part, ev_ptK, ev_slT, ev_slS, ev_slR, ev_slK, ev_tyN, ev_tyB, ev_tyI, ev_tyS, ev_tyT, ev_tyL, ev_tyR, ev_tyRL, ev_isi, ev_isi1, ev_isi2, ev_isi3, ev_isi4, ev_isi5, ev_isiT, ev_isi2K, ev_isTy, ev_list, ev_listK, ev_tuple, ev_tupK, ev_getST, ev_getSR, ev_getSL, ev_all, ev_allK, ev_eqXI, ev_eqXS, ev_neXI, ev_neXS, ev_neXB, ev_eqXB, ev_eqXR, ev_neXR, ev_nil2, ev_eqK, ev_neK, ev_meth, ev_meth0, ev_mth1, ev_mth2, ev_mth3, ev_append, ev_m0, ev_m0K, ev_str, ev_for, ev_miR1, ev_rg1K, ev_miL, ev_liK, ev_miT, ev_tiK, ev_lc, ev_wipe0, ev_wipeS, ev_yes, ev_lenSet, ev_lenSetK, ev_listR, ev_lrK, ev_put2, ev_p2A, ev_p2K, ev_p2E, ev_put1, ev_pt1, ev_addXI, ev_addXB, ev_addXS, ev_addXT, ev_addXL, ev_subXI, ev_subXB, ev_mulXI, ev_mulXB, ev_mulXL, ev_negXI, ev_negXB, ev_strXI, ev_strXB, List.getElem?_cons_zero, List.getElem?_cons_succ, List.set_cons_zero, List.set_cons_succ, List.length_cons, List.length_nil, List.cons_append, List.nil_append, if_true, if_false, Bool.false_eq_true, Bool.true_eq_false, reduceIte, Bool.not_true, Bool.not_false, Bool.and_true, Bool.true_and, Bool.and_false, Bool.false_and, Bool.or_true, Bool.true_or, Bool.or_false, Bool.false_or, decide_eq_true_eq, Nat.reduceAdd, Nat.reduceLeDiff, Nat.zero_add, Int.reduceLT, Int.reduceLE, Int.reduceEq, Int.reduceNeg, Nat.reduceEqDiff, and_self, and_true, true_and, decide_true, decide_false, eq_self, ite_true, ite_false, Int.reduceSub, Int.reduceAdd, Int.cast_ofNat_Int, Int.natCast_add, Int.cast_ofNat_Int, Nat.reduceSub, Nat.add_assoc, String.reduceBEq, String.reduceEq, Bool.or_not_self, beq_self_eq_true, h1, c60, List.append_nil]
        unfold histL
        rw [decide_eq_false h60]
        rfl

theorem forL_inv {ok : Sto → Prop} {g : MG} {b : MS} (I : Nat → AEnv → Sto → Prop) (hok : ∀ i env S, I i env S → ok S) : ∀ {xs : List A} {j : Nat}, (∀ i x, xs[i]? = some x → ∀ env S, I (j + i) env S → ∃ e1 e2 S', g x env = some e1 ∧ b e1 S = .fl (.nx e2) S' ∧ I (j + i + 1) e2 S') →
    ∀ env S, I j env S → ∃ e2 S', forL ok g b xs env S = .fl (.nx e2) S' ∧ I (j + xs.length) e2 S'
  | [], j, _, env, S, h => ⟨env, S, by
      unfold forL
      rw [if_pos (hok _ _ _ h)], h⟩
  | x :: xs, j, hb, env, S, h => by
    obtain ⟨e1, e2, S', h1, h2, h3⟩ := hb 0 x rfl env S h
    obtain ⟨e3, S3, h4, h5⟩ := forL_inv I hok (xs := xs) (j := j + 1) (fun i y hy env S hI => by
      have := hb (i + 1) y (by simpa using hy) env S (by rw [show j + (i + 1) = j + 1 + i by omega]; exact hI)
      rw [show j + (i + 1) + 1 = j + 1 + i + 1 by omega] at this
      exact this) e2 S' h3
    refine ⟨e3, S3, ?_, by rw [List.length_cons, show j + (xs.length + 1) = j + 1 + xs.length by omega]; exact h5⟩
    unfold forL
    rw [if_pos (hok _ _ _ h), h1]
    simp only [h2]
    exact h4
theorem whileF_inv {c : MT} {b : MS} (J : Nat → AEnv → Sto → Prop) (h0 : ∀ env S, J 0 env S → ∃ S', c env S = .ok false S' ∧ J 0 env S') (hs : ∀ k env S, J (k + 1) env S → ∃ S' e2 S2, c env S = .ok true S' ∧ b env S' = .fl (.nx e2) S2 ∧ J k e2 S2) : ∀ (k fuel : Nat) (env : AEnv) (S : Sto), k < fuel → J k env S → ∃ e2 S2, whileF c b fuel env S = .fl (.nx e2) S2 ∧ J 0 e2 S2
  | 0, fuel + 1, env, S, _, h => by
    obtain ⟨S', e, h'⟩ := h0 env S h
    refine ⟨env, S', ?_, h'⟩
    unfold whileF
    rw [e]
    rfl
  | k + 1, fuel + 1, env, S, hf, h => by
    obtain ⟨S', e2, S2, e, eb, h'⟩ := hs k env S h
    obtain ⟨e3, S3, ew, hJ⟩ := whileF_inv J h0 hs k fuel e2 S2 (by omega) h'
    refine ⟨e3, S3, ?_, hJ⟩
    unfold whileF
    rw [e]
    simp only [ev_tok, if_true, eb]
    exact ew
  | _, 0, _, _, hf, _ => by omega
theorem pickI {ns : List Int} {i : Int} (h0 : 0 ≤ i) (h1 : i < ns.length) : ∃ m, m ∈ ns ∧ atI (ns.map A.int) i = some (.int m) ∧ ns[i.toNat]? = some m := by
  obtain ⟨k, rfl⟩ : ∃ k : Nat, i = (k : Int) := ⟨i.toNat, by omega⟩
  have hk : k < ns.length := by omega
  exact ⟨ns[k], List.getElem_mem hk, atI_nat (by rw [List.getElem?_map, List.getElem?_eq_getElem hk]; rfl), by rw [Int.toNat_natCast]; exact List.getElem?_eq_getElem hk⟩
theorem atI_end {xs : List A} {x : A} : atI (xs ++ [x]) (-1) = some x := by
  unfold atI ixN
  rw [if_neg (by decide), if_pos (by rw [List.length_append, List.length_singleton]; omega), List.length_append, List.length_singleton]
  show (xs ++ [x])[(-1 + ((xs.length + 1 : Nat) : Int)).toNat]? = _
  have : (-1 + ((xs.length + 1 : Nat) : Int)).toNat = xs.length := by omega
  rw [this]
  simp
theorem popAt_is {xs : List A} {i : Int} {a : A} (h0 : 0 ≤ i) (h1 : i < xs.length) (h2 : (xs.length : Int) < 2 ^ 62) (e : xs[i.toNat]? = some a) : oPopAt xs [.int i] = some (a, xs.eraseIdx i.toNat) := by
  unfold oPopAt
  have hs : seqIndex? i xs.length = some i.toNat := by
    have := (ixN_seq (ixN_is h0 h1)).1
    exact this
  simp only
  rw [if_pos ⟨by omega, by omega⟩, hs]
  simp only [e]
  rfl
theorem negOne {xs : List A} : mUn oNegX (mC (.int 1)) [] [] = .ok (.int (-1)) [] := rfl

/-! ### a history drawn, as the law draws it -/
def RowG (r : A) : Prop := ∃ (t v b e : Int) (k : Str), r = .tup [.int t, .str k, .int v, .int b, .int e] ∧ (k = "read" ∨ k = "write") ∧ t.natAbs < 2 ^ 20 ∧ v.natAbs < 2 ^ 20 ∧ b.natAbs < 2 ^ 20 ∧ e.natAbs < 2 ^ 20
theorem RowG.gd {r : A} (h : RowG r) {st : Sto} {E : Nat → Prop} : gd st E 0 1 r := by
  obtain ⟨t, v, b, e, k, rfl, hk, h1, h2, h3, h4⟩ := h
  have big : ∀ i : Int, i.natAbs < 2 ^ 20 → gs 0 (.int i) := fun i hi => gs_num (Nat.lt_of_lt_of_le hi (by decide))
  refine gd_tup (by show 5 ≤ _; omega) fun x hx => ?_
  simp only [List.mem_cons, List.not_mem_nil, or_false] at hx
  rcases hx with rfl | rfl | rfl | rfl | rfl
  · exact big t h1
  · rcases hk with rfl | rfl
    · exact gs_word (by decide +kernel) (by decide)
    · exact gs_word (by decide +kernel) (by decide)
  · exact big v h2
  · exact big b h3
  · exact big e h4
/-- three lists that the drawing fills -/
structure HI (st : Sto) (b V R N : Nat) (vals : List Int) (rows : List A) (ns : List Int) (i j : Nat) (S : Sto) : Prop where
  old : Old b st S
  bag : BagAt S b
  v : S[V]? = some (.lst (vals.map A.int))
  r : S[R]? = some (.lst rows)
  n : S[N]? = some (.lst (ns.map A.int))
  vs : vals ≠ [] ∧ ∀ x ∈ vals, 0 ≤ x ∧ x ≤ 999
  rs : rows.length = i ∧ ∀ x ∈ rows, RowG x
  nn : ns.length + j = 70 ∧ ∀ x ∈ ns, 0 ≤ x ∧ x < 70
  vl : vals.length ≤ j + 1
  lo : st.length ≤ V ∧ st.length ≤ R ∧ st.length ≤ N
  ne : V ≠ R ∧ V ≠ N ∧ R ≠ N
theorem HI.take {st : Sto} {b V R N : Nat} {vals : List Int} {rows : List A} {ns : List Int} {i j : Nat} {S : Sto} {m : Int} (h : HI st b V R N vals rows ns i j S) (hb : b < st.length) (hm : 0 < m) (hm2 : m < 2 ^ 200) : ∃ r S', m__law_take [.ref b, .int m] S = .ok (.int r) S' ∧ 0 ≤ r ∧ r < m ∧ HI st b V R N vals rows ns i j S' := by
  obtain ⟨r, S', e, r0, r1, o, B, l⟩ := take_ev h.bag hm hm2
  have := h.lo
  exact ⟨r, S', e, r0, r1, ⟨h.old.trans o, B, o.get h.v (by omega), o.get h.r (by omega), o.get h.n (by omega), h.vs, h.rs, h.nn, h.vl, h.lo, h.ne⟩⟩
theorem HI.putV {st : Sto} {b V R N : Nat} {vals vals' : List Int} {rows : List A} {ns : List Int} {i j : Nat} {S : Sto} (h : HI st b V R N vals rows ns i j S) (hb : b < st.length) (hv : vals' ≠ [] ∧ ∀ x ∈ vals', 0 ≤ x ∧ x ≤ 999) (hl : vals'.length ≤ j + 1) : HI st b V R N vals' rows ns i j (S.set V (.lst (vals'.map A.int))) := by
  have lo := h.lo
  have ne := h.ne
  have hV := (List.getElem?_eq_some_iff.mp h.v).1
  exact ⟨h.old.putNew lo.1, h.bag.put _ (by omega), List.getElem?_set_self hV, by rw [List.getElem?_set_ne ne.1]; exact h.r, by rw [List.getElem?_set_ne ne.2.1]; exact h.n, hv, h.rs, h.nn, hl, lo, ne⟩
/-- one more row -/
theorem HI.next {st : Sto} {b V R N : Nat} {vals : List Int} {rows : List A} {ns : List Int} {i j : Nat} {S : Sto} {r : A} (h : HI st b V R N vals rows ns i j S) (hb : b < st.length) (hr : RowG r) : HI st b V R N vals (rows ++ [r]) ns (i + 1) j (S.set R (.lst (rows ++ [r]))) := by
  have lo := h.lo
  have ne := h.ne
  have hR := (List.getElem?_eq_some_iff.mp h.r).1
  refine ⟨h.old.putNew lo.2.1, h.bag.put _ (by omega), by rw [List.getElem?_set_ne (Ne.symm ne.1)]; exact h.v, List.getElem?_set_self hR, by rw [List.getElem?_set_ne ne.2.2]; exact h.n, h.vs, ⟨by rw [List.length_append, h.rs.1]; rfl, fun x hx => ?_⟩, h.nn, h.vl, lo, ne⟩
  rcases List.mem_append.mp hx with hx | hx
  · exact h.rs.2 x hx
  · rw [List.mem_singleton.mp hx]
    exact hr
theorem eraseA {α β : Type} (f : α → β) : ∀ (l : List α) (k : Nat), (l.map f).eraseIdx k = (l.eraseIdx k).map f
  | [], _ => by simp
  | _ :: _, 0 => by simp
  | x :: l, k + 1 => by simp [eraseA f l k]
/-- one number less -/
theorem HI.popN {st : Sto} {b V R N : Nat} {vals : List Int} {rows : List A} {ns : List Int} {i j k : Nat} {S : Sto} (h : HI st b V R N vals rows ns i j S) (hb : b < st.length) (hk : k < ns.length) : HI st b V R N vals rows (ns.eraseIdx k) i (j + 1) (S.set N (.lst ((ns.eraseIdx k).map A.int))) := by
  have lo := h.lo
  have ne := h.ne
  have hN := (List.getElem?_eq_some_iff.mp h.n).1
  have hl := List.length_eraseIdx_of_lt hk
  have := h.nn.1
  exact ⟨h.old.putNew lo.2.2, h.bag.put _ (by omega), by rw [List.getElem?_set_ne (Ne.symm ne.2.1)]; exact h.v, by rw [List.getElem?_set_ne (Ne.symm ne.2.2)]; exact h.r, List.getElem?_set_self hN, h.vs, h.rs, ⟨by omega, fun x hx => h.nn.2 x (List.mem_of_mem_eraseIdx hx)⟩, by have := h.vl; omega, lo, ne⟩
theorem appS {xs : List A} {a : A} (h : xs.length < 16777216) : oAppend xs [a] = some (.non, xs ++ [a]) := ev_append.trans (if_pos h)
noncomputable def hW1 : MS := (sDrop (mMeth oAppend (mVar 5) (mCons (mOp oAddX (mC (.int 1)) (mOp oMod (mOp oAddX (mOp oMulX (mVar 8) (mC (.int 100))) (mC (.int 11))) (mC (.int 999)))) mNil)))
noncomputable def hW2 : MS := (sDrop (mMeth oAppend (mVar 6) (mCons (mTup (mCons (mVar 12) (mCons (mC (.str "write")) (mCons (mOp oIxD (mVar 5) (mUn oNegX (mC (.int 1)))) (mCons (mVar 10) (mCons (mVar 11) mNil)))))) mNil)))
theorem hW1_ev {x0 x1 x2 x3 x4 : A} {V : Nat} {x6 x7 : A} {T v : Int} {y9 y10 y11 y12 y13 y14 : Option A} {S : Sto} {xs : List A} (c : cMul T 100 = true) (e : S[V]? = some (.lst xs)) (h : xs.length < 16777216) (hv : v = 1 + (T * 100 + 11) % 999) :
    hW1 [some x0, some x1, some x2, some x3, some x4, some (.ref V), some x6, some x7, some (.int T), y9, y10, y11, y12, y13, y14] S = .fl (.nx [some x0, some x1, some x2, some x3, some x4, some (.ref V), some x6, some x7, some (.int T), y9, y10, y11, y12, y13, y14]) (S.set V (.lst (xs ++ [.int v]))) := by
  have p9 : ((0 : Int) < 999) = True := by simp
  have ap : ∀ a, oAppend xs [a] = some (.non, xs ++ [a]) := fun a => appS h
  unfold hW1
  simp only [ev_bok, ev_bno, ev_bex, ev_tok, ev_tno, ev_tex, ev_nnx, ev_nrt, ev_nbk, ev_nct, ev_nex, ev_nno, ev_frt, ev_fnx, ev_fex, ev_xok, ev_lsome, ev_lnone, ev_seq, ev_if, ev_ret, ev_retN, ev_drop, ev_nop, ev_brk, ev_cont, ev_asgN, ev_asgT, ev_asgO, ev_mgTup, ev_mgN, ev_mgC, ev_mg0, ev_putL, ev_putO, ev_var, ev_vr, ev_c, ev_op, ev_un, ev_test, ev_tb, ev_notT, ev_andT, ev_orT, ev_ifE, ev_not, ev_nb, ev_and, ev_andK, ev_or, ev_orK, ev_chain, ev_chK, ev_nil, ev_cons, ev_tup, ev_lst, ev_new, ev_call, ev_cb, ev_size, ev_addI, ev_addS, ev_addT, ev_addL, ev_catO, ev_sub, ev_mul, ev_div, ev_mod, ev_p5, ev_p6, ev_p12, ev_p18, ev_p30, ev_neg, ev_ltI, ev_ltS, ev_leI, ev_leS, ev_gt, ev_ge, ev_eqI, ev_eqS, ev_neI, ev_neS, ev_neB, ev_eqB, ev_is, ev_isnot, ev_ixT, ev_ixS, ev_ixR, ev_ixL, ev_ixK, ev_getL, ev_getM, ev_gL, ev_gM, ev_at0, ev_at1, ev_at2, ev_at3, ev_at4, ev_lenS, ev_lenR, ev_lenT, ev_lenL, ev_lenO, ev_lenD, ev_abs, ev_min2, ev_max2, ev_intI, ev_intB, ev_set, ev_fc, ev_setset, ev_last, ev_appk, ev_app0, ev_setk, ev_set0, ev_assoc, ev_lapp, ev_lappA, ev_sl, ev_nopart, ev_part, ev_ptK, ev_slT, ev_slS, ev_slR, ev_slK, ev_tyN, ev_tyB, ev_tyI, ev_tyS, ev_tyT, ev_tyL, ev_tyR, ev_tyRL, ev_isi, ev_isi1, ev_isi2, ev_isi3, ev_isi4, ev_isi5, ev_isiT, ev_isi2K, ev_isTy, ev_list, ev_listK, ev_tuple, ev_tupK, ev_getST, ev_getSR, ev_getSL, ev_all, ev_allK, ev_eqXI, ev_eqXS, ev_neXI, ev_neXS, ev_neXB, ev_eqXB, ev_eqXR, ev_neXR, ev_nil2, ev_eqK, ev_neK, ev_meth, ev_meth0, ev_mth1, ev_mth2, ev_mth3, ev_m0, ev_m0K, ev_str, ev_for, ev_miR1, ev_rg1K, ev_miL, ev_liK, ev_miT, ev_tiK, ev_lc, ev_wipe0, ev_wipeS, ev_yes, ev_lenSet, ev_lenSetK, ev_listR, ev_lrK, ev_put2, ev_p2A, ev_p2K, ev_p2E, ev_put1, ev_pt1, ev_addXI, ev_addXB, ev_addXS, ev_addXT, ev_addXL, ev_subXI, ev_subXB, ev_mulXI, ev_mulXB, ev_mulXL, ev_negXI, ev_negXB, ev_strXI, ev_strXB, List.getElem?_cons_zero, List.getElem?_cons_succ, List.set_cons_zero, List.set_cons_succ, List.length_cons, List.length_nil, List.cons_append, List.nil_append, if_true, if_false, Bool.false_eq_true, Bool.true_eq_false, reduceIte, Bool.not_true, Bool.not_false, Bool.and_true, Bool.true_and, Bool.and_false, Bool.false_and, Bool.or_true, Bool.true_or, Bool.or_false, Bool.false_or, decide_eq_true_eq, Nat.reduceAdd, Nat.reduceLeDiff, Nat.zero_add, Int.reduceLT, Int.reduceLE, Int.reduceEq, Int.reduceNeg, Nat.reduceEqDiff, and_self, and_true, true_and, decide_true, decide_false, eq_self, ite_true, ite_false, Int.reduceSub, Int.reduceAdd, Int.cast_ofNat_Int, Int.natCast_add, Int.cast_ofNat_Int, Nat.reduceSub, Nat.add_assoc, String.reduceBEq, String.reduceEq, Bool.or_not_self, beq_self_eq_true, c, e, p9, ap, decide_true, ← hv]
theorem hW2_ev {x0 x1 x2 x3 x4 : A} {V R : Nat} {x7 x8 x9 x10 x11 x12 : A} {v : Int} {y13 y14 : Option A} {S : Sto} {xs ys : List A} (e : S[V]? = some (.lst (ys ++ [.int v]))) (e2 : S[R]? = some (.lst xs)) (h : xs.length < 16777216) :
    hW2 [some x0, some x1, some x2, some x3, some x4, some (.ref V), some (.ref R), some x7, some x8, some x9, some x10, some x11, some x12, y13, y14] S = .fl (.nx [some x0, some x1, some x2, some x3, some x4, some (.ref V), some (.ref R), some x7, some x8, some x9, some x10, some x11, some x12, y13, y14]) (S.set R (.lst (xs ++ [.tup [x12, .str "write", .int v, x10, x11]]))) := by
  have ap : ∀ a, oAppend xs [a] = some (.non, xs ++ [a]) := fun a => appS h
  have gl : atI (ys ++ [A.int v]) (-1) = some (.int v) := atI_end
  unfold hW2
  simp only [ev_bok, ev_bno, ev_bex, ev_tok, ev_tno, ev_tex, ev_nnx, ev_nrt, ev_nbk, ev_nct, ev_nex, ev_nno, ev_frt, ev_fnx, ev_fex, ev_xok, ev_lsome, ev_lnone, ev_seq, ev_if, ev_ret, ev_retN, ev_drop, ev_nop, ev_brk, ev_cont, ev_asgN, ev_asgT, ev_asgO, ev_mgTup, ev_mgN, ev_mgC, ev_mg0, ev_putL, ev_putO, ev_var, ev_vr, ev_c, ev_op, ev_un, ev_test, ev_tb, ev_notT, ev_andT, ev_orT, ev_ifE, ev_not, ev_nb, ev_and, ev_andK, ev_or, ev_orK, ev_chain, ev_chK, ev_nil, ev_cons, ev_tup, ev_lst, ev_new, ev_call, ev_cb, ev_size, ev_addI, ev_addS, ev_addT, ev_addL, ev_catO, ev_sub, ev_mul, ev_div, ev_mod, ev_p5, ev_p6, ev_p12, ev_p18, ev_p30, ev_neg, ev_ltI, ev_ltS, ev_leI, ev_leS, ev_gt, ev_ge, ev_eqI, ev_eqS, ev_neI, ev_neS, ev_neB, ev_eqB, ev_is, ev_isnot, ev_ixT, ev_ixS, ev_ixR, ev_ixL, ev_ixK, ev_getL, ev_getM, ev_gL, ev_gM, ev_at0, ev_at1, ev_at2, ev_at3, ev_at4, ev_lenS, ev_lenR, ev_lenT, ev_lenL, ev_lenO, ev_lenD, ev_abs, ev_min2, ev_max2, ev_intI, ev_intB, ev_set, ev_fc, ev_setset, ev_last, ev_appk, ev_app0, ev_setk, ev_set0, ev_assoc, ev_lapp, ev_lappA, ev_sl, ev_nopart, ev_part, ev_ptK, ev_slT, ev_slS, ev_slR, ev_slK, ev_tyN, ev_tyB, ev_tyI, ev_tyS, ev_tyT, ev_tyL, ev_tyR, ev_tyRL, ev_isi, ev_isi1, ev_isi2, ev_isi3, ev_isi4, ev_isi5, ev_isiT, ev_isi2K, ev_isTy, ev_list, ev_listK, ev_tuple, ev_tupK, ev_getST, ev_getSR, ev_getSL, ev_all, ev_allK, ev_eqXI, ev_eqXS, ev_neXI, ev_neXS, ev_neXB, ev_eqXB, ev_eqXR, ev_neXR, ev_nil2, ev_eqK, ev_neK, ev_meth, ev_meth0, ev_mth1, ev_mth2, ev_mth3, ev_m0, ev_m0K, ev_str, ev_for, ev_miR1, ev_rg1K, ev_miL, ev_liK, ev_miT, ev_tiK, ev_lc, ev_wipe0, ev_wipeS, ev_yes, ev_lenSet, ev_lenSetK, ev_listR, ev_lrK, ev_put2, ev_p2A, ev_p2K, ev_p2E, ev_put1, ev_pt1, ev_addXI, ev_addXB, ev_addXS, ev_addXT, ev_addXL, ev_subXI, ev_subXB, ev_mulXI, ev_mulXB, ev_mulXL, ev_negXI, ev_negXB, ev_strXI, ev_strXB, List.getElem?_cons_zero, List.getElem?_cons_succ, List.set_cons_zero, List.set_cons_succ, List.length_cons, List.length_nil, List.cons_append, List.nil_append, if_true, if_false, Bool.false_eq_true, Bool.true_eq_false, reduceIte, Bool.not_true, Bool.not_false, Bool.and_true, Bool.true_and, Bool.and_false, Bool.false_and, Bool.or_true, Bool.true_or, Bool.or_false, Bool.false_or, decide_eq_true_eq, Nat.reduceAdd, Nat.reduceLeDiff, Nat.zero_add, Int.reduceLT, Int.reduceLE, Int.reduceEq, Int.reduceNeg, Nat.reduceEqDiff, and_self, and_true, true_and, decide_true, decide_false, eq_self, ite_true, ite_false, Int.reduceSub, Int.reduceAdd, Int.cast_ofNat_Int, Int.natCast_add, Int.cast_ofNat_Int, Nat.reduceSub, Nat.add_assoc, String.reduceBEq, String.reduceEq, Bool.or_not_self, beq_self_eq_true, e, e2, ap, gl]
noncomputable def hR1 : MS := (sAsg (mOp oIxD (mVar 5) (mUn oNegX (mC (.int 1)))) (mgName 13))
noncomputable def hR2 : MS := (sIf (mAndT (mTest (mOp oEqX (mVar 4) (mC (.int 0)))) (mTest (mOp oEqX (mCall 2 m__law_take (mCons (mVar 0) (mCons (mC (.int 2)) mNil))) (mC (.int 0)))))
 (sAsg (mOp oIxD (mVar 5) (mCall 2 m__law_take (mCons (mVar 0) (mCons (mCB oLen (mCons (mVar 5) mNil)) mNil)))) (mgName 13))
 sNext)
noncomputable def hR3 : MS := (sDrop (mMeth oAppend (mVar 6) (mCons (mTup (mCons (mVar 12) (mCons (mC (.str "read")) (mCons (mVar 13) (mCons (mVar 10) (mCons (mVar 11) mNil)))))) mNil)))
theorem hR1_ev {x0 x1 x2 x3 x4 : A} {V : Nat} {x6 x7 x8 x9 x10 x11 x12 : A} {v : Int} {y13 y14 : Option A} {S : Sto} {ys : List A} (e : S[V]? = some (.lst ys)) (g : atI ys (-1) = some (.int v)) :
    hR1 [some x0, some x1, some x2, some x3, some x4, some (.ref V), some x6, some x7, some x8, some x9, some x10, some x11, some x12, y13, y14] S = .fl (.nx [some x0, some x1, some x2, some x3, some x4, some (.ref V), some x6, some x7, some x8, some x9, some x10, some x11, some x12, some (.int v), y14]) S := by
  unfold hR1
  simp only [ev_bok, ev_bno, ev_bex, ev_tok, ev_tno, ev_tex, ev_nnx, ev_nrt, ev_nbk, ev_nct, ev_nex, ev_nno, ev_frt, ev_fnx, ev_fex, ev_xok, ev_lsome, ev_lnone, ev_seq, ev_if, ev_ret, ev_retN, ev_drop, ev_nop, ev_brk, ev_cont, ev_asgN, ev_asgT, ev_asgO, ev_mgTup, ev_mgN, ev_mgC, ev_mg0, ev_putL, ev_putO, ev_var, ev_vr, ev_c, ev_op, ev_un, ev_test, ev_tb, ev_notT, ev_andT, ev_orT, ev_ifE, ev_not, ev_nb, ev_and, ev_andK, ev_or, ev_orK, ev_chain, ev_chK, ev_nil, ev_cons, ev_tup, ev_lst, ev_new, ev_call, ev_cb, ev_size, ev_addI, ev_addS, ev_addT, ev_addL, ev_catO, ev_sub, ev_mul, ev_div, ev_mod, ev_p5, ev_p6, ev_p12, ev_p18, ev_p30, ev_neg, ev_ltI, ev_ltS, ev_leI, ev_leS, ev_gt, ev_ge, ev_eqI, ev_eqS, ev_neI, ev_neS, ev_neB, ev_eqB, ev_is, ev_isnot, ev_ixT, ev_ixS, ev_ixR, ev_ixL, ev_ixK, ev_getL, ev_getM, ev_gL, ev_gM, ev_at0, ev_at1, ev_at2, ev_at3, ev_at4, ev_lenS, ev_lenR, ev_lenT, ev_lenL, ev_lenO, ev_lenD, ev_abs, ev_min2, ev_max2, ev_intI, ev_intB, ev_set, ev_fc, ev_setset, ev_last, ev_appk, ev_app0, ev_setk, ev_set0, ev_assoc, ev_lapp, ev_lappA, ev_sl, ev_nopart, ev_part, ev_ptK, ev_slT, ev_slS, ev_slR, ev_slK, ev_tyN, ev_tyB, ev_tyI, ev_tyS, ev_tyT, ev_tyL, ev_tyR, ev_tyRL, ev_isi, ev_isi1, ev_isi2, ev_isi3, ev_isi4, ev_isi5, ev_isiT, ev_isi2K, ev_isTy, ev_list, ev_listK, ev_tuple, ev_tupK, ev_getST, ev_getSR, ev_getSL, ev_all, ev_allK, ev_eqXI, ev_eqXS, ev_neXI, ev_neXS, ev_neXB, ev_eqXB, ev_eqXR, ev_neXR, ev_nil2, ev_eqK, ev_neK, ev_meth, ev_meth0, ev_mth1, ev_mth2, ev_mth3, ev_append, ev_m0, ev_m0K, ev_str, ev_for, ev_miR1, ev_rg1K, ev_miL, ev_liK, ev_miT, ev_tiK, ev_lc, ev_wipe0, ev_wipeS, ev_yes, ev_lenSet, ev_lenSetK, ev_listR, ev_lrK, ev_put2, ev_p2A, ev_p2K, ev_p2E, ev_put1, ev_pt1, ev_addXI, ev_addXB, ev_addXS, ev_addXT, ev_addXL, ev_subXI, ev_subXB, ev_mulXI, ev_mulXB, ev_mulXL, ev_negXI, ev_negXB, ev_strXI, ev_strXB, List.getElem?_cons_zero, List.getElem?_cons_succ, List.set_cons_zero, List.set_cons_succ, List.length_cons, List.length_nil, List.cons_append, List.nil_append, if_true, if_false, Bool.false_eq_true, Bool.true_eq_false, reduceIte, Bool.not_true, Bool.not_false, Bool.and_true, Bool.true_and, Bool.and_false, Bool.false_and, Bool.or_true, Bool.true_or, Bool.or_false, Bool.false_or, decide_eq_true_eq, Nat.reduceAdd, Nat.reduceLeDiff, Nat.zero_add, Int.reduceLT, Int.reduceLE, Int.reduceEq, Int.reduceNeg, Nat.reduceEqDiff, and_self, and_true, true_and, decide_true, decide_false, eq_self, ite_true, ite_false, Int.reduceSub, Int.reduceAdd, Int.cast_ofNat_Int, Int.natCast_add, Int.cast_ofNat_Int, Nat.reduceSub, Nat.add_assoc, String.reduceBEq, String.reduceEq, Bool.or_not_self, beq_self_eq_true, e, g]
theorem hR2_ev {st : Sto} {b V R N : Nat} {vals : List Int} {rows : List A} {ns : List Int} {i j : Nat} {S : Sto} {wild v : Int} {x1 x2 x3 x6 x7 x8 x9 x10 x11 x12 : A} {y14 : Option A} (hb : b < st.length) (hj : j ≤ 70) (h : HI st b V R N vals rows ns i j S) (hv : v ∈ vals) :
    ∃ v' S', v' ∈ vals ∧ hR2 [some (.ref b), some x1, some x2, some x3, some (.int wild), some (.ref V), some x6, some x7, some x8, some x9, some x10, some x11, some x12, some (.int v), y14] S = .fl (.nx [some (.ref b), some x1, some x2, some x3, some (.int wild), some (.ref V), some x6, some x7, some x8, some x9, some x10, some x11, some x12, some (.int v'), y14]) S' ∧ HI st b V R N vals rows ns i j S' := by
  unfold hR2
  by_cases hw : wild = 0
  · obtain ⟨r, S1, e1, r0, r1, h1⟩ := h.take (m := 2) hb (by decide) (by decide)
    by_cases hr : r = 0
    · have V1 := h1.v
      have nl : 0 < vals.length := List.length_pos_iff.mpr h.vs.1
      obtain ⟨r3, S3, e3, r30, r31, h3⟩ := h1.take (m := ((vals.map A.int).length : Nat)) hb (by rw [List.length_map]; omega) (by rw [List.length_map]; have := h.vl; omega)
      rw [List.length_map] at r31
      obtain ⟨w, mw, gw, _⟩ := pickI r30 r31
      have V3 := h3.v
      refine ⟨w, S3, mw, ?_, h3⟩
      simp only [ev_bok, ev_bno, ev_bex, ev_tok, ev_tno, ev_tex, ev_nnx, ev_nrt, ev_nbk, ev_nct, ev_nex, ev_nno, ev_frt, ev_fnx, ev_fex, ev_xok, ev_lsome, ev_lnone, ev_seq, ev_if, ev_ret, ev_retN, ev_drop, ev_nop, ev_brk, ev_cont, ev_asgN, ev_asgT, ev_asgO, ev_mgTup, ev_mgN, ev_mgC, ev_mg0, ev_putL, ev_putO, ev_var, ev_vr, ev_c, ev_op, ev_un, ev_test, ev_tb, ev_notT, ev_andT, ev_orT, ev_ifE, ev_not, ev_nb, ev_and, ev_andK, ev_or, ev_orK, ev_chain, ev_chK, ev_nil, ev_cons, ev_tup, ev_lst, ev_new, ev_call, ev_cb, ev_size, ev_addI, ev_addS, ev_addT, ev_addL, ev_catO, ev_sub, ev_mul, ev_div, ev_mod, ev_p5, ev_p6, ev_p12, ev_p18, ev_p30, ev_neg, ev_ltI, ev_ltS, ev_leI, ev_leS, ev_gt, ev_ge, ev_eqI, ev_eqS, ev_neI, ev_neS, ev_neB, ev_eqB, ev_is, ev_isnot, ev_ixT, ev_ixS, ev_ixR, ev_ixL, ev_ixK, ev_getL, ev_getM, ev_gL, ev_gM, ev_at0, ev_at1, ev_at2, ev_at3, ev_at4, ev_lenS, ev_lenR, ev_lenT, ev_lenL, ev_lenO, ev_lenD, ev_abs, ev_min2, ev_max2, ev_intI, ev_intB, ev_set, ev_fc, ev_setset, ev_last, ev_appk, ev_app0, ev_setk, ev_set0, ev_assoc, ev_lapp, ev_lappA, ev_sl, ev_nopart, ev_part, ev_ptK, ev_slT, ev_slS, ev_slR, ev_slK, ev_tyN, ev_tyB, ev_tyI, ev_tyS, ev_tyT, ev_tyL, ev_tyR, ev_tyRL, ev_isi, ev_isi1, ev_isi2, ev_isi3, ev_isi4, ev_isi5, ev_isiT, ev_isi2K, ev_isTy, ev_list, ev_listK, ev_tuple, ev_tupK, ev_getST, ev_getSR, ev_getSL, ev_all, ev_allK, ev_eqXI, ev_eqXS, ev_neXI, ev_neXS, ev_neXB, ev_eqXB, ev_eqXR, ev_neXR, ev_nil2, ev_eqK, ev_neK, ev_meth, ev_meth0, ev_mth1, ev_mth2, ev_mth3, ev_append, ev_m0, ev_m0K, ev_str, ev_for, ev_miR1, ev_rg1K, ev_miL, ev_liK, ev_miT, ev_tiK, ev_lc, ev_wipe0, ev_wipeS, ev_yes, ev_lenSet, ev_lenSetK, ev_listR, ev_lrK, ev_put2, ev_p2A, ev_p2K, ev_p2E, ev_put1, ev_pt1, ev_addXI, ev_addXB, ev_addXS, ev_addXT, ev_addXL, ev_subXI, ev_subXB, ev_mulXI, ev_mulXB, ev_mulXL, ev_negXI, ev_negXB, ev_strXI, ev_strXB, List.getElem?_cons_zero, List.getElem?_cons_succ, List.set_cons_zero, List.set_cons_succ, List.length_cons, List.length_nil, List.cons_append, List.nil_append, if_true, if_false, Bool.false_eq_true, Bool.true_eq_false, reduceIte, Bool.not_true, Bool.not_false, Bool.and_true, Bool.true_and, Bool.and_false, Bool.false_and, Bool.or_true, Bool.true_or, Bool.or_false, Bool.false_or, decide_eq_true_eq, Nat.reduceAdd, Nat.reduceLeDiff, Nat.zero_add, Int.reduceLT, Int.reduceLE, Int.reduceEq, Int.reduceNeg, Nat.reduceEqDiff, and_self, and_true, true_and, decide_true, decide_false, eq_self, ite_true, ite_false, Int.reduceSub, Int.reduceAdd, Int.cast_ofNat_Int, Int.natCast_add, Int.cast_ofNat_Int, Nat.reduceSub, Nat.add_assoc, String.reduceBEq, String.reduceEq, Bool.or_not_self, beq_self_eq_true, hw, e1, hr, V1, e3, V3, gw]
    · refine ⟨v, S1, hv, ?_, h1⟩
      simp only [ev_bok, ev_bno, ev_bex, ev_tok, ev_tno, ev_tex, ev_nnx, ev_nrt, ev_nbk, ev_nct, ev_nex, ev_nno, ev_frt, ev_fnx, ev_fex, ev_xok, ev_lsome, ev_lnone, ev_seq, ev_if, ev_ret, ev_retN, ev_drop, ev_nop, ev_brk, ev_cont, ev_asgN, ev_asgT, ev_asgO, ev_mgTup, ev_mgN, ev_mgC, ev_mg0, ev_putL, ev_putO, ev_var, ev_vr, ev_c, ev_op, ev_un, ev_test, ev_tb, ev_notT, ev_andT, ev_orT, ev_ifE, ev_not, ev_nb, ev_and, ev_andK, ev_or, ev_orK, ev_chain, ev_chK, ev_nil, ev_cons, ev_tup, ev_lst, ev_new, ev_call, ev_cb, ev_size, ev_addI, ev_addS, ev_addT, ev_addL, ev_catO, ev_sub, ev_mul, ev_div, ev_mod, ev_p5, ev_p6, ev_p12, ev_p18, ev_p30, ev_neg, ev_ltI, ev_ltS, ev_leI, ev_leS, ev_gt, ev_ge, ev_eqI, ev_eqS, ev_neI, ev_neS, ev_neB, ev_eqB, ev_is, ev_isnot, ev_ixT, ev_ixS, ev_ixR, ev_ixL, ev_ixK, ev_getL, ev_getM, ev_gL, ev_gM, ev_at0, ev_at1, ev_at2, ev_at3, ev_at4, ev_lenS, ev_lenR, ev_lenT, ev_lenL, ev_lenO, ev_lenD, ev_abs, ev_min2, ev_max2, ev_intI, ev_intB, ev_set, ev_fc, ev_setset, ev_last, ev_appk, ev_app0, ev_setk, ev_set0, ev_assoc, ev_lapp, ev_lappA, ev_sl, ev_nopart, ev_part, ev_ptK, ev_slT, ev_slS, ev_slR, ev_slK, ev_tyN, ev_tyB, ev_tyI, ev_tyS, ev_tyT, ev_tyL, ev_tyR, ev_tyRL, ev_isi, ev_isi1, ev_isi2, ev_isi3, ev_isi4, ev_isi5, ev_isiT, ev_isi2K, ev_isTy, ev_list, ev_listK, ev_tuple, ev_tupK, ev_getST, ev_getSR, ev_getSL, ev_all, ev_allK, ev_eqXI, ev_eqXS, ev_neXI, ev_neXS, ev_neXB, ev_eqXB, ev_eqXR, ev_neXR, ev_nil2, ev_eqK, ev_neK, ev_meth, ev_meth0, ev_mth1, ev_mth2, ev_mth3, ev_append, ev_m0, ev_m0K, ev_str, ev_for, ev_miR1, ev_rg1K, ev_miL, ev_liK, ev_miT, ev_tiK, ev_lc, ev_wipe0, ev_wipeS, ev_yes, ev_lenSet, ev_lenSetK, ev_listR, ev_lrK, ev_put2, ev_p2A, ev_p2K, ev_p2E, ev_put1, ev_pt1, ev_addXI, ev_addXB, ev_addXS, ev_addXT, ev_addXL, ev_subXI, ev_subXB, ev_mulXI, ev_mulXB, ev_mulXL, ev_negXI, ev_negXB, ev_strXI, ev_strXB, List.getElem?_cons_zero, List.getElem?_cons_succ, List.set_cons_zero, List.set_cons_succ, List.length_cons, List.length_nil, List.cons_append, List.nil_append, if_true, if_false, Bool.false_eq_true, Bool.true_eq_false, reduceIte, Bool.not_true, Bool.not_false, Bool.and_true, Bool.true_and, Bool.and_false, Bool.false_and, Bool.or_true, Bool.true_or, Bool.or_false, Bool.false_or, decide_eq_true_eq, Nat.reduceAdd, Nat.reduceLeDiff, Nat.zero_add, Int.reduceLT, Int.reduceLE, Int.reduceEq, Int.reduceNeg, Nat.reduceEqDiff, and_self, and_true, true_and, decide_true, decide_false, eq_self, ite_true, ite_false, Int.reduceSub, Int.reduceAdd, Int.cast_ofNat_Int, Int.natCast_add, Int.cast_ofNat_Int, Nat.reduceSub, Nat.add_assoc, String.reduceBEq, String.reduceEq, Bool.or_not_self, beq_self_eq_true, hw, e1, hr, decide_false]
  · refine ⟨v, S, hv, ?_, h⟩
    simp only [ev_bok, ev_bno, ev_bex, ev_tok, ev_tno, ev_tex, ev_nnx, ev_nrt, ev_nbk, ev_nct, ev_nex, ev_nno, ev_frt, ev_fnx, ev_fex, ev_xok, ev_lsome, ev_lnone, ev_seq, ev_if, ev_ret, ev_retN, ev_drop, ev_nop, ev_brk, ev_cont, ev_asgN, ev_asgT, ev_asgO, ev_mgTup, ev_mgN, ev_mgC, ev_mg0, ev_putL, ev_putO, ev_var, ev_vr, ev_c, ev_op, ev_un, ev_test, ev_tb, ev_notT, ev_andT, ev_orT, ev_ifE, ev_not, ev_nb, ev_and, ev_andK, ev_or, ev_orK, ev_chain, ev_chK, ev_nil, ev_cons, ev_tup, ev_lst, ev_new, ev_call, ev_cb, ev_size, ev_addI, ev_addS, ev_addT, ev_addL, ev_catO, ev_sub, ev_mul, ev_div, ev_mod, ev_p5, ev_p6, ev_p12, ev_p18, ev_p30, ev_neg, ev_ltI, ev_ltS, ev_leI, ev_leS, ev_gt, ev_ge, ev_eqI, ev_eqS, ev_neI, ev_neS, ev_neB, ev_eqB, ev_is, ev_isnot, ev_ixT, ev_ixS, ev_ixR, ev_ixL, ev_ixK, ev_getL, ev_getM, ev_gL, ev_gM, ev_at0, ev_at1, ev_at2, ev_at3, ev_at4, ev_lenS, ev_lenR, ev_lenT, ev_lenL, ev_lenO, ev_lenD, ev_abs, ev_min2, ev_max2, ev_intI, ev_intB, ev_set, ev_fc, ev_setset, ev_last, ev_appk, ev_app0, ev_setk, ev_set0, ev_assoc, ev_lapp, ev_lappA, ev_sl, ev_nopart, ev_part, ev_ptK, ev_slT, ev_slS, ev_slR, ev_slK, ev_tyN, ev_tyB, ev_tyI, ev_tyS, ev_tyT, ev_tyL, ev_tyR, ev_tyRL, ev_isi, ev_isi1, ev_isi2, ev_isi3, ev_isi4, ev_isi5, ev_isiT, ev_isi2K, ev_isTy, ev_list, ev_listK, ev_tuple, ev_tupK, ev_getST, ev_getSR, ev_getSL, ev_all, ev_allK, ev_eqXI, ev_eqXS, ev_neXI, ev_neXS, ev_neXB, ev_eqXB, ev_eqXR, ev_neXR, ev_nil2, ev_eqK, ev_neK, ev_meth, ev_meth0, ev_mth1, ev_mth2, ev_mth3, ev_append, ev_m0, ev_m0K, ev_str, ev_for, ev_miR1, ev_rg1K, ev_miL, ev_liK, ev_miT, ev_tiK, ev_lc, ev_wipe0, ev_wipeS, ev_yes, ev_lenSet, ev_lenSetK, ev_listR, ev_lrK, ev_put2, ev_p2A, ev_p2K, ev_p2E, ev_put1, ev_pt1, ev_addXI, ev_addXB, ev_addXS, ev_addXT, ev_addXL, ev_subXI, ev_subXB, ev_mulXI, ev_mulXB, ev_mulXL, ev_negXI, ev_negXB, ev_strXI, ev_strXB, List.getElem?_cons_zero, List.getElem?_cons_succ, List.set_cons_zero, List.set_cons_succ, List.length_cons, List.length_nil, List.cons_append, List.nil_append, if_true, if_false, Bool.false_eq_true, Bool.true_eq_false, reduceIte, Bool.not_true, Bool.not_false, Bool.and_true, Bool.true_and, Bool.and_false, Bool.false_and, Bool.or_true, Bool.true_or, Bool.or_false, Bool.false_or, decide_eq_true_eq, Nat.reduceAdd, Nat.reduceLeDiff, Nat.zero_add, Int.reduceLT, Int.reduceLE, Int.reduceEq, Int.reduceNeg, Nat.reduceEqDiff, and_self, and_true, true_and, decide_true, decide_false, eq_self, ite_true, ite_false, Int.reduceSub, Int.reduceAdd, Int.cast_ofNat_Int, Int.natCast_add, Int.cast_ofNat_Int, Nat.reduceSub, Nat.add_assoc, String.reduceBEq, String.reduceEq, Bool.or_not_self, beq_self_eq_true, hw, decide_false]
theorem hR3_ev {x0 x1 x2 x3 x4 x5 : A} {R : Nat} {x7 x8 x9 x10 x11 x12 x13 : A} {y14 : Option A} {S : Sto} {xs : List A} (e2 : S[R]? = some (.lst xs)) (h : xs.length < 16777216) :
    hR3 [some x0, some x1, some x2, some x3, some x4, some x5, some (.ref R), some x7, some x8, some x9, some x10, some x11, some x12, some x13, y14] S = .fl (.nx [some x0, some x1, some x2, some x3, some x4, some x5, some (.ref R), some x7, some x8, some x9, some x10, some x11, some x12, some x13, y14]) (S.set R (.lst (xs ++ [.tup [x12, .str "read", x13, x10, x11]]))) := by
  have ap : ∀ a, oAppend xs [a] = some (.non, xs ++ [a]) := fun a => appS h
  unfold hR3
  simp only [ev_bok, ev_bno, ev_bex, ev_tok, ev_tno, ev_tex, ev_nnx, ev_nrt, ev_nbk, ev_nct, ev_nex, ev_nno, ev_frt, ev_fnx, ev_fex, ev_xok, ev_lsome, ev_lnone, ev_seq, ev_if, ev_ret, ev_retN, ev_drop, ev_nop, ev_brk, ev_cont, ev_asgN, ev_asgT, ev_asgO, ev_mgTup, ev_mgN, ev_mgC, ev_mg0, ev_putL, ev_putO, ev_var, ev_vr, ev_c, ev_op, ev_un, ev_test, ev_tb, ev_notT, ev_andT, ev_orT, ev_ifE, ev_not, ev_nb, ev_and, ev_andK, ev_or, ev_orK, ev_chain, ev_chK, ev_nil, ev_cons, ev_tup, ev_lst, ev_new, ev_call, ev_cb, ev_size, ev_addI, ev_addS, ev_addT, ev_addL, ev_catO, ev_sub, ev_mul, ev_div, ev_mod, ev_p5, ev_p6, ev_p12, ev_p18, ev_p30, ev_neg, ev_ltI, ev_ltS, ev_leI, ev_leS, ev_gt, ev_ge, ev_eqI, ev_eqS, ev_neI, ev_neS, ev_neB, ev_eqB, ev_is, ev_isnot, ev_ixT, ev_ixS, ev_ixR, ev_ixL, ev_ixK, ev_getL, ev_getM, ev_gL, ev_gM, ev_at0, ev_at1, ev_at2, ev_at3, ev_at4, ev_lenS, ev_lenR, ev_lenT, ev_lenL, ev_lenO, ev_lenD, ev_abs, ev_min2, ev_max2, ev_intI, ev_intB, ev_set, ev_fc, ev_setset, ev_last, ev_appk, ev_app0, ev_setk, ev_set0, ev_assoc, ev_lapp, ev_lappA, ev_sl, ev_nopart, ev_part, ev_ptK, ev_slT, ev_slS, ev_slR, ev_slK, ev_tyN, ev_tyB, ev_tyI, ev_tyS, ev_tyT, ev_tyL, ev_tyR, ev_tyRL, ev_isi, ev_isi1, ev_isi2, ev_isi3, ev_isi4, ev_isi5, ev_isiT, ev_isi2K, ev_isTy, ev_list, ev_listK, ev_tuple, ev_tupK, ev_getST, ev_getSR, ev_getSL, ev_all, ev_allK, ev_eqXI, ev_eqXS, ev_neXI, ev_neXS, ev_neXB, ev_eqXB, ev_eqXR, ev_neXR, ev_nil2, ev_eqK, ev_neK, ev_meth, ev_meth0, ev_mth1, ev_mth2, ev_mth3, ev_m0, ev_m0K, ev_str, ev_for, ev_miR1, ev_rg1K, ev_miL, ev_liK, ev_miT, ev_tiK, ev_lc, ev_wipe0, ev_wipeS, ev_yes, ev_lenSet, ev_lenSetK, ev_listR, ev_lrK, ev_put2, ev_p2A, ev_p2K, ev_p2E, ev_put1, ev_pt1, ev_addXI, ev_addXB, ev_addXS, ev_addXT, ev_addXL, ev_subXI, ev_subXB, ev_mulXI, ev_mulXB, ev_mulXL, ev_negXI, ev_negXB, ev_strXI, ev_strXB, List.getElem?_cons_zero, List.getElem?_cons_succ, List.set_cons_zero, List.set_cons_succ, List.length_cons, List.length_nil, List.cons_append, List.nil_append, if_true, if_false, Bool.false_eq_true, Bool.true_eq_false, reduceIte, Bool.not_true, Bool.not_false, Bool.and_true, Bool.true_and, Bool.and_false, Bool.false_and, Bool.or_true, Bool.true_or, Bool.or_false, Bool.false_or, decide_eq_true_eq, Nat.reduceAdd, Nat.reduceLeDiff, Nat.zero_add, Int.reduceLT, Int.reduceLE, Int.reduceEq, Int.reduceNeg, Nat.reduceEqDiff, and_self, and_true, true_and, decide_true, decide_false, eq_self, ite_true, ite_false, Int.reduceSub, Int.reduceAdd, Int.cast_ofNat_Int, Int.natCast_add, Int.cast_ofNat_Int, Nat.reduceSub, Nat.add_assoc, String.reduceBEq, String.reduceEq, Bool.or_not_self, beq_self_eq_true, e2, ap]
theorem lastI {vals : List Int} (h : vals ≠ []) : ∃ v ∈ vals, atI (vals.map A.int) (-1) = some (.int v) := by
  refine ⟨vals.getLast h, List.getLast_mem h, ?_⟩
  have : vals.map A.int = (vals.dropLast.map A.int) ++ [A.int (vals.getLast h)] := by
    conv => lhs; rw [← List.dropLast_concat_getLast h]
    rw [List.map_append]
    rfl
  rw [this]
  exact atI_end
noncomputable def hIf : MS := (sIf (mTest (mOp oEqX (mCall 2 m__law_take (mCons (mVar 0) (mCons (mC (.int 2)) mNil))) (mC (.int 0)))) (sSeq hW1 hW2) (sSeq hR1 (sSeq hR2 hR3)))
theorem hIf_ev {st : Sto} {b V R N : Nat} {vals : List Int} {rows : List A} {ns : List Int} {i : Nat} {S : Sto} {T wild sta en num : Int} {x1 x2 x3 x9 : A} {y13 y14 : Option A} (hb : b < st.length) (hi : i ≤ 60) (hT : T = 0 + (i : Int)) (rowOk : ∀ (k : Str) (v : Int), (k = "read" ∨ k = "write") → 0 ≤ v → v ≤ 999 → RowG (.tup [.int num, .str k, .int v, .int sta, .int en])) (h : HI st b V R N vals rows ns i (i + 1) S) (vl : vals.length ≤ i + 1) :
    ∃ vals' rows' z13 S', hIf [some (.ref b), some x1, some x2, some x3, some (.int wild), some (.ref V), some (.ref R), some (.ref N), some (.int T), some x9, some (.int sta), some (.int en), some (.int num), y13, y14] S = .fl (.nx [some (.ref b), some x1, some x2, some x3, some (.int wild), some (.ref V), some (.ref R), some (.ref N), some (.int T), some x9, some (.int sta), some (.int en), some (.int num), z13, y14]) S' ∧ HI st b V R N vals' rows' ns (i + 1) (i + 1) S' := by
  have c3 : cMul T 100 = true := cMul_r (by decide)
  obtain ⟨r5, S5, e5, r50, r51, h5⟩ := h.take (m := 2) hb (by decide) (by decide)
  have V5 := h5.v
  have R5 := h5.r
  have vl5 : (vals.map A.int).length < 16777216 := by rw [List.length_map]; omega
  have rl5 : rows.length < 16777216 := by have := h5.rs.1; omega
  unfold hIf
  by_cases hw : r5 = 0
  · have vm : 0 ≤ (T * 100 + 11) % 999 ∧ (T * 100 + 11) % 999 < 999 := ⟨Int.emod_nonneg _ (by decide), Int.emod_lt_of_pos _ (by decide)⟩
    obtain ⟨v, hv⟩ : ∃ v, v = 1 + (T * 100 + 11) % 999 := ⟨_, rfl⟩
    have h6 := h5.putV (vals' := vals ++ [v]) hb ⟨by simp, fun x hx => by
      rcases List.mem_append.mp hx with hx | hx
      · exact h.vs.2 x hx
      · rw [List.mem_singleton.mp hx]; omega⟩ (by rw [List.length_append, List.length_singleton]; omega)
    have V6 := h6.v
    rw [List.map_append, List.map_cons, List.map_nil] at h6 V6
    have h7 := h6.next hb (rowOk "write" v (.inr rfl) (by omega) (by omega))
    have R6 := h6.r
    refine ⟨_, _, y13, _, ?_, h7⟩
    simp only [ev_bok, ev_bno, ev_bex, ev_tok, ev_tno, ev_tex, ev_nnx, ev_nrt, ev_nbk, ev_nct, ev_nex, ev_nno, ev_frt, ev_fnx, ev_fex, ev_xok, ev_lsome, ev_lnone, ev_seq, ev_if, ev_ret, ev_retN, ev_drop, ev_nop, ev_brk, ev_cont, ev_asgN, ev_asgT, ev_asgO, ev_mgTup, ev_mgN, ev_mgC, ev_mg0, ev_putL, ev_putO, ev_var, ev_vr, ev_c, ev_op, ev_un, ev_test, ev_tb, ev_notT, ev_andT, ev_orT, ev_ifE, ev_not, ev_nb, ev_and, ev_andK, ev_or, ev_orK, ev_chain, ev_chK, ev_nil, ev_cons, ev_tup, ev_lst, ev_new, ev_call, ev_cb, ev_size, ev_addI, ev_addS, ev_addT, ev_addL, ev_catO, ev_sub, ev_mul, ev_div, ev_mod, ev_p5, ev_p6, ev_p12, ev_p18, ev_p30, ev_neg, ev_ltI, ev_ltS, ev_leI, ev_leS, ev_gt, ev_ge, ev_eqI, ev_eqS, ev_neI, ev_neS, ev_neB, ev_eqB, ev_is, ev_isnot, ev_ixT, ev_ixS, ev_ixR, ev_ixL, ev_ixK, ev_getL, ev_getM, ev_gL, ev_gM, ev_at0, ev_at1, ev_at2, ev_at3, ev_at4, ev_lenS, ev_lenR, ev_lenT, ev_lenL, ev_lenO, ev_lenD, ev_abs, ev_min2, ev_max2, ev_intI, ev_intB, ev_set, ev_fc, ev_setset, ev_last, ev_appk, ev_app0, ev_setk, ev_set0, ev_assoc, ev_lapp, ev_lappA, ev_sl, ev_nopart, ev_part, ev_ptK, ev_slT, ev_slS, ev_slR, ev_slK, ev_tyN, ev_tyB, ev_tyI, ev_tyS, ev_tyT, ev_tyL, ev_tyR, ev_tyRL, ev_isi, ev_isi1, ev_isi2, ev_isi3, ev_isi4, ev_isi5, ev_isiT, ev_isi2K, ev_isTy, ev_list, ev_listK, ev_tuple, ev_tupK, ev_getST, ev_getSR, ev_getSL, ev_all, ev_allK, ev_eqXI, ev_eqXS, ev_neXI, ev_neXS, ev_neXB, ev_eqXB, ev_eqXR, ev_neXR, ev_nil2, ev_eqK, ev_neK, ev_meth, ev_meth0, ev_mth1, ev_mth2, ev_mth3, ev_append, ev_m0, ev_m0K, ev_str, ev_for, ev_miR1, ev_rg1K, ev_miL, ev_liK, ev_miT, ev_tiK, ev_lc, ev_wipe0, ev_wipeS, ev_yes, ev_lenSet, ev_lenSetK, ev_listR, ev_lrK, ev_put2, ev_p2A, ev_p2K, ev_p2E, ev_put1, ev_pt1, ev_addXI, ev_addXB, ev_addXS, ev_addXT, ev_addXL, ev_subXI, ev_subXB, ev_mulXI, ev_mulXB, ev_mulXL, ev_negXI, ev_negXB, ev_strXI, ev_strXB, List.getElem?_cons_zero, List.getElem?_cons_succ, List.set_cons_zero, List.set_cons_succ, List.length_cons, List.length_nil, List.cons_append, List.nil_append, if_true, if_false, Bool.false_eq_true, Bool.true_eq_false, reduceIte, Bool.not_true, Bool.not_false, Bool.and_true, Bool.true_and, Bool.and_false, Bool.false_and, Bool.or_true, Bool.true_or, Bool.or_false, Bool.false_or, decide_eq_true_eq, Nat.reduceAdd, Nat.reduceLeDiff, Nat.zero_add, Int.reduceLT, Int.reduceLE, Int.reduceEq, Int.reduceNeg, Nat.reduceEqDiff, and_self, and_true, true_and, decide_true, decide_false, eq_self, ite_true, ite_false, Int.reduceSub, Int.reduceAdd, Int.cast_ofNat_Int, Int.natCast_add, Int.cast_ofNat_Int, Nat.reduceSub, Nat.add_assoc, String.reduceBEq, String.reduceEq, Bool.or_not_self, beq_self_eq_true, e5, hw]
    rw [hW1_ev c3 V5 vl5 hv]
    exact hW2_ev V6 R6 rl5
  · obtain ⟨v, mv, gv⟩ := lastI h.vs.1
    obtain ⟨v', S6, mv', e6, h6⟩ := hR2_ev (x1 := x1) (x2 := x2) (x3 := x3) (x6 := .ref R) (x7 := .ref N) (x8 := .int T) (x9 := x9) (x10 := .int sta) (x11 := .int en) (x12 := .int num) (y14 := y14) (wild := wild) hb (by omega) h5 mv
    have h7 := h6.next hb (rowOk "read" v' (.inl rfl) (h.vs.2 v' mv').1 (h.vs.2 v' mv').2)
    refine ⟨_, _, some (.int v'), _, ?_, h7⟩
    simp only [ev_bok, ev_bno, ev_bex, ev_tok, ev_tno, ev_tex, ev_nnx, ev_nrt, ev_nbk, ev_nct, ev_nex, ev_nno, ev_frt, ev_fnx, ev_fex, ev_xok, ev_lsome, ev_lnone, ev_seq, ev_if, ev_ret, ev_retN, ev_drop, ev_nop, ev_brk, ev_cont, ev_asgN, ev_asgT, ev_asgO, ev_mgTup, ev_mgN, ev_mgC, ev_mg0, ev_putL, ev_putO, ev_var, ev_vr, ev_c, ev_op, ev_un, ev_test, ev_tb, ev_notT, ev_andT, ev_orT, ev_ifE, ev_not, ev_nb, ev_and, ev_andK, ev_or, ev_orK, ev_chain, ev_chK, ev_nil, ev_cons, ev_tup, ev_lst, ev_new, ev_call, ev_cb, ev_size, ev_addI, ev_addS, ev_addT, ev_addL, ev_catO, ev_sub, ev_mul, ev_div, ev_mod, ev_p5, ev_p6, ev_p12, ev_p18, ev_p30, ev_neg, ev_ltI, ev_ltS, ev_leI, ev_leS, ev_gt, ev_ge, ev_eqI, ev_eqS, ev_neI, ev_neS, ev_neB, ev_eqB, ev_is, ev_isnot, ev_ixT, ev_ixS, ev_ixR, ev_ixL, ev_ixK, ev_getL, ev_getM, ev_gL, ev_gM, ev_at0, ev_at1, ev_at2, ev_at3, ev_at4, ev_lenS, ev_lenR, ev_lenT, ev_lenL, ev_lenO, ev_lenD, ev_abs, ev_min2, ev_max2, ev_intI, ev_intB, ev_set, ev_fc, ev_setset, ev_last, ev_appk, ev_app0, ev_setk, ev_set0, ev_assoc, ev_lapp, ev_lappA, ev_sl, ev_nopart, ev_part, ev_ptK, ev_slT, ev_slS, ev_slR, ev_slK, ev_tyN, ev_tyB, ev_tyI, ev_tyS, ev_tyT, ev_tyL, ev_tyR, ev_tyRL, ev_isi, ev_isi1, ev_isi2, ev_isi3, ev_isi4, ev_isi5, ev_isiT, ev_isi2K, ev_isTy, ev_list, ev_listK, ev_tuple, ev_tupK, ev_getST, ev_getSR, ev_getSL, ev_all, ev_allK, ev_eqXI, ev_eqXS, ev_neXI, ev_neXS, ev_neXB, ev_eqXB, ev_eqXR, ev_neXR, ev_nil2, ev_eqK, ev_neK, ev_meth, ev_meth0, ev_mth1, ev_mth2, ev_mth3, ev_append, ev_m0, ev_m0K, ev_str, ev_for, ev_miR1, ev_rg1K, ev_miL, ev_liK, ev_miT, ev_tiK, ev_lc, ev_wipe0, ev_wipeS, ev_yes, ev_lenSet, ev_lenSetK, ev_listR, ev_lrK, ev_put2, ev_p2A, ev_p2K, ev_p2E, ev_put1, ev_pt1, ev_addXI, ev_addXB, ev_addXS, ev_addXT, ev_addXL, ev_subXI, ev_subXB, ev_mulXI, ev_mulXB, ev_mulXL, ev_negXI, ev_negXB, ev_strXI, ev_strXB, List.getElem?_cons_zero, List.getElem?_cons_succ, List.set_cons_zero, List.set_cons_succ, List.length_cons, List.length_nil, List.cons_append, List.nil_append, if_true, if_false, Bool.false_eq_true, Bool.true_eq_false, reduceIte, Bool.not_true, Bool.not_false, Bool.and_true, Bool.true_and, Bool.and_false, Bool.false_and, Bool.or_true, Bool.true_or, Bool.or_false, Bool.false_or, decide_eq_true_eq, Nat.reduceAdd, Nat.reduceLeDiff, Nat.zero_add, Int.reduceLT, Int.reduceLE, Int.reduceEq, Int.reduceNeg, Nat.reduceEqDiff, and_self, and_true, true_and, decide_true, decide_false, eq_self, ite_true, ite_false, Int.reduceSub, Int.reduceAdd, Int.cast_ofNat_Int, Int.natCast_add, Int.cast_ofNat_Int, Nat.reduceSub, Nat.add_assoc, String.reduceBEq, String.reduceEq, Bool.or_not_self, beq_self_eq_true, e5, hw, decide_false]
    rw [hR1_ev V5 gv]
    simp only [ev_bok, ev_bno, ev_bex, ev_tok, ev_tno, ev_tex, ev_nnx, ev_nrt, ev_nbk, ev_nct, ev_nex, ev_nno, ev_frt, ev_fnx, ev_fex, ev_xok, ev_lsome, ev_lnone, ev_seq, ev_if, ev_ret, ev_retN, ev_drop, ev_nop, ev_brk, ev_cont, ev_asgN, ev_asgT, ev_asgO, ev_mgTup, ev_mgN, ev_mgC, ev_mg0, ev_putL, ev_putO, ev_var, ev_vr, ev_c, ev_op, ev_un, ev_test, ev_tb, ev_notT, ev_andT, ev_orT, ev_ifE, ev_not, ev_nb, ev_and, ev_andK, ev_or, ev_orK, ev_chain, ev_chK, ev_nil, ev_cons, ev_tup, ev_lst, ev_new, ev_call, ev_cb, ev_size, ev_addI, ev_addS, ev_addT, ev_addL, ev_catO, ev_sub, ev_mul, ev_div, ev_mod, ev_p5, ev_p6, ev_p12, ev_p18, ev_p30, ev_neg, ev_ltI, ev_ltS, ev_leI, ev_leS, ev_gt, ev_ge, ev_eqI, ev_eqS, ev_neI, ev_neS, ev_neB, ev_eqB, ev_is, ev_isnot, ev_ixT, ev_ixS, ev_ixR, ev_ixL, ev_ixK, ev_getL, ev_getM, ev_gL, ev_gM, ev_at0, ev_at1, ev_at2, ev_at3, ev_at4, ev_lenS, ev_lenR, ev_lenT, ev_lenL, ev_lenO, ev_lenD, ev_abs, ev_min2, ev_max2, ev_intI, ev_intB, ev_set, ev_fc, ev_setset, ev_last, ev_appk, ev_app0, ev_setk, ev_set0, ev_assoc, ev_lapp, ev_lappA, ev_sl, ev_nopart, ev_part, ev_ptK, ev_slT, ev_slS, ev_slR, ev_slK, ev_tyN, ev_tyB, ev_tyI, ev_tyS, ev_tyT, ev_tyL, ev_tyR, ev_tyRL, ev_isi, ev_isi1, ev_isi2, ev_isi3, ev_isi4, ev_isi5, ev_isiT, ev_isi2K, ev_isTy, ev_list, ev_listK, ev_tuple, ev_tupK, ev_getST, ev_getSR, ev_getSL, ev_all, ev_allK, ev_eqXI, ev_eqXS, ev_neXI, ev_neXS, ev_neXB, ev_eqXB, ev_eqXR, ev_neXR, ev_nil2, ev_eqK, ev_neK, ev_meth, ev_meth0, ev_mth1, ev_mth2, ev_mth3, ev_append, ev_m0, ev_m0K, ev_str, ev_for, ev_miR1, ev_rg1K, ev_miL, ev_liK, ev_miT, ev_tiK, ev_lc, ev_wipe0, ev_wipeS, ev_yes, ev_lenSet, ev_lenSetK, ev_listR, ev_lrK, ev_put2, ev_p2A, ev_p2K, ev_p2E, ev_put1, ev_pt1, ev_addXI, ev_addXB, ev_addXS, ev_addXT, ev_addXL, ev_subXI, ev_subXB, ev_mulXI, ev_mulXB, ev_mulXL, ev_negXI, ev_negXB, ev_strXI, ev_strXB, List.getElem?_cons_zero, List.getElem?_cons_succ, List.set_cons_zero, List.set_cons_succ, List.length_cons, List.length_nil, List.cons_append, List.nil_append, if_true, if_false, Bool.false_eq_true, Bool.true_eq_false, reduceIte, Bool.not_true, Bool.not_false, Bool.and_true, Bool.true_and, Bool.and_false, Bool.false_and, Bool.or_true, Bool.true_or, Bool.or_false, Bool.false_or, decide_eq_true_eq, Nat.reduceAdd, Nat.reduceLeDiff, Nat.zero_add, Int.reduceLT, Int.reduceLE, Int.reduceEq, Int.reduceNeg, Nat.reduceEqDiff, and_self, and_true, true_and, decide_true, decide_false, eq_self, ite_true, ite_false, Int.reduceSub, Int.reduceAdd, Int.cast_ofNat_Int, Int.natCast_add, Int.cast_ofNat_Int, Nat.reduceSub, Nat.add_assoc, String.reduceBEq, String.reduceEq, Bool.or_not_self, beq_self_eq_true, e6]
    exact hR3_ev h6.r rl5
theorem hstep {st : Sto} {b V R N : Nat} {vals : List Int} {rows : List A} {ns : List Int} {i : Nat} {S : Sto} {most many loose wild : Int} {y9 y10 y11 y12 y13 y14 : Option A} (hb : b < st.length) (hi : i ≤ 60) (hl1 : 1 ≤ loose) (hl2 : loose ≤ 40) (h : HI st b V R N vals rows ns i i S) :
    ∃ vals' rows' ns' z9 z10 z11 z12 z13 S', lb__law_history_2 [some (.ref b), some (.int most), some (.int many), some (.int loose), some (.int wild), some (.ref V), some (.ref R), some (.ref N), some (.int (0 + (i : Int))), y9, y10, y11, y12, y13, y14] S = .fl (.nx [some (.ref b), some (.int most), some (.int many), some (.int loose), some (.int wild), some (.ref V), some (.ref R), some (.ref N), some (.int (0 + (i : Int))), z9, z10, z11, z12, z13, y14]) S' ∧ HI st b V R N vals' rows' ns' (i + 1) (i + 1) S' := by
  have c1 : cMul 10 (0 + (i : Int)) = true := cMul_l (by decide)
  have c2 : cMul 10 loose = true := cMul_l (by decide)
  obtain ⟨r1, S1, e1, r10, r11, h1⟩ := h.take (m := 10 * loose) hb (by omega) (by omega)
  obtain ⟨r2, S2, e2, r20, r21, h2⟩ := h1.take (m := 10 * loose) hb (by omega) (by omega)
  have nl : 0 < ns.length := by have := h.nn.1; omega
  obtain ⟨r3, S3, e3, r30, r31, h3⟩ := h2.take (m := ((ns.map A.int).length : Nat)) hb (by rw [List.length_map]; omega) (by rw [List.length_map]; have := h.nn.1; omega)
  rw [List.length_map] at r31
  obtain ⟨num, mnum, _, gnum⟩ := pickI r30 r31
  have hk : r3.toNat < ns.length := by omega
  have pop : oPopAt (ns.map A.int) [.int r3] = some (.int num, (ns.eraseIdx r3.toNat).map A.int) := by
    rw [popAt_is r30 (by rw [List.length_map]; exact r31) (by rw [List.length_map]; have := h.nn.1; omega) (by rw [List.getElem?_map, gnum]; rfl), eraseA]
  have h4 := h3.popN hb hk
  have nb := h.nn.2 num mnum
  obtain ⟨S4, hS4⟩ : ∃ S4, S4 = S3.set N (.lst ((ns.eraseIdx r3.toNat).map A.int)) := ⟨_, rfl⟩
  rw [← hS4] at h4
  have g2N := h2.n
  have g3N := h3.n
  obtain ⟨start, hst, hst0, hst1⟩ : ∃ start, start = (if (10 * (0 + (i : Int)) + 1 - r1) > 0 then (10 * (0 + (i : Int)) + 1 - r1) else 0) ∧ 0 ≤ start ∧ start < 1000000 := ⟨_, rfl, by split <;> omega, by split <;> omega⟩
  have rowOk : ∀ (k : Str) (v : Int), (k = "read" ∨ k = "write") → 0 ≤ v → v ≤ 999 → RowG (.tup [.int num, .str k, .int v, .int start, .int (10 * (0 + (i : Int)) + 1 + 1 + r2)]) := fun k v hk h0 h9 => ⟨_, _, _, _, _, rfl, hk, by omega, by omega, by omega, by omega⟩
  have lbE : lb__law_history_2 = (sSeq (sAsg (mOp oAddX (mOp oMulX (mC (.int 10)) (mVar 8)) (mC (.int 1))) (mgName 9))
 (sSeq (sAsg (mCB oMax2 (mCons (mC (.int 0)) (mCons (mOp oSubX (mVar 9) (mCall 2 m__law_take (mCons (mVar 0) (mCons (mOp oMulX (mC (.int 10)) (mVar 3)) mNil)))) mNil))) (mgName 10))
 (sSeq (sAsg (mOp oAddX (mOp oAddX (mVar 9) (mC (.int 1))) (mCall 2 m__law_take (mCons (mVar 0) (mCons (mOp oMulX (mC (.int 10)) (mVar 3)) mNil)))) (mgName 11))
 (sSeq (sAsg (mMeth oPopAt (mVar 7) (mCons (mCall 2 m__law_take (mCons (mVar 0) (mCons (mCB oLen (mCons (mVar 7) mNil)) mNil))) mNil)) (mgName 12)) hIf)))) := rfl
  obtain ⟨vals', rows', z13, S', e, h9⟩ := hIf_ev (x1 := .int most) (x2 := .int many) (x3 := .int loose) (x9 := .int (10 * (0 + (i : Int)) + 1)) (y13 := y13) (y14 := y14) (wild := wild) hb hi rfl rowOk h4 h.vl
  refine ⟨vals', rows', _, some (.int (10 * (0 + (i : Int)) + 1)), some (.int start), some (.int (10 * (0 + (i : Int)) + 1 + 1 + r2)), some (.int num), z13, S', ?_, h9⟩
  rw [lbE]
  simp only [ev_bok, ev_bno, ev_bex, ev_tok, ev_tno, ev_tex, ev_nnx, ev_nrt, ev_nbk, ev_nct, ev_nex, ev_nno, ev_frt, ev_fnx, ev_fex, ev_xok, ev_lsome, ev_lnone, ev_seq, ev_if, ev_ret, ev_retN, ev_drop, ev_nop, ev_brk, ev_cont, ev_asgN, ev_asgT, ev_asgO, ev_mgTup, ev_mgN, ev_mgC, ev_mg0, ev_putL, ev_putO, ev_var, ev_vr, ev_c, ev_op, ev_un, ev_test, ev_tb, ev_notT, ev_andT, ev_orT, ev_ifE, ev_not, ev_nb, ev_and, ev_andK, ev_or, ev_orK, ev_chain, ev_chK, ev_nil, ev_cons, ev_tup, ev_lst, ev_new, ev_call, ev_cb, ev_size, ev_addI, ev_addS, ev_addT, ev_addL, ev_catO, ev_sub, ev_mul, ev_div, ev_mod, ev_p5, ev_p6, ev_p12, ev_p18, ev_p30, ev_neg, ev_ltI, ev_ltS, ev_leI, ev_leS, ev_gt, ev_ge, ev_eqI, ev_eqS, ev_neI, ev_neS, ev_neB, ev_eqB, ev_is, ev_isnot, ev_ixT, ev_ixS, ev_ixR, ev_ixL, ev_ixK, ev_getL, ev_getM, ev_gL, ev_gM, ev_at0, ev_at1, ev_at2, ev_at3, ev_at4, ev_lenS, ev_lenR, ev_lenT, ev_lenL, ev_lenO, ev_lenD, ev_abs, ev_min2, ev_max2, ev_intI, ev_intB, ev_set, ev_fc, ev_setset, ev_last, ev_appk, ev_app0, ev_setk, ev_set0, ev_assoc, ev_lapp, ev_lappA, ev_sl, ev_nopart, ev_part, ev_ptK, ev_slT, ev_slS, ev_slR, ev_slK, ev_tyN, ev_tyB, ev_tyI, ev_tyS, ev_tyT, ev_tyL, ev_tyR, ev_tyRL, ev_isi, ev_isi1, ev_isi2, ev_isi3, ev_isi4, ev_isi5, ev_isiT, ev_isi2K, ev_isTy, ev_list, ev_listK, ev_tuple, ev_tupK, ev_getST, ev_getSR, ev_getSL, ev_all, ev_allK, ev_eqXI, ev_eqXS, ev_neXI, ev_neXS, ev_neXB, ev_eqXB, ev_eqXR, ev_neXR, ev_nil2, ev_eqK, ev_neK, ev_meth, ev_meth0, ev_mth1, ev_mth2, ev_mth3, ev_append, ev_m0, ev_m0K, ev_str, ev_for, ev_miR1, ev_rg1K, ev_miL, ev_liK, ev_miT, ev_tiK, ev_lc, ev_wipe0, ev_wipeS, ev_yes, ev_lenSet, ev_lenSetK, ev_listR, ev_lrK, ev_put2, ev_p2A, ev_p2K, ev_p2E, ev_put1, ev_pt1, ev_addXI, ev_addXB, ev_addXS, ev_addXT, ev_addXL, ev_subXI, ev_subXB, ev_mulXI, ev_mulXB, ev_mulXL, ev_negXI, ev_negXB, ev_strXI, ev_strXB, List.getElem?_cons_zero, List.getElem?_cons_succ, List.set_cons_zero, List.set_cons_succ, List.length_cons, List.length_nil, List.cons_append, List.nil_append, if_true, if_false, Bool.false_eq_true, Bool.true_eq_false, reduceIte, Bool.not_true, Bool.not_false, Bool.and_true, Bool.true_and, Bool.and_false, Bool.false_and, Bool.or_true, Bool.true_or, Bool.or_false, Bool.false_or, decide_eq_true_eq, Nat.reduceAdd, Nat.reduceLeDiff, Nat.zero_add, Int.reduceLT, Int.reduceLE, Int.reduceEq, Int.reduceNeg, Nat.reduceEqDiff, and_self, and_true, true_and, decide_true, decide_false, eq_self, ite_true, ite_false, Int.reduceSub, Int.reduceAdd, Int.cast_ofNat_Int, Int.natCast_add, Int.cast_ofNat_Int, Nat.reduceSub, Nat.add_assoc, String.reduceBEq, String.reduceEq, Bool.or_not_self, beq_self_eq_true, c1, c2, e1, e2, e3, pop, g2N, g3N, ← hS4, ← hst]
  exact e

theorem rngA_ints (n : Nat) : rngA 0 n = ((List.range n).map fun i : Nat => (0 : Int) + (i : Int)).map A.int := by
  unfold rngA
  rw [List.map_map]
  rfl
theorem rngA_get {n i : Nat} {x : A} (h : (rngA 0 n)[i]? = some x) : x = .int (0 + (i : Int)) ∧ i < n := by
  unfold rngA at h
  rw [List.getElem?_map] at h
  obtain ⟨j, ej, rfl⟩ := Option.map_eq_some_iff.mp h
  obtain ⟨hj, rfl⟩ := List.getElem?_eq_some_iff.mp ej
  rw [List.length_range] at hj
  exact ⟨by rw [List.getElem_range], hj⟩
theorem rngA_len {n : Nat} : (rngA 0 n).length = n := by
  unfold rngA
  rw [List.length_map, List.length_range]
theorem hloop {st : Sto} {b V R N n : Nat} {vals : List Int} {rows : List A} {ns : List Int} {S : Sto} {most many loose wild : Int} (hb : b < st.length) (hn : n ≤ 60) (hl1 : 1 ≤ loose) (hl2 : loose ≤ 40) (h : HI st b V R N vals rows ns 0 0 S) :
    ∃ vals' rows' ns' z8 z9 z10 z11 z12 z13 S', forL okT (mgName 8) lb__law_history_2 (rngA 0 n) [some (.ref b), some (.int most), some (.int many), some (.int loose), some (.int wild), some (.ref V), some (.ref R), some (.ref N), none, none, none, none, none, none, none] S = .fl (.nx [some (.ref b), some (.int most), some (.int many), some (.int loose), some (.int wild), some (.ref V), some (.ref R), some (.ref N), z8, z9, z10, z11, z12, z13, none]) S' ∧ HI st b V R N vals' rows' ns' n n S' := by
  obtain ⟨e2, S', e, vals', rows', ns', z8, z9, z10, z11, z12, z13, rfl, hI⟩ := forL_inv (ok := okT) (g := mgName 8) (b := lb__law_history_2) (xs := rngA 0 n) (j := 0) (fun i env S => ∃ vals rows ns z8 z9 z10 z11 z12 z13, env = [some (.ref b), some (.int most), some (.int many), some (.int loose), some (.int wild), some (.ref V), some (.ref R), some (.ref N), z8, z9, z10, z11, z12, z13, none] ∧ HI st b V R N vals rows ns i i S) (fun _ _ _ _ => trivial) (fun i x hx env S hI => by
    obtain ⟨vals, rows, ns, z8, z9, z10, z11, z12, z13, rfl, h⟩ := hI
    obtain ⟨rfl, hi⟩ := rngA_get hx
    rw [Nat.zero_add] at h ⊢
    obtain ⟨vals', rows', ns', w9, w10, w11, w12, w13, S', e, h'⟩ := hstep (most := most) (many := many) (wild := wild) (y9 := z9) (y10 := z10) (y11 := z11) (y12 := z12) (y13 := z13) (y14 := none) hb (by omega) hl1 hl2 h
    exact ⟨_, _, S', rfl, e, vals', rows', ns', _, w9, w10, w11, w12, w13, rfl, h'⟩) _ S ⟨vals, rows, ns, none, none, none, none, none, none, rfl, h⟩
  rw [Nat.zero_add, rngA_len] at hI
  exact ⟨vals', rows', ns', z8, z9, z10, z11, z12, z13, S', e, hI⟩
/-- what is left, what is told -/
structure WI (st : Sto) (b L R : Nat) (ls rs : List A) (m : Nat) (S : Sto) : Prop where
  old : Old b st S
  bag : BagAt S b
  l : S[L]? = some (.lst ls)
  r : S[R]? = some (.lst rs)
  ok : (∀ x ∈ ls, RowG x) ∧ ∀ x ∈ rs, RowG x
  len : rs.length + ls.length = m
  lo : st.length ≤ L ∧ st.length ≤ R
  ne : L ≠ R
theorem WI.app {st : Sto} {b L R m : Nat} {ls rs : List A} {S : Sto} (h : WI st b L R ls rs m S) (o : AO) : WI st b L R ls rs m (S ++ [o]) :=
  ⟨h.old.trans (Old.app _ _ _), h.bag.app _, by rw [List.getElem?_append_left (List.getElem?_eq_some_iff.mp h.l).1]; exact h.l, by rw [List.getElem?_append_left (List.getElem?_eq_some_iff.mp h.r).1]; exact h.r, h.ok, h.len, h.lo, h.ne⟩
theorem wstep {st : Sto} {b L R m : Nat} {ls rs : List A} {S : Sto} {x1 x2 x3 x4 x5 x7 : A} {z8 z9 z10 z11 z12 z13 : Option A} (hb : b < st.length) (hm : m ≤ 100) (hl : 0 < ls.length) (h : WI st b L R ls rs m S) :
    ∃ ls' rs' S', lb__law_history_1 [some (.ref b), some x1, some x2, some x3, some x4, some x5, some (.ref R), some x7, z8, z9, z10, z11, z12, z13, some (.ref L)] S = .fl (.nx [some (.ref b), some x1, some x2, some x3, some x4, some x5, some (.ref R), some x7, z8, z9, z10, z11, z12, z13, some (.ref L)]) S' ∧ WI st b L R ls' rs' m S' ∧ ls'.length + 1 = ls.length := by
  have hlen := h.len
  obtain ⟨r, S1, e1, r0, r1, o, B, l1⟩ := take_ev (m := (ls.length : Nat)) h.bag (by omega) (by omega)
  have lo := h.lo
  have hL := h.l
  have hR := h.r
  have L1 := o.get h.l (by omega)
  have R1 := o.get h.r (by omega)
  have hk : r.toNat < ls.length := by omega
  have pop : oPopAt ls [.int r] = some (ls[r.toNat], ls.eraseIdx r.toNat) := popAt_is r0 r1 (by omega) (List.getElem?_eq_getElem hk)
  have R2 : (S1.set L (.lst (ls.eraseIdx r.toNat)))[R]? = some (.lst rs) := by
    rw [List.getElem?_set_ne h.ne]
    exact R1
  have ap : ∀ a, oAppend rs [a] = some (.non, rs ++ [a]) := fun a => appS (by omega)
  have hll := (List.getElem?_eq_some_iff.mp L1).1
  have hlr := (List.getElem?_eq_some_iff.mp R1).1
  have el := List.length_eraseIdx_of_lt hk
  refine ⟨ls.eraseIdx r.toNat, rs ++ [ls[r.toNat]], (S1.set L (.lst (ls.eraseIdx r.toNat))).set R (.lst (rs ++ [ls[r.toNat]])), ?_, ⟨?_, ?_, ?_, ?_, ⟨fun x hx => h.ok.1 x (List.mem_of_mem_eraseIdx hx), fun x hx => ?_⟩, ?_, lo, h.ne⟩, by omega⟩
  · unfold lb__law_history_1
    simp only [ev_bok, ev_bno, ev_bex, ev_tok, ev_tno, ev_tex, ev_nnx, ev_nrt, ev_nbk, ev_nct, ev_nex, ev_nno, ev_frt, ev_fnx, ev_fex, ev_xok, ev_lsome, ev_lnone, ev_seq, ev_if, ev_ret, ev_retN, ev_drop, ev_nop, ev_brk, ev_cont, ev_asgN, ev_asgT, ev_asgO, ev_mgTup, ev_mgN, ev_mgC, ev_mg0, ev_putL, ev_putO, ev_var, ev_vr, ev_c, ev_op, ev_un, ev_test, ev_tb, ev_notT, ev_andT, ev_orT, ev_ifE, ev_not, ev_nb, ev_and, ev_andK, ev_or, ev_orK, ev_chain, ev_chK, ev_nil, ev_cons, ev_tup, ev_lst, ev_new, ev_call, ev_cb, ev_size, ev_addI, ev_addS, ev_addT, ev_addL, ev_catO, ev_sub, ev_mul, ev_div, ev_mod, ev_p5, ev_p6, ev_p12, ev_p18, ev_p30, ev_neg, ev_ltI, ev_ltS, ev_leI, ev_leS, ev_gt, ev_ge, ev_eqI, ev_eqS, ev_neI, ev_neS, ev_neB, ev_eqB, ev_is, ev_isnot, ev_ixT, ev_ixS, ev_ixR, ev_ixL, ev_ixK, ev_getL, ev_getM, ev_gL, ev_gM, ev_at0, ev_at1, ev_at2, ev_at3, ev_at4, ev_lenS, ev_lenR, ev_lenT, ev_lenL, ev_lenO, ev_lenD, ev_abs, ev_min2, ev_max2, ev_intI, ev_intB, ev_set, ev_fc, ev_setset, ev_last, ev_appk, ev_app0, ev_setk, ev_set0, ev_assoc, ev_lapp, ev_lappA, ev_sl, ev_nopart, ev_part, ev_ptK, ev_slT, ev_slS, ev_slR, ev_slK, ev_tyN, ev_tyB, ev_tyI, ev_tyS, ev_tyT, ev_tyL, ev_tyR, ev_tyRL, ev_isi, ev_isi1, ev_isi2, ev_isi3, ev_isi4, ev_isi5, ev_isiT, ev_isi2K, ev_isTy, ev_list, ev_listK, ev_tuple, ev_tupK, ev_getST, ev_getSR, ev_getSL, ev_all, ev_allK, ev_eqXI, ev_eqXS, ev_neXI, ev_neXS, ev_neXB, ev_eqXB, ev_eqXR, ev_neXR, ev_nil2, ev_eqK, ev_neK, ev_meth, ev_meth0, ev_mth1, ev_mth2, ev_mth3, ev_m0, ev_m0K, ev_str, ev_for, ev_miR1, ev_rg1K, ev_miL, ev_liK, ev_miT, ev_tiK, ev_lc, ev_wipe0, ev_wipeS, ev_yes, ev_lenSet, ev_lenSetK, ev_listR, ev_lrK, ev_put2, ev_p2A, ev_p2K, ev_p2E, ev_put1, ev_pt1, ev_addXI, ev_addXB, ev_addXS, ev_addXT, ev_addXL, ev_subXI, ev_subXB, ev_mulXI, ev_mulXB, ev_mulXL, ev_negXI, ev_negXB, ev_strXI, ev_strXB, List.getElem?_cons_zero, List.getElem?_cons_succ, List.set_cons_zero, List.set_cons_succ, List.length_cons, List.length_nil, List.cons_append, List.nil_append, if_true, if_false, Bool.false_eq_true, Bool.true_eq_false, reduceIte, Bool.not_true, Bool.not_false, Bool.and_true, Bool.true_and, Bool.and_false, Bool.false_and, Bool.or_true, Bool.true_or, Bool.or_false, Bool.false_or, decide_eq_true_eq, Nat.reduceAdd, Nat.reduceLeDiff, Nat.zero_add, Int.reduceLT, Int.reduceLE, Int.reduceEq, Int.reduceNeg, Nat.reduceEqDiff, and_self, and_true, true_and, decide_true, decide_false, eq_self, ite_true, ite_false, Int.reduceSub, Int.reduceAdd, Int.cast_ofNat_Int, Int.natCast_add, Int.cast_ofNat_Int, Nat.reduceSub, Nat.add_assoc, String.reduceBEq, String.reduceEq, Bool.or_not_self, beq_self_eq_true, hL, hR, e1, L1, R1, pop, R2, ap]
  · exact Old.putNew (Old.putNew (h.old.trans o) lo.1) lo.2
  · exact (B.put _ (by omega)).put _ (by omega)
  · rw [List.getElem?_set_ne (Ne.symm h.ne), List.getElem?_set_self hll]
  · rw [List.getElem?_set_self (by rw [List.length_set]; exact hlr)]
  · rcases List.mem_append.mp hx with hx | hx
    · exact h.ok.2 x hx
    · rw [List.mem_singleton.mp hx]
      exact h.ok.1 _ (List.getElem_mem hk)
  · rw [List.length_append, List.length_singleton]
    omega
theorem wtest {st : Sto} {b L R m : Nat} {ls rs : List A} {S : Sto} {env : AEnv} (h : WI st b L R ls rs m S) (he : env[14]? = some (some (.ref L))) : mTest (mOp oNeX (mVar 14) (mLst mNil)) env S = .ok (!ls.isEmpty) (S ++ [.lst []]) := by
  have hl := (h.app (.lst [])).l
  simp only [ev_bok, ev_bno, ev_bex, ev_tok, ev_tno, ev_tex, ev_nnx, ev_nrt, ev_nbk, ev_nct, ev_nex, ev_nno, ev_frt, ev_fnx, ev_fex, ev_xok, ev_lsome, ev_lnone, ev_seq, ev_if, ev_ret, ev_retN, ev_drop, ev_nop, ev_brk, ev_cont, ev_asgN, ev_asgT, ev_asgO, ev_mgTup, ev_mgN, ev_mgC, ev_mg0, ev_putL, ev_putO, ev_var, ev_vr, ev_c, ev_op, ev_un, ev_test, ev_tb, ev_notT, ev_andT, ev_orT, ev_ifE, ev_not, ev_nb, ev_and, ev_andK, ev_or, ev_orK, ev_chain, ev_chK, ev_nil, ev_cons, ev_tup, ev_lst, ev_new, ev_call, ev_cb, ev_size, ev_addI, ev_addS, ev_addT, ev_addL, ev_catO, ev_sub, ev_mul, ev_div, ev_mod, ev_p5, ev_p6, ev_p12, ev_p18, ev_p30, ev_neg, ev_ltI, ev_ltS, ev_leI, ev_leS, ev_gt, ev_ge, ev_eqI, ev_eqS, ev_neI, ev_neS, ev_neB, ev_eqB, ev_is, ev_isnot, ev_ixT, ev_ixS, ev_ixR, ev_ixL, ev_ixK, ev_getL, ev_getM, ev_gL, ev_gM, ev_at0, ev_at1, ev_at2, ev_at3, ev_at4, ev_lenS, ev_lenR, ev_lenT, ev_lenL, ev_lenO, ev_lenD, ev_abs, ev_min2, ev_max2, ev_intI, ev_intB, ev_set, ev_fc, ev_setset, ev_last, ev_appk, ev_app0, ev_setk, ev_set0, ev_assoc, ev_lapp, ev_lappA, ev_sl, ev_nopart, ev_part, ev_ptK, ev_slT, ev_slS, ev_slR, ev_slK, ev_tyN, ev_tyB, ev_tyI, ev_tyS, ev_tyT, ev_tyL, ev_tyR, ev_tyRL, ev_isi, ev_isi1, ev_isi2, ev_isi3, ev_isi4, ev_isi5, ev_isiT, ev_isi2K, ev_isTy, ev_list, ev_listK, ev_tuple, ev_tupK, ev_getST, ev_getSR, ev_getSL, ev_all, ev_allK, ev_eqXI, ev_eqXS, ev_neXI, ev_neXS, ev_neXB, ev_eqXB, ev_eqXR, ev_neXR, ev_nil2, ev_eqK, ev_neK, ev_meth, ev_meth0, ev_mth1, ev_mth2, ev_mth3, ev_append, ev_m0, ev_m0K, ev_str, ev_for, ev_miR1, ev_rg1K, ev_miL, ev_liK, ev_miT, ev_tiK, ev_lc, ev_wipe0, ev_wipeS, ev_yes, ev_lenSet, ev_lenSetK, ev_listR, ev_lrK, ev_put2, ev_p2A, ev_p2K, ev_p2E, ev_put1, ev_pt1, ev_addXI, ev_addXB, ev_addXS, ev_addXT, ev_addXL, ev_subXI, ev_subXB, ev_mulXI, ev_mulXB, ev_mulXL, ev_negXI, ev_negXB, ev_strXI, ev_strXB, List.getElem?_cons_zero, List.getElem?_cons_succ, List.set_cons_zero, List.set_cons_succ, List.length_cons, List.length_nil, List.cons_append, List.nil_append, if_true, if_false, Bool.false_eq_true, Bool.true_eq_false, reduceIte, Bool.not_true, Bool.not_false, Bool.and_true, Bool.true_and, Bool.and_false, Bool.false_and, Bool.or_true, Bool.true_or, Bool.or_false, Bool.false_or, decide_eq_true_eq, Nat.reduceAdd, Nat.reduceLeDiff, Nat.zero_add, Int.reduceLT, Int.reduceLE, Int.reduceEq, Int.reduceNeg, Nat.reduceEqDiff, and_self, and_true, true_and, decide_true, decide_false, eq_self, ite_true, ite_false, Int.reduceSub, Int.reduceAdd, Int.cast_ofNat_Int, Int.natCast_add, Int.cast_ofNat_Int, Nat.reduceSub, Nat.add_assoc, String.reduceBEq, String.reduceEq, Bool.or_not_self, beq_self_eq_true, he, hl]
theorem wloop {st : Sto} {b L R m : Nat} {ls rs : List A} {S : Sto} {x1 x2 x3 x4 x5 x7 : A} {z8 z9 z10 z11 z12 z13 : Option A} (hb : b < st.length) (hm : m < 100) (h : WI st b L R ls rs m S) :
    ∃ rs' S', whileF (mTest (mOp oNeX (mVar 14) (mLst mNil))) lb__law_history_1 100 [some (.ref b), some x1, some x2, some x3, some x4, some x5, some (.ref R), some x7, z8, z9, z10, z11, z12, z13, some (.ref L)] S = .fl (.nx [some (.ref b), some x1, some x2, some x3, some x4, some x5, some (.ref R), some x7, z8, z9, z10, z11, z12, z13, some (.ref L)]) S' ∧ WI st b L R [] rs' m S' := by
  have hlen := h.len
  obtain ⟨e2, S2, e, rfl, ls', rs', h2, hz⟩ := whileF_inv (c := mTest (mOp oNeX (mVar 14) (mLst mNil))) (b := lb__law_history_1) (fun k env S => env = [some (.ref b), some x1, some x2, some x3, some x4, some x5, some (.ref R), some x7, z8, z9, z10, z11, z12, z13, some (.ref L)] ∧ ∃ ls rs, WI st b L R ls rs m S ∧ ls.length = k)
    (fun env S hJ => by
      obtain ⟨rfl, ls, rs, h, hz⟩ := hJ
      cases List.length_eq_zero_iff.mp hz
      exact ⟨_, wtest h rfl, rfl, _, _, h.app _, rfl⟩)
    (fun k env S hJ => by
      obtain ⟨rfl, ls, rs, h, hz⟩ := hJ
      obtain ⟨ls', rs', S', e, h', hl'⟩ := wstep (x1 := x1) (x2 := x2) (x3 := x3) (x4 := x4) (x5 := x5) (x7 := x7) (z8 := z8) (z9 := z9) (z10 := z10) (z11 := z11) (z12 := z12) (z13 := z13) hb (by omega) (by omega) (h.app (.lst []))
      refine ⟨_, _, S', (wtest h rfl).trans ?_, e, rfl, ls', rs', h', by omega⟩
      cases ls with
      | nil => simp at hz
      | cons x xs => rfl) ls.length 100 _ S (by omega) ⟨rfl, ls, rs, h, rfl⟩
  cases List.length_eq_zero_iff.mp hz
  exact ⟨rs', S2, e, h2⟩

theorem draw_ev {st : Sto} {b : Nat} {E : Nat → Prop} {most : Int} (hE : ∀ n, E n → n < st.length) (hB : BagAt st b) (hm0 : 0 ≤ most) (hm1 : most ≤ 60) : ∃ n st', m__law_history [.ref b, .int most] st = .ok (.ref n) st' ∧ gd st' E 0 2 (.ref n) ∧ Old b st st' ∧ BagAt st' b := by
  have hb := hB.lt
  obtain ⟨many, S1, e1, m0, m1, o1, B1, l1⟩ := take_ev (m := most + 1) hB (by omega) (by omega)
  obtain ⟨r2, S2, e2, r20, r21, o2, B2, l2⟩ := take_ev (m := 4) (B1.app (.lst ([1, 3, 8, 40].map A.int))) (by decide) (by decide)
  have g2 : S2[S1.length]? = some (.lst ([1, 3, 8, 40].map A.int)) := o2.get (List.getElem?_concat_length ..) (by omega)
  obtain ⟨loose, mloose, gloose, _⟩ := pickI (ns := [1, 3, 8, 40]) r20 r21
  have hl : 1 ≤ loose ∧ loose ≤ 40 := by
    simp only [List.mem_cons, List.not_mem_nil, or_false] at mloose
    omega
  obtain ⟨wild, S3, e3, w0, w1, o3, B3, l3⟩ := take_ev (m := 4) B2 (by decide) (by decide)
  have O3 : Old b st S3 := ((o1.trans (Old.app _ _ _)).trans o2).trans o3
  have ll := O3.le
  have h0 : HI st b S3.length (S3 ++ [AO.lst [.int 0]]).length ((S3 ++ [AO.lst [.int 0]]) ++ [AO.lst []]).length [0] [] ((List.range 70).map fun i : Nat => (0 : Int) + (i : Int)) 0 0 (((S3 ++ [AO.lst [.int 0]]) ++ [AO.lst []]) ++ [.lst (rngA 0 70)]) := by
    rw [rngA_ints]
    refine ⟨((O3.trans (Old.app _ _ _)).trans (Old.app _ _ _)).trans (Old.app _ _ _), ((B3.app _).app _).app _, ?_, ?_, ?_, ⟨by simp, by simp⟩, ⟨rfl, by simp⟩, ⟨by simp, fun x hx => ?_⟩, by simp, ?_, ?_⟩
    · simp
    · simp
    · simp
    · obtain ⟨i, hi, rfl⟩ := List.mem_map.mp hx
      have := List.mem_range.mp hi
      omega
    · simp only [List.length_append, List.length_singleton]
      omega
    · simp only [List.length_append, List.length_singleton]
      omega
  obtain ⟨V, hV⟩ : ∃ V, V = S3.length := ⟨_, rfl⟩
  obtain ⟨SA, hSA⟩ : ∃ SA, SA = S3 ++ [AO.lst [.int 0]] := ⟨_, rfl⟩
  obtain ⟨SB, hSB⟩ : ∃ SB, SB = SA ++ [AO.lst []] := ⟨_, rfl⟩
  obtain ⟨SC, hSC⟩ : ∃ SC, SC = SB ++ [AO.lst (rngA 0 70)] := ⟨_, rfl⟩
  rw [← hV, ← hSA, ← hSB, ← hSC] at h0
  obtain ⟨vals, rows, ns, z8, z9, z10, z11, z12, z13, S4, e4, h4⟩ := hloop (n := many.toNat) (most := most) (many := many) (wild := wild) hb (by omega) hl.1 hl.2 h0
  have R4 := h4.r
  have lo4 := h4.lo
  have ol4 := h4.old.le
  have lt4 := (List.getElem?_eq_some_iff.mp R4).1
  have h5 : WI st b S4.length (S4 ++ [AO.lst rows]).length rows [] many.toNat ((S4 ++ [AO.lst rows]) ++ [.lst []]) := by
    refine ⟨(h4.old.trans (Old.app _ _ _)).trans (Old.app _ _ _), (h4.bag.app _).app _, by simp, by simp, ⟨h4.rs.2, by simp⟩, by rw [List.length_nil, h4.rs.1, Nat.zero_add], ?_, ?_⟩
    · simp only [List.length_append, List.length_singleton]
      omega
    · simp only [List.length_append, List.length_singleton]
      omega
  obtain ⟨SD, hSD⟩ : ∃ SD, SD = S4 ++ [AO.lst rows] := ⟨_, rfl⟩
  obtain ⟨SE, hSE⟩ : ∃ SE, SE = SD ++ [AO.lst []] := ⟨_, rfl⟩
  rw [← hSD, ← hSE] at h5
  obtain ⟨rs, S6, e6, h6⟩ := wloop (x1 := .int most) (x2 := .int many) (x3 := .int loose) (x4 := .int wild) (x5 := .ref V) (x7 := .ref SB.length) (z8 := z8) (z9 := z9) (z10 := z10) (z11 := z11) (z12 := z12) (z13 := z13) hb (by omega) h5
  have rl := h6.len
  refine ⟨SD.length, S6, ?_, gd_ref (fun z => ?_) h6.r ?_ fun x hx => (h6.ok.2 x hx).gd, h6.old, h6.bag⟩
  · rw [st__law_history]
    unfold b__law_history
    have c1 : (-(2 ^ 62) ≤ many ∧ many < 2 ^ 62) = True := eq_true ⟨by omega, by omega⟩
    have c2 : ((0 : Int) ≤ 70 ∧ (70 : Int) ≤ 1000) = True := by simp
    have n70 : (70 : Int).toNat = 70 := rfl
    simp only [ev_bok, ev_bno, ev_bex, ev_tok, ev_tno, ev_tex, ev_nnx, ev_nrt, ev_nbk, ev_nct, ev_nex, ev_nno, ev_frt, ev_fnx, ev_fex, ev_xok, ev_lsome, ev_lnone, ev_seq, ev_if, ev_ret, ev_retN, ev_drop, ev_nop, ev_brk, ev_cont, ev_asgN, ev_asgT, ev_asgO, ev_mgTup, ev_mgN, ev_mgC, ev_mg0, ev_putL, ev_putO, ev_var, ev_vr, ev_c, ev_op, ev_un, ev_test, ev_tb, ev_notT, ev_andT, ev_orT, ev_ifE, ev_not, ev_nb, ev_and, ev_andK, ev_or, ev_orK, ev_chain, ev_chK, ev_nil, ev_cons, ev_tup, ev_lst, ev_new, ev_call, ev_cb, ev_size, ev_addI, ev_addS, ev_addT, ev_addL, ev_catO, ev_sub, ev_mul, ev_div, ev_mod, ev_p5, ev_p6, ev_p12, ev_p18, ev_p30, ev_neg, ev_ltI, ev_ltS, ev_leI, ev_leS, ev_gt, ev_ge, ev_eqI, ev_eqS, ev_neI, ev_neS, ev_neB, ev_eqB, ev_is, ev_isnot, ev_ixT, ev_ixS, ev_ixR, ev_ixL, ev_ixK, ev_getL, ev_getM, ev_gL, ev_gM, ev_at0, ev_at1, ev_at2, ev_at3, ev_at4, ev_lenS, ev_lenR, ev_lenT, ev_lenL, ev_lenO, ev_lenD, ev_abs, ev_min2, ev_max2, ev_intI, ev_intB, ev_set, ev_fc, ev_setset, ev_last, ev_appk, ev_app0, ev_setk, ev_set0, ev_assoc, ev_lapp, ev_lappA, ev_sl, ev_nopart, ev_part, ev_ptK, ev_slT, ev_slS, ev_slR, ev_slK, ev_tyN, ev_tyB, ev_tyI, ev_tyS, ev_tyT, ev_tyL, ev_tyR, ev_tyRL, ev_isi, ev_isi1, ev_isi2, ev_isi3, ev_isi4, ev_isi5, ev_isiT, ev_isi2K, ev_isTy, ev_list, ev_listK, ev_tuple, ev_tupK, ev_getST, ev_getSR, ev_getSL, ev_all, ev_allK, ev_eqXI, ev_eqXS, ev_neXI, ev_neXS, ev_neXB, ev_eqXB, ev_eqXR, ev_neXR, ev_nil2, ev_eqK, ev_neK, ev_meth, ev_meth0, ev_mth1, ev_mth2, ev_mth3, ev_append, ev_m0, ev_m0K, ev_str, ev_for, ev_miR1, ev_rg1K, ev_miL, ev_liK, ev_miT, ev_tiK, ev_lc, ev_wipe0, ev_wipeS, ev_yes, ev_lenSet, ev_lenSetK, ev_listR, ev_lrK, ev_put2, ev_p2A, ev_p2K, ev_p2E, ev_put1, ev_pt1, ev_addXI, ev_addXB, ev_addXS, ev_addXT, ev_addXL, ev_subXI, ev_subXB, ev_mulXI, ev_mulXB, ev_mulXL, ev_negXI, ev_negXB, ev_strXI, ev_strXB, List.getElem?_cons_zero, List.getElem?_cons_succ, List.set_cons_zero, List.set_cons_succ, List.length_cons, List.length_nil, List.cons_append, List.nil_append, if_true, if_false, Bool.false_eq_true, Bool.true_eq_false, reduceIte, Bool.not_true, Bool.not_false, Bool.and_true, Bool.true_and, Bool.and_false, Bool.false_and, Bool.or_true, Bool.true_or, Bool.or_false, Bool.false_or, decide_eq_true_eq, Nat.reduceAdd, Nat.reduceLeDiff, Nat.zero_add, Int.reduceLT, Int.reduceLE, Int.reduceEq, Int.reduceNeg, Nat.reduceEqDiff, and_self, and_true, true_and, decide_true, decide_false, eq_self, ite_true, ite_false, Int.reduceSub, Int.reduceAdd, Int.cast_ofNat_Int, Int.natCast_add, Int.cast_ofNat_Int, Nat.reduceSub, Nat.add_assoc, String.reduceBEq, String.reduceEq, Bool.or_not_self, beq_self_eq_true, e1]
    simp only [List.map_cons, List.map_nil] at e2 g2 gloose
    simp only [ev_bok, ev_bno, ev_bex, ev_tok, ev_tno, ev_tex, ev_nnx, ev_nrt, ev_nbk, ev_nct, ev_nex, ev_nno, ev_frt, ev_fnx, ev_fex, ev_xok, ev_lsome, ev_lnone, ev_seq, ev_if, ev_ret, ev_retN, ev_drop, ev_nop, ev_brk, ev_cont, ev_asgN, ev_asgT, ev_asgO, ev_mgTup, ev_mgN, ev_mgC, ev_mg0, ev_putL, ev_putO, ev_var, ev_vr, ev_c, ev_op, ev_un, ev_test, ev_tb, ev_notT, ev_andT, ev_orT, ev_ifE, ev_not, ev_nb, ev_and, ev_andK, ev_or, ev_orK, ev_chain, ev_chK, ev_nil, ev_cons, ev_tup, ev_lst, ev_new, ev_call, ev_cb, ev_size, ev_addI, ev_addS, ev_addT, ev_addL, ev_catO, ev_sub, ev_mul, ev_div, ev_mod, ev_p5, ev_p6, ev_p12, ev_p18, ev_p30, ev_neg, ev_ltI, ev_ltS, ev_leI, ev_leS, ev_gt, ev_ge, ev_eqI, ev_eqS, ev_neI, ev_neS, ev_neB, ev_eqB, ev_is, ev_isnot, ev_ixT, ev_ixS, ev_ixR, ev_ixL, ev_ixK, ev_getL, ev_getM, ev_gL, ev_gM, ev_at0, ev_at1, ev_at2, ev_at3, ev_at4, ev_lenS, ev_lenR, ev_lenT, ev_lenL, ev_lenO, ev_lenD, ev_abs, ev_min2, ev_max2, ev_intI, ev_intB, ev_set, ev_fc, ev_setset, ev_last, ev_appk, ev_app0, ev_setk, ev_set0, ev_assoc, ev_lapp, ev_lappA, ev_sl, ev_nopart, ev_part, ev_ptK, ev_slT, ev_slS, ev_slR, ev_slK, ev_tyN, ev_tyB, ev_tyI, ev_tyS, ev_tyT, ev_tyL, ev_tyR, ev_tyRL, ev_isi, ev_isi1, ev_isi2, ev_isi3, ev_isi4, ev_isi5, ev_isiT, ev_isi2K, ev_isTy, ev_list, ev_listK, ev_tuple, ev_tupK, ev_getST, ev_getSR, ev_getSL, ev_all, ev_allK, ev_eqXI, ev_eqXS, ev_neXI, ev_neXS, ev_neXB, ev_eqXB, ev_eqXR, ev_neXR, ev_nil2, ev_eqK, ev_neK, ev_meth, ev_meth0, ev_mth1, ev_mth2, ev_mth3, ev_append, ev_m0, ev_m0K, ev_str, ev_for, ev_miR1, ev_rg1K, ev_miL, ev_liK, ev_miT, ev_tiK, ev_lc, ev_wipe0, ev_wipeS, ev_yes, ev_lenSet, ev_lenSetK, ev_listR, ev_lrK, ev_put2, ev_p2A, ev_p2K, ev_p2E, ev_put1, ev_pt1, ev_addXI, ev_addXB, ev_addXS, ev_addXT, ev_addXL, ev_subXI, ev_subXB, ev_mulXI, ev_mulXB, ev_mulXL, ev_negXI, ev_negXB, ev_strXI, ev_strXB, List.getElem?_cons_zero, List.getElem?_cons_succ, List.set_cons_zero, List.set_cons_succ, List.length_cons, List.length_nil, List.cons_append, List.nil_append, if_true, if_false, Bool.false_eq_true, Bool.true_eq_false, reduceIte, Bool.not_true, Bool.not_false, Bool.and_true, Bool.true_and, Bool.and_false, Bool.false_and, Bool.or_true, Bool.true_or, Bool.or_false, Bool.false_or, decide_eq_true_eq, Nat.reduceAdd, Nat.reduceLeDiff, Nat.zero_add, Int.reduceLT, Int.reduceLE, Int.reduceEq, Int.reduceNeg, Nat.reduceEqDiff, and_self, and_true, true_and, decide_true, decide_false, eq_self, ite_true, ite_false, Int.reduceSub, Int.reduceAdd, Int.cast_ofNat_Int, Int.natCast_add, Int.cast_ofNat_Int, Nat.reduceSub, Nat.add_assoc, String.reduceBEq, String.reduceEq, Bool.or_not_self, beq_self_eq_true, e2, g2, gloose, e3, c1, c2, n70, ← hV, ← hSA, ← hSB, ← hSC]
    rw [e4]
    simp only [ev_bok, ev_bno, ev_bex, ev_tok, ev_tno, ev_tex, ev_nnx, ev_nrt, ev_nbk, ev_nct, ev_nex, ev_nno, ev_frt, ev_fnx, ev_fex, ev_xok, ev_lsome, ev_lnone, ev_seq, ev_if, ev_ret, ev_retN, ev_drop, ev_nop, ev_brk, ev_cont, ev_asgN, ev_asgT, ev_asgO, ev_mgTup, ev_mgN, ev_mgC, ev_mg0, ev_putL, ev_putO, ev_var, ev_vr, ev_c, ev_op, ev_un, ev_test, ev_tb, ev_notT, ev_andT, ev_orT, ev_ifE, ev_not, ev_nb, ev_and, ev_andK, ev_or, ev_orK, ev_chain, ev_chK, ev_nil, ev_cons, ev_tup, ev_lst, ev_new, ev_call, ev_cb, ev_size, ev_addI, ev_addS, ev_addT, ev_addL, ev_catO, ev_sub, ev_mul, ev_div, ev_mod, ev_p5, ev_p6, ev_p12, ev_p18, ev_p30, ev_neg, ev_ltI, ev_ltS, ev_leI, ev_leS, ev_gt, ev_ge, ev_eqI, ev_eqS, ev_neI, ev_neS, ev_neB, ev_eqB, ev_is, ev_isnot, ev_ixT, ev_ixS, ev_ixR, ev_ixL, ev_ixK, ev_getL, ev_getM, ev_gL, ev_gM, ev_at0, ev_at1, ev_at2, ev_at3, ev_at4, ev_lenS, ev_lenR, ev_lenT, ev_lenL, ev_lenO, ev_lenD, ev_abs, ev_min2, ev_max2, ev_intI, ev_intB, ev_set, ev_fc, ev_setset, ev_last, ev_appk, ev_app0, ev_setk, ev_set0, ev_assoc, ev_lapp, ev_lappA, ev_sl, ev_nopart, ev_part, ev_ptK, ev_slT, ev_slS, ev_slR, ev_slK, ev_tyN, ev_tyB, ev_tyI, ev_tyS, ev_tyT, ev_tyL, ev_tyR, ev_tyRL, ev_isi, ev_isi1, ev_isi2, ev_isi3, ev_isi4, ev_isi5, ev_isiT, ev_isi2K, ev_isTy, ev_list, ev_listK, ev_tuple, ev_tupK, ev_getST, ev_getSR, ev_getSL, ev_all, ev_allK, ev_eqXI, ev_eqXS, ev_neXI, ev_neXS, ev_neXB, ev_eqXB, ev_eqXR, ev_neXR, ev_nil2, ev_eqK, ev_neK, ev_meth, ev_meth0, ev_mth1, ev_mth2, ev_mth3, ev_append, ev_m0, ev_m0K, ev_str, ev_for, ev_miR1, ev_rg1K, ev_miL, ev_liK, ev_miT, ev_tiK, ev_lc, ev_wipe0, ev_wipeS, ev_yes, ev_lenSet, ev_lenSetK, ev_listR, ev_lrK, ev_put2, ev_p2A, ev_p2K, ev_p2E, ev_put1, ev_pt1, ev_addXI, ev_addXB, ev_addXS, ev_addXT, ev_addXL, ev_subXI, ev_subXB, ev_mulXI, ev_mulXB, ev_mulXL, ev_negXI, ev_negXB, ev_strXI, ev_strXB, List.getElem?_cons_zero, List.getElem?_cons_succ, List.set_cons_zero, List.set_cons_succ, List.length_cons, List.length_nil, List.cons_append, List.nil_append, if_true, if_false, Bool.false_eq_true, Bool.true_eq_false, reduceIte, Bool.not_true, Bool.not_false, Bool.and_true, Bool.true_and, Bool.and_false, Bool.false_and, Bool.or_true, Bool.true_or, Bool.or_false, Bool.false_or, decide_eq_true_eq, Nat.reduceAdd, Nat.reduceLeDiff, Nat.zero_add, Int.reduceLT, Int.reduceLE, Int.reduceEq, Int.reduceNeg, Nat.reduceEqDiff, and_self, and_true, true_and, decide_true, decide_false, eq_self, ite_true, ite_false, Int.reduceSub, Int.reduceAdd, Int.cast_ofNat_Int, Int.natCast_add, Int.cast_ofNat_Int, Nat.reduceSub, Nat.add_assoc, String.reduceBEq, String.reduceEq, Bool.or_not_self, beq_self_eq_true, R4, ← hSD, ← hSE]
    rw [e6]
    rfl
  · have := hE _ z
    have := h6.lo.2
    omega
  · rw [List.length_nil] at rl
    omega

theorem histA_app {S l : Sto} {E : Nat → Prop} {s d : Nat} {a : A} (h : gd S E s d a) : histA (S ++ l) a = histA S a := by
  have key : ∀ n xs, S[n]? = some (.lst xs) → histA (S ++ l) (.ref n) = histA S (.ref n) := fun n xs e => by
    unfold histA
    simp only [List.getElem?_append_left (List.getElem?_eq_some_iff.mp e).1]
  cases d with
  | zero => cases a <;> first | rfl | exact h.elim
  | succ d =>
    rcases h with h | ⟨xs, rfl, _⟩ | ⟨n, xs, rfl, _, e, _⟩
    · cases a <;> first | rfl | exact h.elim
    · rfl
    · exact key n xs e
/-- one turn: asked twice, spoilt -/
theorem turn_ev {S : Sto} {b s d : Nat} {E : Nat → Prop} {x0 a : A} {y1 y4 y5 y6 y7 y8 y9 y10 : Option A} (hE : E b) (hEb : ∀ n, E n → n < S.length) (hB : BagAt S b) (hs : s ≤ 8) (hd : d ≤ 20) (h : gd S E s d a) :
    ∃ a' z9 S', lb_law_1 [some x0, y1, some (.ref b), some a, y4, y5, y6, y7, y8, y9, y10] S = .fl (.nx [some x0, y1, some (.ref b), some a', y4, y5, y6, y7, y8, z9, y10]) S' ∧ gd S' E (s + 1) (d + 2) a' ∧ BagAt S' b ∧ S.length ≤ S'.length := by
  obtain ⟨l1, e1⟩ := hist_ev (by omega) (by omega) h
  obtain ⟨l2, e2⟩ := lhist_ev (by omega) (by omega) (gd_old hE (Old.apps b S l1) h)
  rw [histA_app h] at e2
  have h3 := gd_old hE ((Old.apps b S l1).trans (Old.apps b (S ++ l1) l2)) h
  obtain ⟨S2, hS2⟩ : ∃ S2, S2 = (S ++ l1) ++ l2 := ⟨_, rfl⟩
  have hle : S.length ≤ S2.length := by rw [hS2, List.length_append, List.length_append]; omega
  rw [← hS2] at e2 h3
  obtain ⟨a', S3, e3, g3, o3, B3⟩ := spoilt_ev d 23 (by omega) hE (fun n hn => Nat.lt_of_lt_of_le (hEb n hn) hle) (by rw [hS2]; exact (hB.apps _).apps _) hs h3
  refine ⟨a', some (.bl (histA S a)), S3, ?_, g3, B3, Nat.le_trans hle o3.le⟩
  have ms : m__law_spoilt [.ref b, a] S2 = .ok a' S3 := e3
  unfold lb_law_1
  simp only [ev_bok, ev_bno, ev_bex, ev_tok, ev_tno, ev_tex, ev_nnx, ev_nrt, ev_nbk, ev_nct, ev_nex, ev_nno, ev_frt, ev_fnx, ev_fex, ev_xok, ev_lsome, ev_lnone, ev_seq, ev_if, ev_ret, ev_retN, ev_drop, ev_nop, ev_brk, ev_cont, ev_asgN, ev_asgT, ev_asgO, ev_mgTup, ev_mgN, ev_mgC, ev_mg0, ev_putL, ev_putO, ev_var, ev_vr, ev_c, ev_op, ev_un, ev_test, ev_tb, ev_notT, ev_andT, ev_orT, ev_ifE, ev_not, ev_nb, ev_and, ev_andK, ev_or, ev_orK, ev_chain, ev_chK, ev_nil, ev_cons, ev_tup, ev_lst, ev_new, ev_call, ev_cb, ev_size, ev_addI, ev_addS, ev_addT, ev_addL, ev_catO, ev_sub, ev_mul, ev_div, ev_mod, ev_p5, ev_p6, ev_p12, ev_p18, ev_p30, ev_neg, ev_ltI, ev_ltS, ev_leI, ev_leS, ev_gt, ev_ge, ev_eqI, ev_eqS, ev_neI, ev_neS, ev_neB, ev_eqB, ev_is, ev_isnot, ev_ixT, ev_ixS, ev_ixR, ev_ixL, ev_ixK, ev_getL, ev_getM, ev_gL, ev_gM, ev_at0, ev_at1, ev_at2, ev_at3, ev_at4, ev_lenS, ev_lenR, ev_lenT, ev_lenL, ev_lenO, ev_lenD, ev_abs, ev_min2, ev_max2, ev_intI, ev_intB, ev_set, ev_fc, ev_setset, ev_last, ev_appk, ev_app0, ev_setk, ev_set0, ev_assoc, ev_lapp, ev_lappA, ev_sl, ev_nopart, ev_part, ev_ptK, ev_slT, ev_slS, ev_slR, ev_slK, ev_tyN, ev_tyB, ev_tyI, ev_tyS, ev_tyT, ev_tyL, ev_tyR, ev_tyRL, ev_isi, ev_isi1, ev_isi2, ev_isi3, ev_isi4, ev_isi5, ev_isiT, ev_isi2K, ev_isTy, ev_list, ev_listK, ev_tuple, ev_tupK, ev_getST, ev_getSR, ev_getSL, ev_all, ev_allK, ev_eqXI, ev_eqXS, ev_neXI, ev_neXS, ev_neXB, ev_eqXB, ev_eqXR, ev_neXR, ev_nil2, ev_eqK, ev_neK, ev_meth, ev_meth0, ev_mth1, ev_mth2, ev_mth3, ev_append, ev_m0, ev_m0K, ev_str, ev_for, ev_miR1, ev_rg1K, ev_miL, ev_liK, ev_miT, ev_tiK, ev_lc, ev_wipe0, ev_wipeS, ev_yes, ev_lenSet, ev_lenSetK, ev_listR, ev_lrK, ev_put2, ev_p2A, ev_p2K, ev_p2E, ev_put1, ev_pt1, ev_addXI, ev_addXB, ev_addXS, ev_addXT, ev_addXL, ev_subXI, ev_subXB, ev_mulXI, ev_mulXB, ev_mulXL, ev_negXI, ev_negXB, ev_strXI, ev_strXB, List.getElem?_cons_zero, List.getElem?_cons_succ, List.set_cons_zero, List.set_cons_succ, List.length_cons, List.length_nil, List.cons_append, List.nil_append, if_true, if_false, Bool.false_eq_true, Bool.true_eq_false, reduceIte, Bool.not_true, Bool.not_false, Bool.and_true, Bool.true_and, Bool.and_false, Bool.false_and, Bool.or_true, Bool.true_or, Bool.or_false, Bool.false_or, decide_eq_true_eq, Nat.reduceAdd, Nat.reduceLeDiff, Nat.zero_add, Int.reduceLT, Int.reduceLE, Int.reduceEq, Int.reduceNeg, Nat.reduceEqDiff, and_self, and_true, true_and, decide_true, decide_false, eq_self, ite_true, ite_false, Int.reduceSub, Int.reduceAdd, Int.cast_ofNat_Int, Int.natCast_add, Int.cast_ofNat_Int, Nat.reduceSub, Nat.add_assoc, String.reduceBEq, String.reduceEq, Bool.or_not_self, beq_self_eq_true, e1, e2, ms, decide_true]
/-- one thing asked twice -/
theorem ask_ev {S : Sto} {b s d : Nat} {E : Nat → Prop} {x0 a : A} {y1 y2 y4 y5 y6 y7 y8 y9 y10 : Option A} (hE : E b) (hs : s ≤ 8) (hd : d ≤ 20) (h : gd S E s d a) :
    ∃ l, lb_law_2 [some x0, y1, y2, some a, y4, y5, y6, y7, y8, y9, y10] S = .fl (.nx [some x0, y1, y2, some a, y4, y5, y6, y7, y8, y9, y10]) (S ++ l) := by
  obtain ⟨l1, e1⟩ := hist_ev (by omega) (by omega) h
  obtain ⟨l2, e2⟩ := lhist_ev (by omega) (by omega) (gd_old hE (Old.apps b S l1) h)
  rw [histA_app h, List.append_assoc] at e2
  refine ⟨l1 ++ l2, ?_⟩
  unfold lb_law_2
  simp only [ev_bok, ev_bno, ev_bex, ev_tok, ev_tno, ev_tex, ev_nnx, ev_nrt, ev_nbk, ev_nct, ev_nex, ev_nno, ev_frt, ev_fnx, ev_fex, ev_xok, ev_lsome, ev_lnone, ev_seq, ev_if, ev_ret, ev_retN, ev_drop, ev_nop, ev_brk, ev_cont, ev_asgN, ev_asgT, ev_asgO, ev_mgTup, ev_mgN, ev_mgC, ev_mg0, ev_putL, ev_putO, ev_var, ev_vr, ev_c, ev_op, ev_un, ev_test, ev_tb, ev_notT, ev_andT, ev_orT, ev_ifE, ev_not, ev_nb, ev_and, ev_andK, ev_or, ev_orK, ev_chain, ev_chK, ev_nil, ev_cons, ev_tup, ev_lst, ev_new, ev_call, ev_cb, ev_size, ev_addI, ev_addS, ev_addT, ev_addL, ev_catO, ev_sub, ev_mul, ev_div, ev_mod, ev_p5, ev_p6, ev_p12, ev_p18, ev_p30, ev_neg, ev_ltI, ev_ltS, ev_leI, ev_leS, ev_gt, ev_ge, ev_eqI, ev_eqS, ev_neI, ev_neS, ev_neB, ev_eqB, ev_is, ev_isnot, ev_ixT, ev_ixS, ev_ixR, ev_ixL, ev_ixK, ev_getL, ev_getM, ev_gL, ev_gM, ev_at0, ev_at1, ev_at2, ev_at3, ev_at4, ev_lenS, ev_lenR, ev_lenT, ev_lenL, ev_lenO, ev_lenD, ev_abs, ev_min2, ev_max2, ev_intI, ev_intB, ev_set, ev_fc, ev_setset, ev_last, ev_appk, ev_app0, ev_setk, ev_set0, ev_assoc, ev_lapp, ev_lappA, ev_sl, ev_nopart, ev_part, ev_ptK, ev_slT, ev_slS, ev_slR, ev_slK, ev_tyN, ev_tyB, ev_tyI, ev_tyS, ev_tyT, ev_tyL, ev_tyR, ev_tyRL, ev_isi, ev_isi1, ev_isi2, ev_isi3, ev_isi4, ev_isi5, ev_isiT, ev_isi2K, ev_isTy, ev_list, ev_listK, ev_tuple, ev_tupK, ev_getST, ev_getSR, ev_getSL, ev_all, ev_allK, ev_eqXI, ev_eqXS, ev_neXI, ev_neXS, ev_neXB, ev_eqXB, ev_eqXR, ev_neXR, ev_nil2, ev_eqK, ev_neK, ev_meth, ev_meth0, ev_mth1, ev_mth2, ev_mth3, ev_append, ev_m0, ev_m0K, ev_str, ev_for, ev_miR1, ev_rg1K, ev_miL, ev_liK, ev_miT, ev_tiK, ev_lc, ev_wipe0, ev_wipeS, ev_yes, ev_lenSet, ev_lenSetK, ev_listR, ev_lrK, ev_put2, ev_p2A, ev_p2K, ev_p2E, ev_put1, ev_pt1, ev_addXI, ev_addXB, ev_addXS, ev_addXT, ev_addXL, ev_subXI, ev_subXB, ev_mulXI, ev_mulXB, ev_mulXL, ev_negXI, ev_negXB, ev_strXI, ev_strXB, List.getElem?_cons_zero, List.getElem?_cons_succ, List.set_cons_zero, List.set_cons_succ, List.length_cons, List.length_nil, List.cons_append, List.nil_append, if_true, if_false, Bool.false_eq_true, Bool.true_eq_false, reduceIte, Bool.not_true, Bool.not_false, Bool.and_true, Bool.true_and, Bool.and_false, Bool.false_and, Bool.or_true, Bool.true_or, Bool.or_false, Bool.false_or, decide_eq_true_eq, Nat.reduceAdd, Nat.reduceLeDiff, Nat.zero_add, Int.reduceLT, Int.reduceLE, Int.reduceEq, Int.reduceNeg, Nat.reduceEqDiff, and_self, and_true, true_and, decide_true, decide_false, eq_self, ite_true, ite_false, Int.reduceSub, Int.reduceAdd, Int.cast_ofNat_Int, Int.natCast_add, Int.cast_ofNat_Int, Nat.reduceSub, Nat.add_assoc, String.reduceBEq, String.reduceEq, Bool.or_not_self, beq_self_eq_true, e1, e2, decide_true]
theorem turns_ev {S : Sto} {b : Nat} {E : Nat → Prop} {x0 a : A} {y1 y4 y5 y6 y7 y8 y9 y10 : Option A} (hE : E b) (hEb : ∀ n, E n → n < S.length) (hB : BagAt S b) (h : gd S E 0 2 a) :
    ∃ a' z8 z9 S', forL okT (mgName 8) lb_law_1 (rngA 0 8) [some x0, y1, some (.ref b), some a, y4, y5, y6, y7, y8, y9, y10] S = .fl (.nx [some x0, y1, some (.ref b), some a', y4, y5, y6, y7, z8, z9, y10]) S' := by
  obtain ⟨e2, S', e, ⟨a', z8, z9, rfl, _⟩⟩ := forL_inv (ok := okT) (g := mgName 8) (b := lb_law_1) (xs := rngA 0 8) (j := 0) (fun i env S => ∃ a z8 z9, env = [some x0, y1, some (.ref b), some a, y4, y5, y6, y7, z8, z9, y10] ∧ (∀ n, E n → n < S.length) ∧ BagAt S b ∧ gd S E i (2 + 2 * i) a) (fun _ _ _ _ => trivial) (fun i x hx env S hI => by
    obtain ⟨a, z8, z9, rfl, hEb, hB, h⟩ := hI
    obtain ⟨rfl, hi⟩ := rngA_get hx
    rw [Nat.zero_add] at h ⊢
    obtain ⟨a', w9, S', e, h', B', le⟩ := turn_ev (x0 := x0) (y1 := y1) (y4 := y4) (y5 := y5) (y6 := y6) (y7 := y7) (y8 := some (.int (0 + (i : Int)))) (y9 := z9) (y10 := y10) hE hEb hB (by omega) (by omega) h
    exact ⟨_, _, S', rfl, e, a', _, w9, rfl, fun n hn => Nat.lt_of_lt_of_le (hEb n hn) le, B', h'⟩) _ S ⟨a, y8, y9, rfl, hEb, hB, h⟩
  exact ⟨a', z8, z9, S', e⟩
/-- the things of the first cell -/
theorem asks_ev {S : Sto} {b L : Nat} {E : Nat → Prop} {x0 a0 : A} {xs : List A} {y1 y2 y4 y5 y6 y7 y8 y9 y10 : Option A} (hE : E b) (hL : S[L]? = some (.lst xs)) (hx : ∀ x ∈ xs, gd S E 0 2 x) (ha : gd S E 0 2 a0) :
    ∃ a l, forL (okL (.ref L) xs) (mgName 3) lb_law_2 xs [some x0, y1, y2, some a0, y4, y5, y6, y7, y8, y9, y10] S = .fl (.nx [some x0, y1, y2, some a, y4, y5, y6, y7, y8, y9, y10]) (S ++ l) ∧ gd S E 0 2 a := by
  obtain ⟨e2, S', e, ⟨a, l, rfl, rfl, h⟩⟩ := forL_inv (ok := okL (.ref L) xs) (g := mgName 3) (b := lb_law_2) (xs := xs) (j := 0) (fun _ env S' => ∃ a l, env = [some x0, y1, y2, some a, y4, y5, y6, y7, y8, y9, y10] ∧ S' = S ++ l ∧ gd S E 0 2 a) (fun _ _ S' h => by
    obtain ⟨a, l, _, rfl, _⟩ := h
    show getL (S ++ l) (.ref L) = some xs
    rw [ev_getL, List.getElem?_append_left (List.getElem?_eq_some_iff.mp hL).1, hL]
    rfl) (fun i x hi env S' hI => by
    obtain ⟨a, l, rfl, rfl, h⟩ := hI
    have hg := hx x (List.mem_of_getElem? hi)
    obtain ⟨l2, e⟩ := ask_ev (x0 := x0) (y1 := y1) (y2 := y2) (y4 := y4) (y5 := y5) (y6 := y6) (y7 := y7) (y8 := y8) (y9 := y9) (y10 := y10) hE (by omega) (by omega) (gd_old hE (Old.apps b S l) hg)
    exact ⟨_, _, _, rfl, e, x, l ++ l2, rfl, List.append_assoc .., hg⟩) _ S ⟨a0, [], rfl, (List.append_nil S).symm, ha⟩
  exact ⟨a, l, e, h⟩

def rowA (a : Int) (k : Str) (v b e : Int) : A := .tup [.int a, .str k, .int v, .int b, .int e]
def rowF : A → A
  | .int i => rowA i "read" 0 i (i + 1)
  | _ => .non
def rows60 : List A := (rngA 0 60).map rowF
noncomputable def fRow : MS := (sAsg (mTup (mCons (mC (.int 7)) (mCons (mC (.str "read")) (mCons (mC (.int 0)) (mCons (mC (.int 0)) (mCons (mOp oPow (mC (.int 10)) (mC (.int 6))) mNil)))))) (mgName 4))
noncomputable def fRows : MS := (sAsg (mLc (miR1 (mCons (mC (.int 60)) mNil)) (mgName 10) mYes (mTup (mCons (mVar 10) (mCons (mC (.str "read")) (mCons (mC (.int 0)) (mCons (mVar 10) (mCons (mOp oAddX (mVar 10) (mC (.int 1))) mNil)))))) [10]) (mgName 5))
noncomputable def fOdd : MS := (sAsg (mLst (mCons (mTup (mCons (mC (.int 7)) (mCons (mC (.str "write")) (mCons (mC (.int 999)) (mCons (mOp oSubX (mOp oPow (mC (.int 10)) (mC (.int 6))) (mC (.int 1))) (mCons (mOp oPow (mC (.int 10)) (mC (.int 6))) mNil)))))) (mCons (mTup (mCons (mC (.int 8)) (mCons (mC (.str "read")) (mCons (mC (.int 999)) (mCons (mC (.int 5)) (mCons (mC (.int 5)) mNil)))))) (mCons (mTup (mCons (mC (.int 9)) (mCons (mC (.str "write")) (mCons (mC (.int 0)) (mCons (mC (.int 1)) (mCons (mC (.int 2)) mNil)))))) mNil)))) (mgName 6))
noncomputable def fSome : MS := (sAsg (mLst (mCons (mVar 5) (mCons (mOp oAddX (mVar 5) (mLst (mCons (mTup (mCons (mC (.int 60)) (mCons (mC (.str "read")) (mCons (mC (.int 0)) (mCons (mC (.int 1)) (mCons (mC (.int 2)) mNil)))))) mNil))) (mCons (mLst (mCons (mVar 4) mNil)) (mCons (mSl oSl (mVar 6) mNoPart (mPart (mC (.int 1)))) (mCons (mSl oSl (mVar 6) mNoPart (mPart (mC (.int 2)))) (mCons (mSl oSl (mVar 6) (mPart (mC (.int 2))) (mPart (mC (.int 3)))) (mCons (mLst (mCons (mVar 4) (mCons (mVar 4) mNil))) mNil)))))))) (mgName 7))
noncomputable def fFor : MS := (sFor (miL (mOp oAddX (mVar 7) (mLst (mCons (mLst (mCons (mTup (mCons (mC (.int 10)) (mCons (mC (.str "read")) (mCons (mC (.int 1)) (mCons (mC (.int 1)) (mCons (mC (.int 2)) mNil)))))) mNil)) (mCons (mCall 1 m__law_odd (mCons (mVar 2) mNil)) (mCons (mLst mNil) (mCons (mVar 3) mNil))))))) (mgName 3)
 lb_law_2)
theorem pw6 : ((10 : Int) ^ (6 : Int).toNat) = 1000000 := by decide
theorem pwc : (0 ≤ (6 : Int) ∧ (6 : Int) ≤ 1000000 ∧ (10 : Int).natAbs < 2 ^ 64) = True := by simp
theorem fRow_ev {x0 x1 x2 x3 : A} {y4 y5 y6 y7 y8 y9 y10 : Option A} {S : Sto} : fRow [some x0, some x1, some x2, some x3, y4, y5, y6, y7, y8, y9, y10] S = .fl (.nx [some x0, some x1, some x2, some x3, some (rowA 7 "read" 0 0 1000000), y5, y6, y7, y8, y9, y10]) S := by
  unfold fRow rowA
  simp only [ev_bok, ev_bno, ev_bex, ev_tok, ev_tno, ev_tex, ev_nnx, ev_nrt, ev_nbk, ev_nct, ev_nex, ev_nno, ev_frt, ev_fnx, ev_fex, ev_xok, ev_lsome, ev_lnone, ev_seq, ev_if, ev_ret, ev_retN, ev_drop, ev_nop, ev_brk, ev_cont, ev_asgN, ev_asgT, ev_asgO, ev_mgTup, ev_mgN, ev_mgC, ev_mg0, ev_putL, ev_putO, ev_var, ev_vr, ev_c, ev_op, ev_un, ev_test, ev_tb, ev_notT, ev_andT, ev_orT, ev_ifE, ev_not, ev_nb, ev_and, ev_andK, ev_or, ev_orK, ev_chain, ev_chK, ev_nil, ev_cons, ev_tup, ev_lst, ev_new, ev_call, ev_cb, ev_size, ev_addI, ev_addS, ev_addT, ev_addL, ev_catO, ev_sub, ev_mul, ev_div, ev_mod, ev_p5, ev_p6, ev_p12, ev_p18, ev_p30, ev_neg, ev_ltI, ev_ltS, ev_leI, ev_leS, ev_gt, ev_ge, ev_eqI, ev_eqS, ev_neI, ev_neS, ev_neB, ev_eqB, ev_is, ev_isnot, ev_ixT, ev_ixS, ev_ixR, ev_ixL, ev_ixK, ev_getL, ev_getM, ev_gL, ev_gM, ev_at0, ev_at1, ev_at2, ev_at3, ev_at4, ev_lenS, ev_lenR, ev_lenT, ev_lenL, ev_lenO, ev_lenD, ev_abs, ev_min2, ev_max2, ev_intI, ev_intB, ev_set, ev_fc, ev_setset, ev_last, ev_appk, ev_app0, ev_setk, ev_set0, ev_assoc, ev_lapp, ev_lappA, ev_sl, ev_nopart, ev_part, ev_ptK, ev_slT, ev_slS, ev_slR, ev_slK, ev_tyN, ev_tyB, ev_tyI, ev_tyS, ev_tyT, ev_tyL, ev_tyR, ev_tyRL, ev_isi, ev_isi1, ev_isi2, ev_isi3, ev_isi4, ev_isi5, ev_isiT, ev_isi2K, ev_isTy, ev_list, ev_listK, ev_tuple, ev_tupK, ev_getST, ev_getSR, ev_getSL, ev_all, ev_allK, ev_eqXI, ev_eqXS, ev_neXI, ev_neXS, ev_neXB, ev_eqXB, ev_eqXR, ev_neXR, ev_nil2, ev_eqK, ev_neK, ev_meth, ev_meth0, ev_mth1, ev_mth2, ev_mth3, ev_append, ev_m0, ev_m0K, ev_str, ev_for, ev_miR1, ev_rg1K, ev_miL, ev_liK, ev_miT, ev_tiK, ev_lc, ev_wipe0, ev_wipeS, ev_yes, ev_lenSet, ev_lenSetK, ev_listR, ev_lrK, ev_put2, ev_p2A, ev_p2K, ev_p2E, ev_put1, ev_pt1, ev_addXI, ev_addXB, ev_addXS, ev_addXT, ev_addXL, ev_subXI, ev_subXB, ev_mulXI, ev_mulXB, ev_mulXL, ev_negXI, ev_negXB, ev_strXI, ev_strXB, List.getElem?_cons_zero, List.getElem?_cons_succ, List.set_cons_zero, List.set_cons_succ, List.length_cons, List.length_nil, List.cons_append, List.nil_append, if_true, if_false, Bool.false_eq_true, Bool.true_eq_false, reduceIte, Bool.not_true, Bool.not_false, Bool.and_true, Bool.true_and, Bool.and_false, Bool.false_and, Bool.or_true, Bool.true_or, Bool.or_false, Bool.false_or, decide_eq_true_eq, Nat.reduceAdd, Nat.reduceLeDiff, Nat.zero_add, Int.reduceLT, Int.reduceLE, Int.reduceEq, Int.reduceNeg, Nat.reduceEqDiff, and_self, and_true, true_and, decide_true, decide_false, eq_self, ite_true, ite_false, Int.reduceSub, Int.reduceAdd, Int.cast_ofNat_Int, Int.natCast_add, Int.cast_ofNat_Int, Nat.reduceSub, Nat.add_assoc, String.reduceBEq, String.reduceEq, Bool.or_not_self, beq_self_eq_true, pw6, pwc]
theorem fRows_ev {x0 x1 x2 x3 x4 : A} {y5 y6 y7 y8 y9 y10 : Option A} {S : Sto} : fRows [some x0, some x1, some x2, some x3, some x4, y5, y6, y7, y8, y9, y10] S = .fl (.nx [some x0, some x1, some x2, some x3, some x4, some (.ref S.length), y6, y7, y8, y9, y10]) (S ++ [.lst rows60]) := by
  unfold fRows
  have c1 : (-(2 ^ 62) ≤ (60 : Int) ∧ (60 : Int) < 2 ^ 62) = True := by simp
  have n60 : (60 : Int).toNat = 60 := rfl
  have e := lc_pure (n := S.length) (ok := okT) (g := mgName 10) (tt := mYes) (te := (mTup (mCons (mVar 10) (mCons (mC (.str "read")) (mCons (mC (.int 0)) (mCons (mVar 10) (mCons (mOp oAddX (mVar 10) (mC (.int 1))) mNil))))))) (env := [some x0, some x1, some x2, some x3, some x4, y5, y6, y7, y8, y9, none]) (s := S) (fun _ => true) rowF rfl (fun _ => trivial) (xs := rngA 0 60) (acc := []) (fun x hx acc => by
    obtain ⟨i, hi⟩ := List.getElem?_of_mem hx
    obtain ⟨rfl, _⟩ := rngA_get hi
    refine ⟨_, rfl, rfl, fun _ => ?_⟩
    unfold rowF rowA
    simp only [ev_bok, ev_bno, ev_bex, ev_tok, ev_tno, ev_tex, ev_nnx, ev_nrt, ev_nbk, ev_nct, ev_nex, ev_nno, ev_frt, ev_fnx, ev_fex, ev_xok, ev_lsome, ev_lnone, ev_seq, ev_if, ev_ret, ev_retN, ev_drop, ev_nop, ev_brk, ev_cont, ev_asgN, ev_asgT, ev_asgO, ev_mgTup, ev_mgN, ev_mgC, ev_mg0, ev_putL, ev_putO, ev_var, ev_vr, ev_c, ev_op, ev_un, ev_test, ev_tb, ev_notT, ev_andT, ev_orT, ev_ifE, ev_not, ev_nb, ev_and, ev_andK, ev_or, ev_orK, ev_chain, ev_chK, ev_nil, ev_cons, ev_tup, ev_lst, ev_new, ev_call, ev_cb, ev_size, ev_addI, ev_addS, ev_addT, ev_addL, ev_catO, ev_sub, ev_mul, ev_div, ev_mod, ev_p5, ev_p6, ev_p12, ev_p18, ev_p30, ev_neg, ev_ltI, ev_ltS, ev_leI, ev_leS, ev_gt, ev_ge, ev_eqI, ev_eqS, ev_neI, ev_neS, ev_neB, ev_eqB, ev_is, ev_isnot, ev_ixT, ev_ixS, ev_ixR, ev_ixL, ev_ixK, ev_getL, ev_getM, ev_gL, ev_gM, ev_at0, ev_at1, ev_at2, ev_at3, ev_at4, ev_lenS, ev_lenR, ev_lenT, ev_lenL, ev_lenO, ev_lenD, ev_abs, ev_min2, ev_max2, ev_intI, ev_intB, ev_set, ev_fc, ev_setset, ev_last, ev_appk, ev_app0, ev_setk, ev_set0, ev_assoc, ev_lapp, ev_lappA, ev_sl, ev_nopart, ev_part, ev_ptK, ev_slT, ev_slS, ev_slR, ev_slK, ev_tyN, ev_tyB, ev_tyI, ev_tyS, ev_tyT, ev_tyL, ev_tyR, ev_tyRL, ev_isi, ev_isi1, ev_isi2, ev_isi3, ev_isi4, ev_isi5, ev_isiT, ev_isi2K, ev_isTy, ev_list, ev_listK, ev_tuple, ev_tupK, ev_getST, ev_getSR, ev_getSL, ev_all, ev_allK, ev_eqXI, ev_eqXS, ev_neXI, ev_neXS, ev_neXB, ev_eqXB, ev_eqXR, ev_neXR, ev_nil2, ev_eqK, ev_neK, ev_meth, ev_meth0, ev_mth1, ev_mth2, ev_mth3, ev_append, ev_m0, ev_m0K, ev_str, ev_for, ev_miR1, ev_rg1K, ev_miL, ev_liK, ev_miT, ev_tiK, ev_lc, ev_wipe0, ev_wipeS, ev_yes, ev_lenSet, ev_lenSetK, ev_listR, ev_lrK, ev_put2, ev_p2A, ev_p2K, ev_p2E, ev_put1, ev_pt1, ev_addXI, ev_addXB, ev_addXS, ev_addXT, ev_addXL, ev_subXI, ev_subXB, ev_mulXI, ev_mulXB, ev_mulXL, ev_negXI, ev_negXB, ev_strXI, ev_strXB, List.getElem?_cons_zero, List.getElem?_cons_succ, List.set_cons_zero, List.set_cons_succ, List.length_cons, List.length_nil, List.cons_append, List.nil_append, if_true, if_false, Bool.false_eq_true, Bool.true_eq_false, reduceIte, Bool.not_true, Bool.not_false, Bool.and_true, Bool.true_and, Bool.and_false, Bool.false_and, Bool.or_true, Bool.true_or, Bool.or_false, Bool.false_or, decide_eq_true_eq, Nat.reduceAdd, Nat.reduceLeDiff, Nat.zero_add, Int.reduceLT, Int.reduceLE, Int.reduceEq, Int.reduceNeg, Nat.reduceEqDiff, and_self, and_true, true_and, decide_true, decide_false, eq_self, ite_true, ite_false, Int.reduceSub, Int.reduceAdd, Int.cast_ofNat_Int, Int.natCast_add, Int.cast_ofNat_Int, Nat.reduceSub, Nat.add_assoc, String.reduceBEq, String.reduceEq, Bool.or_not_self, beq_self_eq_true]) (by rw [rngA_len]; decide)
  rw [List.filter_eq_self.mpr (fun _ _ => rfl), List.nil_append] at e
  simp only [ev_bok, ev_bno, ev_bex, ev_tok, ev_tno, ev_tex, ev_nnx, ev_nrt, ev_nbk, ev_nct, ev_nex, ev_nno, ev_frt, ev_fnx, ev_fex, ev_xok, ev_lsome, ev_lnone, ev_seq, ev_if, ev_ret, ev_retN, ev_drop, ev_nop, ev_brk, ev_cont, ev_asgN, ev_asgT, ev_asgO, ev_mgTup, ev_mgN, ev_mgC, ev_mg0, ev_putL, ev_putO, ev_var, ev_vr, ev_c, ev_op, ev_un, ev_test, ev_tb, ev_notT, ev_andT, ev_orT, ev_ifE, ev_not, ev_nb, ev_and, ev_andK, ev_or, ev_orK, ev_chain, ev_chK, ev_nil, ev_cons, ev_tup, ev_lst, ev_new, ev_call, ev_cb, ev_size, ev_addI, ev_addS, ev_addT, ev_addL, ev_catO, ev_sub, ev_mul, ev_div, ev_mod, ev_p5, ev_p6, ev_p12, ev_p18, ev_p30, ev_neg, ev_ltI, ev_ltS, ev_leI, ev_leS, ev_gt, ev_ge, ev_eqI, ev_eqS, ev_neI, ev_neS, ev_neB, ev_eqB, ev_is, ev_isnot, ev_ixT, ev_ixS, ev_ixR, ev_ixL, ev_ixK, ev_getL, ev_getM, ev_gL, ev_gM, ev_at0, ev_at1, ev_at2, ev_at3, ev_at4, ev_lenS, ev_lenR, ev_lenT, ev_lenL, ev_lenO, ev_lenD, ev_abs, ev_min2, ev_max2, ev_intI, ev_intB, ev_set, ev_fc, ev_setset, ev_last, ev_appk, ev_app0, ev_setk, ev_set0, ev_assoc, ev_lapp, ev_lappA, ev_sl, ev_nopart, ev_part, ev_ptK, ev_slT, ev_slS, ev_slR, ev_slK, ev_tyN, ev_tyB, ev_tyI, ev_tyS, ev_tyT, ev_tyL, ev_tyR, ev_tyRL, ev_isi, ev_isi1, ev_isi2, ev_isi3, ev_isi4, ev_isi5, ev_isiT, ev_isi2K, ev_isTy, ev_list, ev_listK, ev_tuple, ev_tupK, ev_getST, ev_getSR, ev_getSL, ev_all, ev_allK, ev_eqXI, ev_eqXS, ev_neXI, ev_neXS, ev_neXB, ev_eqXB, ev_eqXR, ev_neXR, ev_nil2, ev_eqK, ev_neK, ev_meth, ev_meth0, ev_mth1, ev_mth2, ev_mth3, ev_append, ev_m0, ev_m0K, ev_str, ev_for, ev_miR1, ev_rg1K, ev_miL, ev_liK, ev_miT, ev_tiK, ev_lc, ev_wipe0, ev_wipeS, ev_yes, ev_lenSet, ev_lenSetK, ev_listR, ev_lrK, ev_put2, ev_p2A, ev_p2K, ev_p2E, ev_put1, ev_pt1, ev_addXI, ev_addXB, ev_addXS, ev_addXT, ev_addXL, ev_subXI, ev_subXB, ev_mulXI, ev_mulXB, ev_mulXL, ev_negXI, ev_negXB, ev_strXI, ev_strXB, List.getElem?_cons_zero, List.getElem?_cons_succ, List.set_cons_zero, List.set_cons_succ, List.length_cons, List.length_nil, List.cons_append, List.nil_append, if_true, if_false, Bool.false_eq_true, Bool.true_eq_false, reduceIte, Bool.not_true, Bool.not_false, Bool.and_true, Bool.true_and, Bool.and_false, Bool.false_and, Bool.or_true, Bool.true_or, Bool.or_false, Bool.false_or, decide_eq_true_eq, Nat.reduceAdd, Nat.reduceLeDiff, Nat.zero_add, Int.reduceLT, Int.reduceLE, Int.reduceEq, Int.reduceNeg, Nat.reduceEqDiff, and_self, and_true, true_and, decide_true, decide_false, eq_self, ite_true, ite_false, Int.reduceSub, Int.reduceAdd, Int.cast_ofNat_Int, Int.natCast_add, Int.cast_ofNat_Int, Nat.reduceSub, Nat.add_assoc, String.reduceBEq, String.reduceEq, Bool.or_not_self, beq_self_eq_true, c1, n60]
  rw [e]
  rfl
theorem fOdd_ev {x0 x1 x2 x3 x4 x5 : A} {y6 y7 y8 y9 y10 : Option A} {S : Sto} : fOdd [some x0, some x1, some x2, some x3, some x4, some x5, y6, y7, y8, y9, y10] S = .fl (.nx [some x0, some x1, some x2, some x3, some x4, some x5, some (.ref S.length), y7, y8, y9, y10]) (S ++ [.lst [rowA 7 "write" 999 999999 1000000, rowA 8 "read" 999 5 5, rowA 9 "write" 0 1 2]]) := by
  unfold fOdd rowA
  have s6 : (1000000 : Int) - 1 = 999999 := by decide
  simp only [ev_bok, ev_bno, ev_bex, ev_tok, ev_tno, ev_tex, ev_nnx, ev_nrt, ev_nbk, ev_nct, ev_nex, ev_nno, ev_frt, ev_fnx, ev_fex, ev_xok, ev_lsome, ev_lnone, ev_seq, ev_if, ev_ret, ev_retN, ev_drop, ev_nop, ev_brk, ev_cont, ev_asgN, ev_asgT, ev_asgO, ev_mgTup, ev_mgN, ev_mgC, ev_mg0, ev_putL, ev_putO, ev_var, ev_vr, ev_c, ev_op, ev_un, ev_test, ev_tb, ev_notT, ev_andT, ev_orT, ev_ifE, ev_not, ev_nb, ev_and, ev_andK, ev_or, ev_orK, ev_chain, ev_chK, ev_nil, ev_cons, ev_tup, ev_lst, ev_new, ev_call, ev_cb, ev_size, ev_addI, ev_addS, ev_addT, ev_addL, ev_catO, ev_sub, ev_mul, ev_div, ev_mod, ev_p5, ev_p6, ev_p12, ev_p18, ev_p30, ev_neg, ev_ltI, ev_ltS, ev_leI, ev_leS, ev_gt, ev_ge, ev_eqI, ev_eqS, ev_neI, ev_neS, ev_neB, ev_eqB, ev_is, ev_isnot, ev_ixT, ev_ixS, ev_ixR, ev_ixL, ev_ixK, ev_getL, ev_getM, ev_gL, ev_gM, ev_at0, ev_at1, ev_at2, ev_at3, ev_at4, ev_lenS, ev_lenR, ev_lenT, ev_lenL, ev_lenO, ev_lenD, ev_abs, ev_min2, ev_max2, ev_intI, ev_intB, ev_set, ev_fc, ev_setset, ev_last, ev_appk, ev_app0, ev_setk, ev_set0, ev_assoc, ev_lapp, ev_lappA, ev_sl, ev_nopart, ev_part, ev_ptK, ev_slT, ev_slS, ev_slR, ev_slK, ev_tyN, ev_tyB, ev_tyI, ev_tyS, ev_tyT, ev_tyL, ev_tyR, ev_tyRL, ev_isi, ev_isi1, ev_isi2, ev_isi3, ev_isi4, ev_isi5, ev_isiT, ev_isi2K, ev_isTy, ev_list, ev_listK, ev_tuple, ev_tupK, ev_getST, ev_getSR, ev_getSL, ev_all, ev_allK, ev_eqXI, ev_eqXS, ev_neXI, ev_neXS, ev_neXB, ev_eqXB, ev_eqXR, ev_neXR, ev_nil2, ev_eqK, ev_neK, ev_meth, ev_meth0, ev_mth1, ev_mth2, ev_mth3, ev_append, ev_m0, ev_m0K, ev_str, ev_for, ev_miR1, ev_rg1K, ev_miL, ev_liK, ev_miT, ev_tiK, ev_lc, ev_wipe0, ev_wipeS, ev_yes, ev_lenSet, ev_lenSetK, ev_listR, ev_lrK, ev_put2, ev_p2A, ev_p2K, ev_p2E, ev_put1, ev_pt1, ev_addXI, ev_addXB, ev_addXS, ev_addXT, ev_addXL, ev_subXI, ev_subXB, ev_mulXI, ev_mulXB, ev_mulXL, ev_negXI, ev_negXB, ev_strXI, ev_strXB, List.getElem?_cons_zero, List.getElem?_cons_succ, List.set_cons_zero, List.set_cons_succ, List.length_cons, List.length_nil, List.cons_append, List.nil_append, if_true, if_false, Bool.false_eq_true, Bool.true_eq_false, reduceIte, Bool.not_true, Bool.not_false, Bool.and_true, Bool.true_and, Bool.and_false, Bool.false_and, Bool.or_true, Bool.true_or, Bool.or_false, Bool.false_or, decide_eq_true_eq, Nat.reduceAdd, Nat.reduceLeDiff, Nat.zero_add, Int.reduceLT, Int.reduceLE, Int.reduceEq, Int.reduceNeg, Nat.reduceEqDiff, and_self, and_true, true_and, decide_true, decide_false, eq_self, ite_true, ite_false, Int.reduceSub, Int.reduceAdd, Int.cast_ofNat_Int, Int.natCast_add, Int.cast_ofNat_Int, Nat.reduceSub, Nat.add_assoc, String.reduceBEq, String.reduceEq, Bool.or_not_self, beq_self_eq_true, pw6, pwc, s6]
theorem rows60_len : rows60.length = 60 := by
  unfold rows60
  rw [List.length_map, rngA_len]
theorem fSome_ev {x0 x1 x2 x3 r t1 t2 t3 : A} {n m : Nat} {y7 y8 y9 y10 : Option A} {S : Sto} (hn : S[n]? = some (.lst rows60)) (hm : S[m]? = some (.lst [t1, t2, t3])) : fSome [some x0, some x1, some x2, some x3, some r, some (.ref n), some (.ref m), y7, y8, y9, y10] S = .fl (.nx [some x0, some x1, some x2, some x3, some r, some (.ref n), some (.ref m), some (.ref (S.length + 7)), y8, y9, y10]) (S ++ [.lst [rowA 60 "read" 0 1 2], .lst (rows60 ++ [rowA 60 "read" 0 1 2]), .lst [r], .lst [t1], .lst [t1, t2], .lst [t3], .lst [r, r], .lst [.ref n, .ref (S.length + 1), .ref (S.length + 2), .ref (S.length + 3), .ref (S.length + 4), .ref (S.length + 5), .ref (S.length + 6)]]) := by
  unfold fSome
  have hn' : ∀ l, (S ++ l)[n]? = some (.lst rows60) := fun l => by rw [List.getElem?_append_left (List.getElem?_eq_some_iff.mp hn).1]; exact hn
  have hm' : ∀ l, (S ++ l)[m]? = some (.lst [t1, t2, t3]) := fun l => by rw [List.getElem?_append_left (List.getElem?_eq_some_iff.mp hm).1]; exact hm
  have k1 : cutA [t1, t2, t3] none (some 1) = [t1] := cutA_to _ (by decide)
  have k2 : cutA [t1, t2, t3] none (some 2) = [t1, t2] := cutA_to _ (by decide)
  have k3 : cutA [t1, t2, t3] (some 2) (some 3) = [t3] := by
    unfold cutA
    rfl
  have rl : (60 + (0 + 1) ≤ 16777216) = True := by simp
  have rt : A.tup [.int 60, .str "read", .int 0, .int 1, .int 2] = rowA 60 "read" 0 1 2 := rfl
  simp only [ev_bok, ev_bno, ev_bex, ev_tok, ev_tno, ev_tex, ev_nnx, ev_nrt, ev_nbk, ev_nct, ev_nex, ev_nno, ev_frt, ev_fnx, ev_fex, ev_xok, ev_lsome, ev_lnone, ev_seq, ev_if, ev_ret, ev_retN, ev_drop, ev_nop, ev_brk, ev_cont, ev_asgN, ev_asgT, ev_asgO, ev_mgTup, ev_mgN, ev_mgC, ev_mg0, ev_putL, ev_putO, ev_var, ev_vr, ev_c, ev_op, ev_un, ev_test, ev_tb, ev_notT, ev_andT, ev_orT, ev_ifE, ev_not, ev_nb, ev_and, ev_andK, ev_or, ev_orK, ev_chain, ev_chK, ev_nil, ev_cons, ev_tup, ev_lst, ev_new, ev_call, ev_cb, ev_size, ev_addI, ev_addS, ev_addT, ev_addL, ev_catO, ev_sub, ev_mul, ev_div, ev_mod, ev_p5, ev_p6, ev_p12, ev_p18, ev_p30, ev_neg, ev_ltI, ev_ltS, ev_leI, ev_leS, ev_gt, ev_ge, ev_eqI, ev_eqS, ev_neI, ev_neS, ev_neB, ev_eqB, ev_is, ev_isnot, ev_ixT, ev_ixS, ev_ixR, ev_ixL, ev_ixK, ev_getL, ev_getM, ev_gL, ev_gM, ev_at0, ev_at1, ev_at2, ev_at3, ev_at4, ev_lenS, ev_lenR, ev_lenT, ev_lenL, ev_lenO, ev_lenD, ev_abs, ev_min2, ev_max2, ev_intI, ev_intB, ev_set, ev_fc, ev_setset, ev_last, ev_appk, ev_app0, ev_setk, ev_set0, ev_assoc, ev_lapp, ev_lappA, ev_sl, ev_nopart, ev_part, ev_ptK, ev_slT, ev_slS, ev_slR, ev_slK, ev_tyN, ev_tyB, ev_tyI, ev_tyS, ev_tyT, ev_tyL, ev_tyR, ev_tyRL, ev_isi, ev_isi1, ev_isi2, ev_isi3, ev_isi4, ev_isi5, ev_isiT, ev_isi2K, ev_isTy, ev_list, ev_listK, ev_tuple, ev_tupK, ev_getST, ev_getSR, ev_getSL, ev_all, ev_allK, ev_eqXI, ev_eqXS, ev_neXI, ev_neXS, ev_neXB, ev_eqXB, ev_eqXR, ev_neXR, ev_nil2, ev_eqK, ev_neK, ev_meth, ev_meth0, ev_mth1, ev_mth2, ev_mth3, ev_append, ev_m0, ev_m0K, ev_str, ev_for, ev_miR1, ev_rg1K, ev_miL, ev_liK, ev_miT, ev_tiK, ev_lc, ev_wipe0, ev_wipeS, ev_yes, ev_lenSet, ev_lenSetK, ev_listR, ev_lrK, ev_put2, ev_p2A, ev_p2K, ev_p2E, ev_put1, ev_pt1, ev_addXI, ev_addXB, ev_addXS, ev_addXT, ev_addXL, ev_subXI, ev_subXB, ev_mulXI, ev_mulXB, ev_mulXL, ev_negXI, ev_negXB, ev_strXI, ev_strXB, List.getElem?_cons_zero, List.getElem?_cons_succ, List.set_cons_zero, List.set_cons_succ, List.length_cons, List.length_nil, List.cons_append, List.nil_append, if_true, if_false, Bool.false_eq_true, Bool.true_eq_false, reduceIte, Bool.not_true, Bool.not_false, Bool.and_true, Bool.true_and, Bool.and_false, Bool.false_and, Bool.or_true, Bool.true_or, Bool.or_false, Bool.false_or, decide_eq_true_eq, Nat.reduceAdd, Nat.reduceLeDiff, Nat.zero_add, Int.reduceLT, Int.reduceLE, Int.reduceEq, Int.reduceNeg, Nat.reduceEqDiff, and_self, and_true, true_and, decide_true, decide_false, eq_self, ite_true, ite_false, Int.reduceSub, Int.reduceAdd, Int.cast_ofNat_Int, Int.natCast_add, Int.cast_ofNat_Int, Nat.reduceSub, Nat.add_assoc, String.reduceBEq, String.reduceEq, Bool.or_not_self, beq_self_eq_true, hn, hn', hm', k1, k2, k3, rows60_len, rl, rt]
theorem gd_row {S : Sto} {E : Nat → Prop} {a v b e : Int} {k : Str} (hk : k = "read" ∨ k = "write") (h1 : a.natAbs < 2 ^ 20) (h2 : v.natAbs < 2 ^ 20) (h3 : b.natAbs < 2 ^ 20) (h4 : e.natAbs < 2 ^ 20) : gd S E 0 1 (rowA a k v b e) := RowG.gd ⟨a, v, b, e, k, rfl, hk, h1, h2, h3, h4⟩
theorem gd_rows60 {S : Sto} {E : Nat → Prop} : ∀ x ∈ rows60, gd S E 0 1 x := fun x hx => by
  unfold rows60 at hx
  obtain ⟨y, hy, rfl⟩ := List.mem_map.mp hx
  obtain ⟨i, hi⟩ := List.getElem?_of_mem hy
  obtain ⟨rfl, h⟩ := rngA_get hi
  exact gd_row (.inl rfl) (by omega) (by decide) (by omega) (by omega)
theorem fFor_ev {x0 x1 a : A} {b q : Nat} {L7 : List A} {y4 y5 y6 y8 y9 y10 : Option A} {S : Sto} {E : Nat → Prop} (hE : E b) (hEb : ∀ n, E n → n < S.length) (hB : BagAt S b) (hq : S[q]? = some (.lst L7)) (qb : q ≠ b) (h7 : L7.length ≤ 7) (g7 : ∀ x ∈ L7, gd S E 0 2 x) (ha : gd S E 0 2 a) :
    ∃ a' S', fFor [some x0, some x1, some (.ref b), some a, y4, y5, y6, some (.ref q), y8, y9, y10] S = .fl (.nx [some x0, some x1, some (.ref b), some a', y4, y5, y6, some (.ref q), y8, y9, y10]) S' ∧ gd S' E 0 2 a' ∧ BagAt S' b ∧ S.length ≤ S'.length := by
  have hEb1 : ∀ n, E n → n < (S ++ [AO.lst [rowA 10 "read" 1 1 2]]).length := fun n hn => by rw [List.length_append]; exact Nat.lt_add_right _ (hEb n hn)
  obtain ⟨o, S2, e2, g2, o2, B2⟩ := odd_ev hE hEb1 (hB.app (.lst [rowA 10 "read" 1 1 2]))
  have O : Old b S S2 := (Old.app b S _).trans o2
  have hl := O.le
  have q2 := O.get hq qb
  have r2 : S2[S.length]? = some (.lst [rowA 10 "read" 1 1 2]) := o2.get (List.getElem?_concat_length ..) (by have := hB.lt; omega)
  have q2' : ∀ l, (S2 ++ l)[q]? = some (.lst L7) := fun l => by rw [List.getElem?_append_left (List.getElem?_eq_some_iff.mp q2).1]; exact q2
  obtain ⟨xs, hxs⟩ : ∃ xs, xs = L7 ++ [.ref S.length, o, .ref S2.length, a] := ⟨_, rfl⟩
  obtain ⟨S3, hS3⟩ : ∃ S3, S3 = S2 ++ [.lst [], .lst [.ref S.length, o, .ref S2.length, a], .lst xs] := ⟨_, rfl⟩
  have O3 : Old b S2 S3 := hS3 ▸ Old.apps b S2 _
  have L3 : S3[S2.length + 2]? = some (.lst xs) := by rw [hS3]; exact ev_appk
  have Z3 : S3[S2.length]? = some (.lst []) := by rw [hS3]; simp
  have hEb2 : ∀ n, E n → n < S2.length := fun n hn => Nat.lt_of_lt_of_le (hEb n hn) hl
  have gx : ∀ x ∈ xs, gd S3 E 0 2 x := fun x hx => by
    rw [hxs] at hx
    rcases List.mem_append.mp hx with hx | hx
    · exact gd_old hE (O.trans O3) (g7 x hx)
    · simp only [List.mem_cons, List.not_mem_nil, or_false] at hx
      rcases hx with rfl | rfl | rfl | rfl
      · refine gd_old hE O3 (gd_ref (fun z => by have := hEb _ z; omega) r2 (by decide) fun x hx => ?_)
        rw [List.mem_singleton.mp hx]
        exact gd_row (.inl rfl) (by decide) (by decide) (by decide) (by decide)
      · exact gd_old hE O3 g2
      · exact gd_ref (fun z => by have := hEb2 _ z; omega) Z3 (by decide) fun x hx => by cases hx
      · exact gd_old hE (O.trans O3) ha
  obtain ⟨a', l, e, ga⟩ := asks_ev (x0 := x0) (y1 := some x1) (y2 := some (.ref b)) (y4 := y4) (y5 := y5) (y6 := y6) (y7 := some (.ref q)) (y8 := y8) (y9 := y9) (y10 := y10) hE L3 gx (gd_old hE (O.trans O3) ha)
  refine ⟨a', S3 ++ l, ?_, gd_old hE (Old.apps b S3 l) ga, ?_, ?_⟩
  · unfold fFor
    have rt : A.tup [.int 10, .str "read", .int 1, .int 1, .int 2] = rowA 10 "read" 1 1 2 := rfl
    have sz : (L7.length + (0 + 1 + 1 + 1 + 1) ≤ 16777216) = True := eq_true (by omega)
    simp only [ev_bok, ev_bno, ev_bex, ev_tok, ev_tno, ev_tex, ev_nnx, ev_nrt, ev_nbk, ev_nct, ev_nex, ev_nno, ev_frt, ev_fnx, ev_fex, ev_xok, ev_lsome, ev_lnone, ev_seq, ev_if, ev_ret, ev_retN, ev_drop, ev_nop, ev_brk, ev_cont, ev_asgN, ev_asgT, ev_asgO, ev_mgTup, ev_mgN, ev_mgC, ev_mg0, ev_putL, ev_putO, ev_var, ev_vr, ev_c, ev_op, ev_un, ev_test, ev_tb, ev_notT, ev_andT, ev_orT, ev_ifE, ev_not, ev_nb, ev_and, ev_andK, ev_or, ev_orK, ev_chain, ev_chK, ev_nil, ev_cons, ev_tup, ev_lst, ev_new, ev_call, ev_cb, ev_size, ev_addI, ev_addS, ev_addT, ev_addL, ev_catO, ev_sub, ev_mul, ev_div, ev_mod, ev_p5, ev_p6, ev_p12, ev_p18, ev_p30, ev_neg, ev_ltI, ev_ltS, ev_leI, ev_leS, ev_gt, ev_ge, ev_eqI, ev_eqS, ev_neI, ev_neS, ev_neB, ev_eqB, ev_is, ev_isnot, ev_ixT, ev_ixS, ev_ixR, ev_ixL, ev_ixK, ev_getL, ev_getM, ev_gL, ev_gM, ev_at0, ev_at1, ev_at2, ev_at3, ev_at4, ev_lenS, ev_lenR, ev_lenT, ev_lenL, ev_lenO, ev_lenD, ev_abs, ev_min2, ev_max2, ev_intI, ev_intB, ev_set, ev_fc, ev_setset, ev_last, ev_appk, ev_app0, ev_setk, ev_set0, ev_assoc, ev_lapp, ev_lappA, ev_sl, ev_nopart, ev_part, ev_ptK, ev_slT, ev_slS, ev_slR, ev_slK, ev_tyN, ev_tyB, ev_tyI, ev_tyS, ev_tyT, ev_tyL, ev_tyR, ev_tyRL, ev_isi, ev_isi1, ev_isi2, ev_isi3, ev_isi4, ev_isi5, ev_isiT, ev_isi2K, ev_isTy, ev_list, ev_listK, ev_tuple, ev_tupK, ev_getST, ev_getSR, ev_getSL, ev_all, ev_allK, ev_eqXI, ev_eqXS, ev_neXI, ev_neXS, ev_neXB, ev_eqXB, ev_eqXR, ev_neXR, ev_nil2, ev_eqK, ev_neK, ev_meth, ev_meth0, ev_mth1, ev_mth2, ev_mth3, ev_append, ev_m0, ev_m0K, ev_str, ev_for, ev_miR1, ev_rg1K, ev_miL, ev_liK, ev_miT, ev_tiK, ev_lc, ev_wipe0, ev_wipeS, ev_yes, ev_lenSet, ev_lenSetK, ev_listR, ev_lrK, ev_put2, ev_p2A, ev_p2K, ev_p2E, ev_put1, ev_pt1, ev_addXI, ev_addXB, ev_addXS, ev_addXT, ev_addXL, ev_subXI, ev_subXB, ev_mulXI, ev_mulXB, ev_mulXL, ev_negXI, ev_negXB, ev_strXI, ev_strXB, List.getElem?_cons_zero, List.getElem?_cons_succ, List.set_cons_zero, List.set_cons_succ, List.length_cons, List.length_nil, List.cons_append, List.nil_append, if_true, if_false, Bool.false_eq_true, Bool.true_eq_false, reduceIte, Bool.not_true, Bool.not_false, Bool.and_true, Bool.true_and, Bool.and_false, Bool.false_and, Bool.or_true, Bool.true_or, Bool.or_false, Bool.false_or, decide_eq_true_eq, Nat.reduceAdd, Nat.reduceLeDiff, Nat.zero_add, Int.reduceLT, Int.reduceLE, Int.reduceEq, Int.reduceNeg, Nat.reduceEqDiff, and_self, and_true, true_and, decide_true, decide_false, eq_self, ite_true, ite_false, Int.reduceSub, Int.reduceAdd, Int.cast_ofNat_Int, Int.natCast_add, Int.cast_ofNat_Int, Nat.reduceSub, Nat.add_assoc, String.reduceBEq, String.reduceEq, Bool.or_not_self, beq_self_eq_true, hq, rt, e2, q2', sz, ← hxs, ← hS3, L3]
    exact e
  · rw [hS3]
    exact (B2.apps _).apps _
  · rw [List.length_append]
    have := O3.le
    omega

noncomputable def fAll : MS := (sSeq fRow (sSeq fRows (sSeq fOdd (sSeq fSome fFor))))
theorem fAll_ev {x0 x1 a : A} {b : Nat} {y4 y5 y6 y7 y8 y9 y10 : Option A} {S : Sto} {E : Nat → Prop} (hE : E b) (hEb : ∀ n, E n → n < S.length) (hB : BagAt S b) (ha : gd S E 0 2 a) :
    ∃ a' z4 z5 z6 z7 S', fAll [some x0, some x1, some (.ref b), some a, y4, y5, y6, y7, y8, y9, y10] S = .fl (.nx [some x0, some x1, some (.ref b), some a', z4, z5, z6, z7, y8, y9, y10]) S' ∧ gd S' E 0 2 a' ∧ BagAt S' b ∧ S.length ≤ S'.length := by
  obtain ⟨t1, ht1⟩ : ∃ t, t = rowA 7 "write" 999 999999 1000000 := ⟨_, rfl⟩
  obtain ⟨t2, ht2⟩ : ∃ t, t = rowA 8 "read" 999 5 5 := ⟨_, rfl⟩
  obtain ⟨t3, ht3⟩ : ∃ t, t = rowA 9 "write" 0 1 2 := ⟨_, rfl⟩
  obtain ⟨r, hr⟩ : ∃ t, t = rowA 7 "read" 0 0 1000000 := ⟨_, rfl⟩
  have G1 : ∀ {S : Sto}, gd S E 0 1 t1 := by rw [ht1]; exact gd_row (.inr rfl) (by decide) (by decide) (by decide) (by decide)
  have G2 : ∀ {S : Sto}, gd S E 0 1 t2 := by rw [ht2]; exact gd_row (.inl rfl) (by decide) (by decide) (by decide) (by decide)
  have G3 : ∀ {S : Sto}, gd S E 0 1 t3 := by rw [ht3]; exact gd_row (.inr rfl) (by decide) (by decide) (by decide) (by decide)
  have Gr : ∀ {S : Sto}, gd S E 0 1 r := by rw [hr]; exact gd_row (.inl rfl) (by decide) (by decide) (by decide) (by decide)
  have G60 : ∀ {S : Sto}, gd S E 0 1 (rowA 60 "read" 0 1 2) := gd_row (.inl rfl) (by decide) (by decide) (by decide) (by decide)
  obtain ⟨SA, hSA⟩ : ∃ SA, SA = S ++ [AO.lst rows60] := ⟨_, rfl⟩
  obtain ⟨SB, hSB⟩ : ∃ SB, SB = SA ++ [AO.lst [t1, t2, t3]] := ⟨_, rfl⟩
  have lA : SA.length = S.length + 1 := by rw [hSA, List.length_append]; rfl
  have lB : SB.length = S.length + 2 := by rw [hSB, List.length_append, lA]; rfl
  have nB : SB[S.length]? = some (.lst rows60) := by rw [hSB, hSA]; simp
  have mB : SB[SA.length]? = some (.lst [t1, t2, t3]) := by rw [hSB]; simp
  have e4 := fSome_ev (x0 := x0) (x1 := x1) (x2 := .ref b) (x3 := a) (r := r) (y7 := y7) (y8 := y8) (y9 := y9) (y10 := y10) nB mB
  obtain ⟨L7, hL7⟩ : ∃ L7, L7 = [A.ref S.length, .ref (SB.length + 1), .ref (SB.length + 2), .ref (SB.length + 3), .ref (SB.length + 4), .ref (SB.length + 5), .ref (SB.length + 6)] := ⟨_, rfl⟩
  rw [← hL7] at e4
  obtain ⟨SC, hSC⟩ : ∃ SC, SC = SB ++ [.lst [rowA 60 "read" 0 1 2], .lst (rows60 ++ [rowA 60 "read" 0 1 2]), .lst [r], .lst [t1], .lst [t1, t2], .lst [t3], .lst [r, r], .lst L7] := ⟨_, rfl⟩
  rw [← hSC] at e4
  have lC : SC.length = S.length + 10 := by rw [hSC, List.length_append, lB]; rfl
  have OC : Old b S SC := by
    rw [hSC, hSB, hSA]
    exact ((Old.app _ _ _).trans (Old.app _ _ _)).trans (Old.apps _ _ _)
  have BC : BagAt SC b := by
    rw [hSC, hSB, hSA]
    exact ((hB.app _).app _).apps _
  have c0 : SC[S.length]? = some (.lst rows60) := by rw [hSC, List.getElem?_append_left (by omega)]; exact nB
  have c1 : SC[SB.length + 1]? = some (.lst (rows60 ++ [rowA 60 "read" 0 1 2])) := by rw [hSC]; exact ev_appk
  have c2 : SC[SB.length + 2]? = some (.lst [r]) := by rw [hSC]; exact ev_appk
  have c3 : SC[SB.length + 3]? = some (.lst [t1]) := by rw [hSC]; exact ev_appk
  have c4 : SC[SB.length + 4]? = some (.lst [t1, t2]) := by rw [hSC]; exact ev_appk
  have c5 : SC[SB.length + 5]? = some (.lst [t3]) := by rw [hSC]; exact ev_appk
  have c6 : SC[SB.length + 6]? = some (.lst [r, r]) := by rw [hSC]; exact ev_appk
  have c7 : SC[SB.length + 7]? = some (.lst L7) := by rw [hSC]; exact ev_appk
  have nE : ∀ n, S.length ≤ n → ¬ E n := fun n hn z => by have := hEb n z; omega
  have g7 : ∀ x ∈ L7, gd SC E 0 2 x := fun x hx => by
    rw [hL7] at hx
    simp only [List.mem_cons, List.not_mem_nil, or_false] at hx
    rcases hx with rfl | rfl | rfl | rfl | rfl | rfl | rfl
    · exact gd_ref (nE _ (by omega)) c0 (by rw [rows60_len]; decide) gd_rows60
    · refine gd_ref (nE _ (by omega)) c1 (by rw [List.length_append, rows60_len]; decide) fun x hx => ?_
      rcases List.mem_append.mp hx with hx | hx
      · exact gd_rows60 x hx
      · rw [List.mem_singleton.mp hx]
        exact G60
    · refine gd_ref (nE _ (by omega)) c2 (by show 1 ≤ _; omega) fun x hx => ?_
      rw [List.mem_singleton.mp hx]
      exact Gr
    · refine gd_ref (nE _ (by omega)) c3 (by show 1 ≤ _; omega) fun x hx => ?_
      rw [List.mem_singleton.mp hx]
      exact G1
    · refine gd_ref (nE _ (by omega)) c4 (by show 2 ≤ _; omega) fun x hx => ?_
      simp only [List.mem_cons, List.not_mem_nil, or_false] at hx
      rcases hx with rfl | rfl
      · exact G1
      · exact G2
    · refine gd_ref (nE _ (by omega)) c5 (by show 1 ≤ _; omega) fun x hx => ?_
      rw [List.mem_singleton.mp hx]
      exact G3
    · refine gd_ref (nE _ (by omega)) c6 (by show 2 ≤ _; omega) fun x hx => ?_
      simp only [List.mem_cons, List.not_mem_nil, or_false] at hx
      rcases hx with rfl | rfl
      · exact Gr
      · exact Gr
  obtain ⟨a', S', e5, g, B, le⟩ := fFor_ev (x0 := x0) (x1 := x1) (y4 := some r) (y5 := some (.ref S.length)) (y6 := some (.ref SA.length)) (y8 := y8) (y9 := y9) (y10 := y10) hE (fun n hn => Nat.lt_of_lt_of_le (hEb n hn) OC.le) BC c7 (by have := hB.lt; omega) (by rw [hL7]; exact Nat.le_refl 7) g7 (gd_old hE OC ha)
  refine ⟨a', some r, some (.ref S.length), some (.ref SA.length), some (.ref (SB.length + 7)), S', ?_, g, B, Nat.le_trans OC.le le⟩
  unfold fAll
  rw [ev_seq, fRow_ev, ← hr, ev_nnx, ev_seq, fRows_ev, ← hSA, ev_nnx, ev_seq, fOdd_ev, ← ht1, ← ht2, ← ht3, ← hSB, ev_nnx, ev_seq, e4, ev_nnx]
  exact e5
theorem cell_ev {ns : List Int} {k : Nat} {y2 y3 y4 y5 y6 y7 y8 y9 y10 : Option A} {S : Sto} (hk : k < 100) :
    ∃ z2 z3 z4 z5 z6 z7 z8 z9 z10 S', lb_law_3 [some (.lit (ns.map A.int)), some (.int (0 + (k : Int))), y2, y3, y4, y5, y6, y7, y8, y9, y10] S = .fl (.nx [some (.lit (ns.map A.int)), some (.int (0 + (k : Int))), z2, z3, z4, z5, z6, z7, z8, z9, z10]) S' := by
  obtain ⟨o, e1, B1⟩ := bag_ev (st := S) (ns := ns) (k := 0 + (k : Int)) (by omega) (by omega)
  obtain ⟨b, hb⟩ : ∃ b, b = S.length := ⟨_, rfl⟩
  rw [← hb] at e1 B1
  obtain ⟨S1, hS1⟩ : ∃ S1, S1 = S ++ [o] := ⟨_, rfl⟩
  rw [← hS1] at e1 B1
  obtain ⟨n, S2, e2, g2, o2, B2⟩ := draw_ev (E := (· = b)) (most := 12) (fun n hn => by rw [hn]; exact B1.lt) B1 (by decide) (by decide)
  have hEb : ∀ n, n = b → n < S2.length := fun n hn => by rw [hn]; exact B2.lt
  have lbE : lb_law_3 = (sSeq (sAsg (mCall 2 m__law_bag (mCons (mVar 0) (mCons (mVar 1) mNil))) (mgName 2))
 (sSeq (sAsg (mCall 2 m__law_history (mCons (mVar 2) (mCons (mC (.int 12)) mNil))) (mgName 3))
 (sSeq (sIf (mTest (mOp oEqX (mVar 1) (mC (.int 0)))) fAll sNext)
 (sFor (miR1 (mCons (mC (.int 8)) mNil)) (mgName 8) lb_law_1)))) := rfl
  have c8 : (-(2 ^ 62) ≤ (8 : Int) ∧ (8 : Int) < 2 ^ 62) = True := by simp
  have n8 : (8 : Int).toNat = 8 := rfl
  by_cases h0 : (0 + (k : Int)) = 0
  · obtain ⟨a', z4, z5, z6, z7, S3, e3, g3, B3, le3⟩ := fAll_ev (E := (· = b)) (x0 := .lit (ns.map A.int)) (x1 := .int (0 + (k : Int))) (y4 := y4) (y5 := y5) (y6 := y6) (y7 := y7) (y8 := y8) (y9 := y9) (y10 := y10) rfl hEb B2 g2
    obtain ⟨a4, z8, z9, S4, e4⟩ := turns_ev (E := (· = b)) (x0 := .lit (ns.map A.int)) (y1 := some (.int (0 + (k : Int)))) (y4 := z4) (y5 := z5) (y6 := z6) (y7 := z7) (y8 := y8) (y9 := y9) (y10 := y10) rfl (fun n hn => Nat.lt_of_lt_of_le (hEb n hn) le3) B3 g3
    refine ⟨some (.ref b), some a4, z4, z5, z6, z7, z8, z9, y10, S4, ?_⟩
    rw [lbE]
    have ht : decide ((0 + (k : Int)) = 0) = true := decide_eq_true h0
    simp only [ev_bok, ev_bno, ev_bex, ev_tok, ev_tno, ev_tex, ev_nnx, ev_nrt, ev_nbk, ev_nct, ev_nex, ev_nno, ev_frt, ev_fnx, ev_fex, ev_xok, ev_lsome, ev_lnone, ev_seq, ev_if, ev_ret, ev_retN, ev_drop, ev_nop, ev_brk, ev_cont, ev_asgN, ev_asgT, ev_asgO, ev_mgTup, ev_mgN, ev_mgC, ev_mg0, ev_putL, ev_putO, ev_var, ev_vr, ev_c, ev_op, ev_un, ev_test, ev_tb, ev_notT, ev_andT, ev_orT, ev_ifE, ev_not, ev_nb, ev_and, ev_andK, ev_or, ev_orK, ev_chain, ev_chK, ev_nil, ev_cons, ev_tup, ev_lst, ev_new, ev_call, ev_cb, ev_size, ev_addI, ev_addS, ev_addT, ev_addL, ev_catO, ev_sub, ev_mul, ev_div, ev_mod, ev_p5, ev_p6, ev_p12, ev_p18, ev_p30, ev_neg, ev_ltI, ev_ltS, ev_leI, ev_leS, ev_gt, ev_ge, ev_eqI, ev_eqS, ev_neI, ev_neS, ev_neB, ev_eqB, ev_is, ev_isnot, ev_ixT, ev_ixS, ev_ixR, ev_ixL, ev_ixK, ev_getL, ev_getM, ev_gL, ev_gM, ev_at0, ev_at1, ev_at2, ev_at3, ev_at4, ev_lenS, ev_lenR, ev_lenT, ev_lenL, ev_lenO, ev_lenD, ev_abs, ev_min2, ev_max2, ev_intI, ev_intB, ev_set, ev_fc, ev_setset, ev_last, ev_appk, ev_app0, ev_setk, ev_set0, ev_assoc, ev_lapp, ev_lappA, ev_sl, ev_nopart, ev_part, ev_ptK, ev_slT, ev_slS, ev_slR, ev_slK, ev_tyN, ev_tyB, ev_tyI, ev_tyS, ev_tyT, ev_tyL, ev_tyR, ev_tyRL, ev_isi, ev_isi1, ev_isi2, ev_isi3, ev_isi4, ev_isi5, ev_isiT, ev_isi2K, ev_isTy, ev_list, ev_listK, ev_tuple, ev_tupK, ev_getST, ev_getSR, ev_getSL, ev_all, ev_allK, ev_eqXI, ev_eqXS, ev_neXI, ev_neXS, ev_neXB, ev_eqXB, ev_eqXR, ev_neXR, ev_nil2, ev_eqK, ev_neK, ev_meth, ev_meth0, ev_mth1, ev_mth2, ev_mth3, ev_append, ev_m0, ev_m0K, ev_str, ev_for, ev_miR1, ev_rg1K, ev_miL, ev_liK, ev_miT, ev_tiK, ev_lc, ev_wipe0, ev_wipeS, ev_yes, ev_lenSet, ev_lenSetK, ev_listR, ev_lrK, ev_put2, ev_p2A, ev_p2K, ev_p2E, ev_put1, ev_pt1, ev_addXI, ev_addXB, ev_addXS, ev_addXT, ev_addXL, ev_subXI, ev_subXB, ev_mulXI, ev_mulXB, ev_mulXL, ev_negXI, ev_negXB, ev_strXI, ev_strXB, List.getElem?_cons_zero, List.getElem?_cons_succ, List.set_cons_zero, List.set_cons_succ, List.length_cons, List.length_nil, List.cons_append, List.nil_append, if_true, if_false, Bool.false_eq_true, Bool.true_eq_false, reduceIte, Bool.not_true, Bool.not_false, Bool.and_true, Bool.true_and, Bool.and_false, Bool.false_and, Bool.or_true, Bool.true_or, Bool.or_false, Bool.false_or, Nat.reduceAdd, Nat.reduceLeDiff, Nat.zero_add, Int.reduceLT, Int.reduceLE, Int.reduceEq, Int.reduceNeg, Nat.reduceEqDiff, and_self, and_true, true_and, decide_true, decide_false, eq_self, ite_true, ite_false, Int.reduceSub, Int.reduceAdd, Int.cast_ofNat_Int, Int.natCast_add, Int.cast_ofNat_Int, Nat.reduceSub, Nat.add_assoc, String.reduceBEq, String.reduceEq, Bool.or_not_self, beq_self_eq_true, e1, e2, ht]
    rw [e3]
    simp only [ev_bok, ev_bno, ev_bex, ev_tok, ev_tno, ev_tex, ev_nnx, ev_nrt, ev_nbk, ev_nct, ev_nex, ev_nno, ev_frt, ev_fnx, ev_fex, ev_xok, ev_lsome, ev_lnone, ev_seq, ev_if, ev_ret, ev_retN, ev_drop, ev_nop, ev_brk, ev_cont, ev_asgN, ev_asgT, ev_asgO, ev_mgTup, ev_mgN, ev_mgC, ev_mg0, ev_putL, ev_putO, ev_var, ev_vr, ev_c, ev_op, ev_un, ev_test, ev_tb, ev_notT, ev_andT, ev_orT, ev_ifE, ev_not, ev_nb, ev_and, ev_andK, ev_or, ev_orK, ev_chain, ev_chK, ev_nil, ev_cons, ev_tup, ev_lst, ev_new, ev_call, ev_cb, ev_size, ev_addI, ev_addS, ev_addT, ev_addL, ev_catO, ev_sub, ev_mul, ev_div, ev_mod, ev_p5, ev_p6, ev_p12, ev_p18, ev_p30, ev_neg, ev_ltI, ev_ltS, ev_leI, ev_leS, ev_gt, ev_ge, ev_eqI, ev_eqS, ev_neI, ev_neS, ev_neB, ev_eqB, ev_is, ev_isnot, ev_ixT, ev_ixS, ev_ixR, ev_ixL, ev_ixK, ev_getL, ev_getM, ev_gL, ev_gM, ev_at0, ev_at1, ev_at2, ev_at3, ev_at4, ev_lenS, ev_lenR, ev_lenT, ev_lenL, ev_lenO, ev_lenD, ev_abs, ev_min2, ev_max2, ev_intI, ev_intB, ev_set, ev_fc, ev_setset, ev_last, ev_appk, ev_app0, ev_setk, ev_set0, ev_assoc, ev_lapp, ev_lappA, ev_sl, ev_nopart, ev_part, ev_ptK, ev_slT, ev_slS, ev_slR, ev_slK, ev_tyN, ev_tyB, ev_tyI, ev_tyS, ev_tyT, ev_tyL, ev_tyR, ev_tyRL, ev_isi, ev_isi1, ev_isi2, ev_isi3, ev_isi4, ev_isi5, ev_isiT, ev_isi2K, ev_isTy, ev_list, ev_listK, ev_tuple, ev_tupK, ev_getST, ev_getSR, ev_getSL, ev_all, ev_allK, ev_eqXI, ev_eqXS, ev_neXI, ev_neXS, ev_neXB, ev_eqXB, ev_eqXR, ev_neXR, ev_nil2, ev_eqK, ev_neK, ev_meth, ev_meth0, ev_mth1, ev_mth2, ev_mth3, ev_append, ev_m0, ev_m0K, ev_str, ev_for, ev_miR1, ev_rg1K, ev_miL, ev_liK, ev_miT, ev_tiK, ev_lc, ev_wipe0, ev_wipeS, ev_yes, ev_lenSet, ev_lenSetK, ev_listR, ev_lrK, ev_put2, ev_p2A, ev_p2K, ev_p2E, ev_put1, ev_pt1, ev_addXI, ev_addXB, ev_addXS, ev_addXT, ev_addXL, ev_subXI, ev_subXB, ev_mulXI, ev_mulXB, ev_mulXL, ev_negXI, ev_negXB, ev_strXI, ev_strXB, List.getElem?_cons_zero, List.getElem?_cons_succ, List.set_cons_zero, List.set_cons_succ, List.length_cons, List.length_nil, List.cons_append, List.nil_append, if_true, if_false, Bool.false_eq_true, Bool.true_eq_false, reduceIte, Bool.not_true, Bool.not_false, Bool.and_true, Bool.true_and, Bool.and_false, Bool.false_and, Bool.or_true, Bool.true_or, Bool.or_false, Bool.false_or, decide_eq_true_eq, Nat.reduceAdd, Nat.reduceLeDiff, Nat.zero_add, Int.reduceLT, Int.reduceLE, Int.reduceEq, Int.reduceNeg, Nat.reduceEqDiff, and_self, and_true, true_and, decide_true, decide_false, eq_self, ite_true, ite_false, Int.reduceSub, Int.reduceAdd, Int.cast_ofNat_Int, Int.natCast_add, Int.cast_ofNat_Int, Nat.reduceSub, Nat.add_assoc, String.reduceBEq, String.reduceEq, Bool.or_not_self, beq_self_eq_true, c8, n8]
    exact e4
  · obtain ⟨a4, z8, z9, S4, e4⟩ := turns_ev (E := (· = b)) (x0 := .lit (ns.map A.int)) (y1 := some (.int (0 + (k : Int)))) (y4 := y4) (y5 := y5) (y6 := y6) (y7 := y7) (y8 := y8) (y9 := y9) (y10 := y10) rfl hEb B2 g2
    refine ⟨some (.ref b), some a4, y4, y5, y6, y7, z8, z9, y10, S4, ?_⟩
    rw [lbE]
    have ht : decide ((0 + (k : Int)) = 0) = false := decide_eq_false h0
    simp only [ev_bok, ev_bno, ev_bex, ev_tok, ev_tno, ev_tex, ev_nnx, ev_nrt, ev_nbk, ev_nct, ev_nex, ev_nno, ev_frt, ev_fnx, ev_fex, ev_xok, ev_lsome, ev_lnone, ev_seq, ev_if, ev_ret, ev_retN, ev_drop, ev_nop, ev_brk, ev_cont, ev_asgN, ev_asgT, ev_asgO, ev_mgTup, ev_mgN, ev_mgC, ev_mg0, ev_putL, ev_putO, ev_var, ev_vr, ev_c, ev_op, ev_un, ev_test, ev_tb, ev_notT, ev_andT, ev_orT, ev_ifE, ev_not, ev_nb, ev_and, ev_andK, ev_or, ev_orK, ev_chain, ev_chK, ev_nil, ev_cons, ev_tup, ev_lst, ev_new, ev_call, ev_cb, ev_size, ev_addI, ev_addS, ev_addT, ev_addL, ev_catO, ev_sub, ev_mul, ev_div, ev_mod, ev_p5, ev_p6, ev_p12, ev_p18, ev_p30, ev_neg, ev_ltI, ev_ltS, ev_leI, ev_leS, ev_gt, ev_ge, ev_eqI, ev_eqS, ev_neI, ev_neS, ev_neB, ev_eqB, ev_is, ev_isnot, ev_ixT, ev_ixS, ev_ixR, ev_ixL, ev_ixK, ev_getL, ev_getM, ev_gL, ev_gM, ev_at0, ev_at1, ev_at2, ev_at3, ev_at4, ev_lenS, ev_lenR, ev_lenT, ev_lenL, ev_lenO, ev_lenD, ev_abs, ev_min2, ev_max2, ev_intI, ev_intB, ev_set, ev_fc, ev_setset, ev_last, ev_appk, ev_app0, ev_setk, ev_set0, ev_assoc, ev_lapp, ev_lappA, ev_sl, ev_nopart, ev_part, ev_ptK, ev_slT, ev_slS, ev_slR, ev_slK, ev_tyN, ev_tyB, ev_tyI, ev_tyS, ev_tyT, ev_tyL, ev_tyR, ev_tyRL, ev_isi, ev_isi1, ev_isi2, ev_isi3, ev_isi4, ev_isi5, ev_isiT, ev_isi2K, ev_isTy, ev_list, ev_listK, ev_tuple, ev_tupK, ev_getST, ev_getSR, ev_getSL, ev_all, ev_allK, ev_eqXI, ev_eqXS, ev_neXI, ev_neXS, ev_neXB, ev_eqXB, ev_eqXR, ev_neXR, ev_nil2, ev_eqK, ev_neK, ev_meth, ev_meth0, ev_mth1, ev_mth2, ev_mth3, ev_append, ev_m0, ev_m0K, ev_str, ev_for, ev_miR1, ev_rg1K, ev_miL, ev_liK, ev_miT, ev_tiK, ev_lc, ev_wipe0, ev_wipeS, ev_yes, ev_lenSet, ev_lenSetK, ev_listR, ev_lrK, ev_put2, ev_p2A, ev_p2K, ev_p2E, ev_put1, ev_pt1, ev_addXI, ev_addXB, ev_addXS, ev_addXT, ev_addXL, ev_subXI, ev_subXB, ev_mulXI, ev_mulXB, ev_mulXL, ev_negXI, ev_negXB, ev_strXI, ev_strXB, List.getElem?_cons_zero, List.getElem?_cons_succ, List.set_cons_zero, List.set_cons_succ, List.length_cons, List.length_nil, List.cons_append, List.nil_append, if_true, if_false, Bool.false_eq_true, Bool.true_eq_false, reduceIte, Bool.not_true, Bool.not_false, Bool.and_true, Bool.true_and, Bool.and_false, Bool.false_and, Bool.or_true, Bool.true_or, Bool.or_false, Bool.false_or, Nat.reduceAdd, Nat.reduceLeDiff, Nat.zero_add, Int.reduceLT, Int.reduceLE, Int.reduceEq, Int.reduceNeg, Nat.reduceEqDiff, and_self, and_true, true_and, decide_true, decide_false, eq_self, ite_true, ite_false, Int.reduceSub, Int.reduceAdd, Int.cast_ofNat_Int, Int.natCast_add, Int.cast_ofNat_Int, Nat.reduceSub, Nat.add_assoc, String.reduceBEq, String.reduceEq, Bool.or_not_self, beq_self_eq_true, e1, e2, ht, c8, n8]
    exact e4
theorem law_true : ∀ ns : List Int, ns.length ≤ 63 → ∃ st, m_law [.lit (ns.map A.int)] [] = .ok (.bl true) st := fun ns hl => by
  obtain ⟨m, hm, hm2⟩ : ∃ m : Int, m = 1 + (if (20 : Int) < (ns.length : Nat) then 20 else ((ns.length : Nat) : Int)) ∧ m < 100 ∧ 0 ≤ m := ⟨_, rfl, by split <;> omega, by split <;> omega⟩
  obtain ⟨e2, S', e, z2, z3, z4, z5, z6, z7, z8, z9, z10, z1, rfl⟩ := forL_inv (ok := okT) (g := mgName 1) (b := lb_law_3) (xs := rngA 0 m.toNat) (j := 0) (fun _ env _ => ∃ z2 z3 z4 z5 z6 z7 z8 z9 z10 z1, env = [some (.lit (ns.map A.int)), z1, z2, z3, z4, z5, z6, z7, z8, z9, z10]) (fun _ _ _ _ => trivial) (fun i x hx env S hI => by
    obtain ⟨z2, z3, z4, z5, z6, z7, z8, z9, z10, z1, rfl⟩ := hI
    obtain ⟨rfl, hi⟩ := rngA_get hx
    obtain ⟨w2, w3, w4, w5, w6, w7, w8, w9, w10, S', e⟩ := cell_ev (ns := ns) (k := i) (y2 := z2) (y3 := z3) (y4 := z4) (y5 := z5) (y6 := z6) (y7 := z7) (y8 := z8) (y9 := z9) (y10 := z10) (S := S) (by omega)
    exact ⟨_, _, S', rfl, e, w2, w3, w4, w5, w6, w7, w8, w9, w10, _, rfl⟩) [some (.lit (ns.map A.int)), none, none, none, none, none, none, none, none, none, none] [] ⟨none, none, none, none, none, none, none, none, none, none, rfl⟩
  refine ⟨S', ?_⟩
  rw [st_law]
  unfold b_law
  have c1 : (-(2 ^ 62) ≤ m ∧ m < 2 ^ 62) = True := eq_true ⟨by omega, by omega⟩
  rw [← List.length_map (f := A.int) (as := ns)] at hm
  simp only [ev_bok, ev_bno, ev_bex, ev_tok, ev_tno, ev_tex, ev_nnx, ev_nrt, ev_nbk, ev_nct, ev_nex, ev_nno, ev_frt, ev_fnx, ev_fex, ev_xok, ev_lsome, ev_lnone, ev_seq, ev_if, ev_ret, ev_retN, ev_drop, ev_nop, ev_brk, ev_cont, ev_asgN, ev_asgT, ev_asgO, ev_mgTup, ev_mgN, ev_mgC, ev_mg0, ev_putL, ev_putO, ev_var, ev_vr, ev_c, ev_op, ev_un, ev_test, ev_tb, ev_notT, ev_andT, ev_orT, ev_ifE, ev_not, ev_nb, ev_and, ev_andK, ev_or, ev_orK, ev_chain, ev_chK, ev_nil, ev_cons, ev_tup, ev_lst, ev_new, ev_call, ev_cb, ev_size, ev_addI, ev_addS, ev_addT, ev_addL, ev_catO, ev_sub, ev_mul, ev_div, ev_mod, ev_p5, ev_p6, ev_p12, ev_p18, ev_p30, ev_neg, ev_ltI, ev_ltS, ev_leI, ev_leS, ev_gt, ev_ge, ev_eqI, ev_eqS, ev_neI, ev_neS, ev_neB, ev_eqB, ev_is, ev_isnot, ev_ixT, ev_ixS, ev_ixR, ev_ixL, ev_ixK, ev_getL, ev_getM, ev_gL, ev_gM, ev_at0, ev_at1, ev_at2, ev_at3, ev_at4, ev_lenS, ev_lenR, ev_lenT, ev_lenL, ev_lenO, ev_lenD, ev_abs, ev_min2, ev_max2, ev_intI, ev_intB, ev_set, ev_fc, ev_setset, ev_last, ev_appk, ev_app0, ev_setk, ev_set0, ev_assoc, ev_lapp, ev_lappA, ev_sl, ev_nopart, ev_part, ev_ptK, ev_slT, ev_slS, ev_slR, ev_slK, ev_tyN, ev_tyB, ev_tyI, ev_tyS, ev_tyT, ev_tyL, ev_tyR, ev_tyRL, ev_isi, ev_isi1, ev_isi2, ev_isi3, ev_isi4, ev_isi5, ev_isiT, ev_isi2K, ev_isTy, ev_list, ev_listK, ev_tuple, ev_tupK, ev_getST, ev_getSR, ev_getSL, ev_all, ev_allK, ev_eqXI, ev_eqXS, ev_neXI, ev_neXS, ev_neXB, ev_eqXB, ev_eqXR, ev_neXR, ev_nil2, ev_eqK, ev_neK, ev_meth, ev_meth0, ev_mth1, ev_mth2, ev_mth3, ev_append, ev_m0, ev_m0K, ev_str, ev_for, ev_miR1, ev_rg1K, ev_miL, ev_liK, ev_miT, ev_tiK, ev_lc, ev_wipe0, ev_wipeS, ev_yes, ev_lenSet, ev_lenSetK, ev_listR, ev_lrK, ev_put2, ev_p2A, ev_p2K, ev_p2E, ev_put1, ev_pt1, ev_addXI, ev_addXB, ev_addXS, ev_addXT, ev_addXL, ev_subXI, ev_subXB, ev_mulXI, ev_mulXB, ev_mulXL, ev_negXI, ev_negXB, ev_strXI, ev_strXB, List.getElem?_cons_zero, List.getElem?_cons_succ, List.set_cons_zero, List.set_cons_succ, List.length_cons, List.length_nil, List.cons_append, List.nil_append, if_true, if_false, Bool.false_eq_true, Bool.true_eq_false, reduceIte, Bool.not_true, Bool.not_false, Bool.and_true, Bool.true_and, Bool.and_false, Bool.false_and, Bool.or_true, Bool.true_or, Bool.or_false, Bool.false_or, decide_eq_true_eq, Nat.reduceAdd, Nat.reduceLeDiff, Nat.zero_add, Int.reduceLT, Int.reduceLE, Int.reduceEq, Int.reduceNeg, Nat.reduceEqDiff, and_self, and_true, true_and, decide_true, decide_false, eq_self, ite_true, ite_false, Int.reduceSub, Int.reduceAdd, Int.cast_ofNat_Int, Int.natCast_add, Int.cast_ofNat_Int, Nat.reduceSub, Nat.add_assoc, String.reduceBEq, String.reduceEq, Bool.or_not_self, beq_self_eq_true, ← hm, c1]
  rw [e]
  rfl

end
theorem all_mk {l : PySem.W.OpenLaw} {w : World} {K : PySem.W.Frag} {h : Heap} {mg : Str → Option Value} {fa f0 f1 f2 f3 f4 f5 f6 f7 f8 f9 f10 f11 f12 f13 f14 f15 : Addr} (X : K.In h) (G : h.Ns mainGlobals mg) (hfa : mg "law" = some (.ref fa))
    {od0 an0 : Option Addr} {sl0 : Array (Option Value)} {oc0 kV0 dc0 pm0 cd0 ct0 : Value} {od1 an1 : Option Addr} {sl1 : Array (Option Value)} {oc1 kV1 dc1 pm1 cd1 ct1 : Value} {od2 an2 : Option Addr} {sl2 : Array (Option Value)} {oc2 kV2 dc2 pm2 cd2 ct2 : Value} {od3 an3 : Option Addr} {sl3 : Array (Option Value)} {oc3 kV3 dc3 pm3 cd3 ct3 : Value} {od4 an4 : Option Addr} {sl4 : Array (Option Value)} {oc4 kV4 dc4 pm4 cd4 ct4 : Value} {od5 an5 : Option Addr} {sl5 : Array (Option Value)} {oc5 kV5 dc5 pm5 cd5 ct5 : Value} {od6 an6 : Option Addr} {sl6 : Array (Option Value)} {oc6 kV6 dc6 pm6 cd6 ct6 : Value} {od7 an7 : Option Addr} {sl7 : Array (Option Value)} {oc7 kV7 dc7 pm7 cd7 ct7 : Value} {od8 an8 : Option Addr} {sl8 : Array (Option Value)} {oc8 kV8 dc8 pm8 cd8 ct8 : Value} {od9 an9 : Option Addr} {sl9 : Array (Option Value)} {oc9 kV9 dc9 pm9 cd9 ct9 : Value} {od10 an10 : Option Addr} {sl10 : Array (Option Value)} {oc10 kV10 dc10 pm10 cd10 ct10 : Value} {od11 an11 : Option Addr} {sl11 : Array (Option Value)} {oc11 kV11 dc11 pm11 cd11 ct11 : Value} {od12 an12 : Option Addr} {sl12 : Array (Option Value)} {oc12 kV12 dc12 pm12 cd12 ct12 : Value} {od13 an13 : Option Addr} {sl13 : Array (Option Value)} {oc13 kV13 dc13 pm13 cd13 ct13 : Value} {od14 an14 : Option Addr} {sl14 : Array (Option Value)} {oc14 kV14 dc14 pm14 cd14 ct14 : Value} {od15 an15 : Option Addr} {sl15 : Array (Option Value)} {oc15 kV15 dc15 pm15 cd15 ct15 : Value} {tc_GREATEST_VALUE : Tok} {tc_MOST_TASKS : Tok} {tc_LAST_TIME : Tok}
    (a0 : PySem.W.nsIn K mainGlobals "is_whole" = some (some (.ref f0)))
    (l0 : K.lookup f0 = some ⟨oc0, od0, .func (PySem.W.fnOf "is_whole" "is_whole" (defArgs s_is_whole) (defBody s_is_whole) (defScope s_is_whole) .none kV0 dc0 pm0 an0 cd0 ct0), sl0⟩)
    (c0 : PySem.W.codeIn K cd0 "is_whole" = true) (k0 : PySem.W.keepIn K (.ref f0) = true)
    (a1 : PySem.W.nsIn K mainGlobals "is_number" = some (some (.ref f1)))
    (l1 : K.lookup f1 = some ⟨oc1, od1, .func (PySem.W.fnOf "is_number" "is_number" (defArgs s_is_number) (defBody s_is_number) (defScope s_is_number) .none kV1 dc1 pm1 an1 cd1 ct1), sl1⟩)
    (c1 : PySem.W.codeIn K cd1 "is_number" = true) (k1 : PySem.W.keepIn K (.ref f1) = true)
    (a2 : PySem.W.nsIn K mainGlobals "is_within" = some (some (.ref f2)))
    (l2 : K.lookup f2 = some ⟨oc2, od2, .func (PySem.W.fnOf "is_within" "is_within" (defArgs s_is_within) (defBody s_is_within) (defScope s_is_within) .none kV2 dc2 pm2 an2 cd2 ct2), sl2⟩)
    (c2 : PySem.W.codeIn K cd2 "is_within" = true) (k2 : PySem.W.keepIn K (.ref f2) = true)
    (a3 : PySem.W.nsIn K mainGlobals "is_tuple" = some (some (.ref f3)))
    (l3 : K.lookup f3 = some ⟨oc3, od3, .func (PySem.W.fnOf "is_tuple" "is_tuple" (defArgs s_is_tuple) (defBody s_is_tuple) (defScope s_is_tuple) .none kV3 dc3 pm3 an3 cd3 ct3), sl3⟩)
    (c3 : PySem.W.codeIn K cd3 "is_tuple" = true) (k3 : PySem.W.keepIn K (.ref f3) = true)
    (a4 : PySem.W.nsIn K mainGlobals "are_unlike" = some (some (.ref f4)))
    (l4 : K.lookup f4 = some ⟨oc4, od4, .func (PySem.W.fnOf "are_unlike" "are_unlike" (defArgs s_are_unlike) (defBody s_are_unlike) (defScope s_are_unlike) .none kV4 dc4 pm4 an4 cd4 ct4), sl4⟩)
    (c4 : PySem.W.codeIn K cd4 "are_unlike" = true) (k4 : PySem.W.keepIn K (.ref f4) = true)
    (a5 : PySem.W.nsIn K mainGlobals "is_history_row" = some (some (.ref f5)))
    (l5 : K.lookup f5 = some ⟨oc5, od5, .func (PySem.W.fnOf "is_history_row" "is_history_row" (defArgs s_is_history_row) (defBody s_is_history_row) (defScope s_is_history_row) .none kV5 dc5 pm5 an5 cd5 ct5), sl5⟩)
    (c5 : PySem.W.codeIn K cd5 "is_history_row" = true) (k5 : PySem.W.keepIn K (.ref f5) = true)
    (a6 : PySem.W.nsIn K mainGlobals "is_history" = some (some (.ref f6)))
    (l6 : K.lookup f6 = some ⟨oc6, od6, .func (PySem.W.fnOf "is_history" "is_history" (defArgs s_is_history) (defBody s_is_history) (defScope s_is_history) .none kV6 dc6 pm6 an6 cd6 ct6), sl6⟩)
    (c6 : PySem.W.codeIn K cd6 "is_history" = true) (k6 : PySem.W.keepIn K (.ref f6) = true)
    (a7 : PySem.W.nsIn K mainGlobals "_law_bag" = some (some (.ref f7)))
    (l7 : K.lookup f7 = some ⟨oc7, od7, .func (PySem.W.fnOf "_law_bag" "_law_bag" (defArgs s__law_bag) (defBody s__law_bag) (defScope s__law_bag) .none kV7 dc7 pm7 an7 cd7 ct7), sl7⟩)
    (c7 : PySem.W.codeIn K cd7 "_law_bag" = true) (k7 : PySem.W.keepIn K (.ref f7) = true)
    (a8 : PySem.W.nsIn K mainGlobals "_law_take" = some (some (.ref f8)))
    (l8 : K.lookup f8 = some ⟨oc8, od8, .func (PySem.W.fnOf "_law_take" "_law_take" (defArgs s__law_take) (defBody s__law_take) (defScope s__law_take) .none kV8 dc8 pm8 an8 cd8 ct8), sl8⟩)
    (c8 : PySem.W.codeIn K cd8 "_law_take" = true) (k8 : PySem.W.keepIn K (.ref f8) = true)
    (a9 : PySem.W.nsIn K mainGlobals "_law_whole" = some (some (.ref f9)))
    (l9 : K.lookup f9 = some ⟨oc9, od9, .func (PySem.W.fnOf "_law_whole" "_law_whole" (defArgs s__law_whole) (defBody s__law_whole) (defScope s__law_whole) .none kV9 dc9 pm9 an9 cd9 ct9), sl9⟩)
    (c9 : PySem.W.codeIn K cd9 "_law_whole" = true) (k9 : PySem.W.keepIn K (.ref f9) = true)
    (a10 : PySem.W.nsIn K mainGlobals "_law_within" = some (some (.ref f10)))
    (l10 : K.lookup f10 = some ⟨oc10, od10, .func (PySem.W.fnOf "_law_within" "_law_within" (defArgs s__law_within) (defBody s__law_within) (defScope s__law_within) .none kV10 dc10 pm10 an10 cd10 ct10), sl10⟩)
    (c10 : PySem.W.codeIn K cd10 "_law_within" = true) (k10 : PySem.W.keepIn K (.ref f10) = true)
    (a11 : PySem.W.nsIn K mainGlobals "_law_odd" = some (some (.ref f11)))
    (l11 : K.lookup f11 = some ⟨oc11, od11, .func (PySem.W.fnOf "_law_odd" "_law_odd" (defArgs s__law_odd) (defBody s__law_odd) (defScope s__law_odd) .none kV11 dc11 pm11 an11 cd11 ct11), sl11⟩)
    (c11 : PySem.W.codeIn K cd11 "_law_odd" = true) (k11 : PySem.W.keepIn K (.ref f11) = true)
    (a12 : PySem.W.nsIn K mainGlobals "_law_spoilt" = some (some (.ref f12)))
    (l12 : K.lookup f12 = some ⟨oc12, od12, .func (PySem.W.fnOf "_law_spoilt" "_law_spoilt" (defArgs s__law_spoilt) (defBody s__law_spoilt) (defScope s__law_spoilt) .none kV12 dc12 pm12 an12 cd12 ct12), sl12⟩)
    (c12 : PySem.W.codeIn K cd12 "_law_spoilt" = true) (k12 : PySem.W.keepIn K (.ref f12) = true)
    (a13 : PySem.W.nsIn K mainGlobals "_law_is_history" = some (some (.ref f13)))
    (l13 : K.lookup f13 = some ⟨oc13, od13, .func (PySem.W.fnOf "_law_is_history" "_law_is_history" (defArgs s__law_is_history) (defBody s__law_is_history) (defScope s__law_is_history) .none kV13 dc13 pm13 an13 cd13 ct13), sl13⟩)
    (c13 : PySem.W.codeIn K cd13 "_law_is_history" = true) (k13 : PySem.W.keepIn K (.ref f13) = true)
    (a14 : PySem.W.nsIn K mainGlobals "_law_history" = some (some (.ref f14)))
    (l14 : K.lookup f14 = some ⟨oc14, od14, .func (PySem.W.fnOf "_law_history" "_law_history" (defArgs s__law_history) (defBody s__law_history) (defScope s__law_history) .none kV14 dc14 pm14 an14 cd14 ct14), sl14⟩)
    (c14 : PySem.W.codeIn K cd14 "_law_history" = true) (k14 : PySem.W.keepIn K (.ref f14) = true)
    (a15 : PySem.W.nsIn K mainGlobals "law" = some (some (.ref f15)))
    (l15 : K.lookup f15 = some ⟨oc15, od15, .func (PySem.W.fnOf "law" "law" (defArgs s_law) (defBody s_law) (defScope s_law) .none kV15 dc15 pm15 an15 cd15 ct15), sl15⟩)
    (c15 : PySem.W.codeIn K cd15 "law" = true) (k15 : PySem.W.keepIn K (.ref f15) = true)
    (g_GREATEST_VALUE : PySem.W.nsIn K mainGlobals "GREATEST_VALUE" = some (some (.int 999 tc_GREATEST_VALUE)))
    (g_MOST_TASKS : PySem.W.nsIn K mainGlobals "MOST_TASKS" = some (some (.int 60 tc_MOST_TASKS)))
    (g_LAST_TIME : PySem.W.nsIn K mainGlobals "LAST_TIME" = some (some (.int 1000000 tc_LAST_TIME)))
    (z_abs : PySem.W.nsIn K mainGlobals "abs" = some none)
    (z_all : PySem.W.nsIn K mainGlobals "all" = some none)
    (z_bool : PySem.W.nsIn K mainGlobals "bool" = some none)
    (z_int : PySem.W.nsIn K mainGlobals "int" = some none)
    (z_isinstance : PySem.W.nsIn K mainGlobals "isinstance" = some none)
    (z_len : PySem.W.nsIn K mainGlobals "len" = some none)
    (z_list : PySem.W.nsIn K mainGlobals "list" = some none)
    (z_max : PySem.W.nsIn K mainGlobals "max" = some none)
    (z_min : PySem.W.nsIn K mainGlobals "min" = some none)
    (z_range : PySem.W.nsIn K mainGlobals "range" = some none)
    (z_set : PySem.W.nsIn K mainGlobals "set" = some none)
    (z_str : PySem.W.nsIn K mainGlobals "str" = some none)
    (z_tuple : PySem.W.nsIn K mainGlobals "tuple" = some none) :
    ∃ fd : FuncData, (∀ (s : Shared) (v : Value), BindsTo s fd ⟨[v], []⟩ [("script", v)]) ∧ ∀ base : Heap, K.In base → base.Ns mainGlobals mg → FnOk l.prog w K mg base CX0 28 fa fd ["script"] (splaw K) := by
  have N : Fre K mg := ⟨PySem.W.mg_none_of X G z_abs, PySem.W.mg_none_of X G z_all, PySem.W.mg_none_of X G z_bool, PySem.W.mg_none_of X G z_int, PySem.W.mg_none_of X G z_isinstance, PySem.W.mg_none_of X G z_len, PySem.W.mg_none_of X G z_list, PySem.W.mg_none_of X G z_max, PySem.W.mg_none_of X G z_min, PySem.W.mg_none_of X G z_range, PySem.W.mg_none_of X G z_set, PySem.W.mg_none_of X G z_str, PySem.W.mg_none_of X G z_tuple, ⟨_, PySem.W.mg_of X G g_GREATEST_VALUE⟩, ⟨_, PySem.W.mg_of X G g_MOST_TASKS⟩, ⟨_, PySem.W.mg_of X G g_LAST_TIME⟩⟩
  have e := hfa.symm.trans (PySem.W.mg_of X G a15)
  cases e
  have F0 := fun_mk (st := s_is_whole) l0 c0 k0
  have F1 := fun_mk (st := s_is_number) l1 c1 k1
  have F2 := fun_mk (st := s_is_within) l2 c2 k2
  have F3 := fun_mk (st := s_is_tuple) l3 c3 k3
  have F4 := fun_mk (st := s_are_unlike) l4 c4 k4
  have F5 := fun_mk (st := s_is_history_row) l5 c5 k5
  have F6 := fun_mk (st := s_is_history) l6 c6 k6
  have F7 := fun_mk (st := s__law_bag) l7 c7 k7
  have F8 := fun_mk (st := s__law_take) l8 c8 k8
  have F9 := fun_mk (st := s__law_whole) l9 c9 k9
  have F10 := fun_mk (st := s__law_within) l10 c10 k10
  have F11 := fun_mk (st := s__law_odd) l11 c11 k11
  have F12 := fun_mk (st := s__law_spoilt) l12 c12 k12
  have F13 := fun_mk (st := s__law_is_history) l13 c13 k13
  have F14 := fun_mk (st := s__law_history) l14 c14 k14
  have F15 := fun_mk (st := s_law) l15 c15 k15
  refine ⟨PySem.W.fnOf "law" "law" (defArgs s_law) (defBody s_law) (defScope s_law) .none kV15 dc15 pm15 an15 cd15 ct15, fun s v => .of_eq rfl, fun base _ _ => ?_⟩
  have c_is_whole := ok_is_whole (base := base) (P := l.prog) (w := w) F0 (PySem.W.mg_of X G a0) N
  have c_is_number := ok_is_number (base := base) (P := l.prog) (w := w) F1 (PySem.W.mg_of X G a1) N c_is_whole
  have c_is_within := ok_is_within (base := base) (P := l.prog) (w := w) F2 (PySem.W.mg_of X G a2) N c_is_whole
  have c_is_tuple := ok_is_tuple (base := base) (P := l.prog) (w := w) F3 (PySem.W.mg_of X G a3) N
  have c_are_unlike := ok_are_unlike (base := base) (P := l.prog) (w := w) F4 (PySem.W.mg_of X G a4) N
  have c_is_history_row := ok_is_history_row (base := base) (P := l.prog) (w := w) F5 (PySem.W.mg_of X G a5) N c_is_number c_is_tuple c_is_within
  have c_is_history := ok_is_history (base := base) (P := l.prog) (w := w) F6 (PySem.W.mg_of X G a6) N c_are_unlike c_is_history_row
  have c__law_bag := ok__law_bag (base := base) (P := l.prog) (w := w) F7 (PySem.W.mg_of X G a7) N
  have c__law_take := ok__law_take (base := base) (P := l.prog) (w := w) F8 (PySem.W.mg_of X G a8) N
  have c__law_whole := ok__law_whole (base := base) (P := l.prog) (w := w) F9 (PySem.W.mg_of X G a9) N
  have c__law_within := ok__law_within (base := base) (P := l.prog) (w := w) F10 (PySem.W.mg_of X G a10) N
  have c__law_odd := ok__law_odd (base := base) (P := l.prog) (w := w) F11 (PySem.W.mg_of X G a11) N c__law_take
  have c__law_spoilt := ok__law_spoilt (base := base) (P := l.prog) (w := w) F12 (PySem.W.mg_of X G a12) N c__law_odd c__law_take
  have c__law_is_history := ok__law_is_history (base := base) (P := l.prog) (w := w) F13 (PySem.W.mg_of X G a13) N c__law_whole c__law_within
  have c__law_history := ok__law_history (base := base) (P := l.prog) (w := w) F14 (PySem.W.mg_of X G a14) N c__law_take
  exact ok_law_of law_true (base := base) (P := l.prog) (w := w) F15 N c__law_bag c__law_history c__law_is_history c__law_odd c__law_spoilt c_is_history
end My
open PySem PySem.W PyProof.Rows
set_option maxRecDepth 100000 in
set_option maxHeartbeats 0 in
theorem PySem.Challenge.cw_pagelend_k46_histories_told_holds : PySem.Challenge.rw_pagelend_k46_histories_told.Holds := by
  w_on; o_law; k_head; (case hw => w_witness2)
  k_fill
  refine L2.walk_of (l := PySem.Challenge.rw_pagelend_k46_histories_told) (n := 63) (k := 28) (x := "script") (CX := fun _ => L2.CX0) (sp := fun w => My.splaw _) rfl (by decide) rfl ⟨rfl, by decide, by decide⟩ (fun w h Y => PySem.W.kIn_of Y) ?F (fun _ _ a ns hl hO hS => ⟨a, ns, rfl, hO, hS, hl, fun _ => rfl⟩) (fun _ _ _ _ _ h => h)
  case F =>
    intro w mg fa h KX G hmg
    refine' My.all_mk KX G hmg ?a0 ?l0 ?c0 ?k0 ?a1 ?l1 ?c1 ?k1 ?a2 ?l2 ?c2 ?k2 ?a3 ?l3 ?c3 ?k3 ?a4 ?l4 ?c4 ?k4 ?a5 ?l5 ?c5 ?k5 ?a6 ?l6 ?c6 ?k6 ?a7 ?l7 ?c7 ?k7 ?a8 ?l8 ?c8 ?k8 ?a9 ?l9 ?c9 ?k9 ?a10 ?l10 ?c10 ?k10 ?a11 ?l11 ?c11 ?k11 ?a12 ?l12 ?c12 ?k12 ?a13 ?l13 ?c13 ?k13 ?a14 ?l14 ?c14 ?k14 ?a15 ?l15 ?c15 ?k15 ?g_GREATEST_VALUE ?g_MOST_TASKS ?g_LAST_TIME ?z_abs ?z_all ?z_bool ?z_int ?z_isinstance ?z_len ?z_list ?z_max ?z_min ?z_range ?z_set ?z_str ?z_tuple
    (case a0 => k_is); (case l0 => k_is); (case c0 => k_is); (case k0 => k_is); (case a1 => k_is); (case l1 => k_is); (case c1 => k_is); (case k1 => k_is); (case a2 => k_is); (case l2 => k_is); (case c2 => k_is); (case k2 => k_is); (case a3 => k_is); (case l3 => k_is); (case c3 => k_is); (case k3 => k_is); (case a4 => k_is); (case l4 => k_is); (case c4 => k_is); (case k4 => k_is); (case a5 => k_is); (case l5 => k_is); (case c5 => k_is); (case k5 => k_is); (case a6 => k_is); (case l6 => k_is); (case c6 => k_is); (case k6 => k_is); (case a7 => k_is); (case l7 => k_is); (case c7 => k_is); (case k7 => k_is); (case a8 => k_is); (case l8 => k_is); (case c8 => k_is); (case k8 => k_is); (case a9 => k_is); (case l9 => k_is); (case c9 => k_is); (case k9 => k_is); (case a10 => k_is); (case l10 => k_is); (case c10 => k_is); (case k10 => k_is); (case a11 => k_is); (case l11 => k_is); (case c11 => k_is); (case k11 => k_is); (case a12 => k_is); (case l12 => k_is); (case c12 => k_is); (case k12 => k_is); (case a13 => k_is); (case l13 => k_is); (case c13 => k_is); (case k13 => k_is); (case a14 => k_is); (case l14 => k_is); (case c14 => k_is); (case k14 => k_is); (case a15 => k_is); (case l15 => k_is); (case c15 => k_is); (case k15 => k_is); (case g_GREATEST_VALUE => k_is); (case g_MOST_TASKS => k_is); (case g_LAST_TIME => k_is); (case z_abs => k_is); (case z_all => k_is); (case z_bool => k_is); (case z_int => k_is); (case z_isinstance => k_is); (case z_len => k_is); (case z_list => k_is); (case z_max => k_is); (case z_min => k_is); (case z_range => k_is); (case z_set => k_is); (case z_str => k_is); (case z_tuple => k_is)

