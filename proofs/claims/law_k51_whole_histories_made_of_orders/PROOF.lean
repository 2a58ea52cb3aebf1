
import PyProof.Rows.All
import Wide.All
import OpenK.AllK
import Wide.FinOn
import HandS.SortInts
import PySem.Challenge.RW_pagelend_k51_whole_histories_made_of_ord
import HandS.ForMost
import HandS.Wide
import HandS.Defaults
import HandS.MakeKwOnly
import HandS.IsInst
import HandS.Codes
import HandS.Walk
import HandS.TupAny
import HandS.More
import HandS.Sort
import HandS.Conv
import HandS.HotCalls
import HandS.ExcIs
import KE.KSortTupAny
import HandS.DictComp
import HandS.Deep
import HandS.Rev
import KE.KDictKeyed
import HandS.SetFor
import HandS.Strs
import HandS.SortOrd
import HandS.SortRule
import HandS.Zip
import HandS.TupMul
set_option Elab.async false
set_option linter.all false
set_option maxRecDepth 100000
set_option maxHeartbeats 1000000
namespace My
open PySem PySem.Spec PyProof.Rows L2
def topS (i : Nat) : Stmt := PySem.Challenge.pw_pagelend_k51_whole_histories_made_of_ord.main.body.getD i (.Pass ⟨0, 0, 0, 0⟩)
structure Fre (K : PySem.W.Frag) (mg : Str → Option Value) : Prop where
  abs : mg "abs" = none
  all : mg "all" = none
  bool : mg "bool" = none
  int : mg "int" = none
  isinstance : mg "isinstance" = none
  len : mg "len" = none
  list : mg "list" = none
  max : mg "max" = none
  min : mg "min" = none
  range : mg "range" = none
  set : mg "set" = none
  sorted : mg "sorted" = none
  tuple : mg "tuple" = none
  c_GREATEST_VALUE : ∃ t, mg "GREATEST_VALUE" = some (.int 999 t)
  c_MOST_TASKS : ∃ t, mg "MOST_TASKS" = some (.int 60 t)
  c_LAST_TIME : ∃ t, mg "LAST_TIME" = some (.int 1000000 t)
/-! ### calls with keywords, a def kept as its promise -/
structure CalN (P : Program) (w : World) (K : PySem.W.Frag) (mg : Str → Option Value) (base : Heap) (k : Nat) (x : Str) (sp : Sp) (n : Nat) (ks : List Str) (gV : List V → List V → List V) : Prop where
  ex : ∃ (f : Addr) (fd : FuncData) (ps : List Str) (g : List Value → List Value → List Value), FnOk P w K mg base CX0 k f fd ps sp ∧ mg x = some (.ref f) ∧ PySem.W.keepIn K (.ref f) = true ∧ KBn K fd ps n ks g gV
section
variable {X : Cx} {k j n : Nat} {x : Str} {sp : Sp} {ks : List Str} {gV : List V → List V → List V} {p pos : Pos} {e : Expr} {es : List Expr} {kws : List Keyword} {t tk : TA}
theorem pe_cn (c : CalN X.prog X.w X.K X.mg X.base k x sp n ks gV) (hr : Room j X.A) (hk : k ≤ j) (hg : Gl X x) (ha : PA X (e :: es) t) (hkw : PK X kws tk)
    (hall : (backToKw pos (keywordEach kws X.env)).all (·.1.isSome) = true := by rfl) (hks : (backToKw pos (keywordEach kws X.env)).filterMap (·.1) = ks := by rfl)
    (hdb : (x == ("__debug__" : Str)) = false := by decide) (he : starEach (e :: es) X.env = (false, eval e X.env) :: starEach es X.env := by rfl)
    (hpl : ((backTo pos (starEach (e :: es) X.env)).any (·.1) || (backToKw pos (keywordEach kws X.env)).any (·.1.isNone)) = false := by rfl) :
    PE X (.Call (.Name x p) (e :: es) kws pos) (tCallN n ks.length sp gV E0 t tk) := by
  obtain ⟨f, fd, ps, g, F, hm, kp, b⟩ := c.ex
  exact pe_callN F (hr.mono hk) hg hm kp b pass0 ha hkw hall hks hdb he hpl
theorem pe_cn0 (c : CalN X.prog X.w X.K X.mg X.base k x sp 0 ks gV) (hr : Room j X.A) (hk : k ≤ j) (hg : Gl X x) (hkw : PK X kws tk)
    (hall : (backToKw pos (keywordEach kws X.env)).all (·.1.isSome) = true := by rfl) (hks : (backToKw pos (keywordEach kws X.env)).filterMap (·.1) = ks := by rfl)
    (hdb : (x == ("__debug__" : Str)) = false := by decide)
    (hpl : ((backTo pos (starEach [] X.env)).any (·.1) || (backToKw pos (keywordEach kws X.env)).any (·.1.isNone)) = false := by rfl) :
    PE X (.Call (.Name x p) [] kws pos) (tCallN 0 ks.length sp gV E0 tNil tk) := by
  obtain ⟨f, fd, ps, g, F, hm, kp, b⟩ := c.ex
  refine ⟨fun pins s σ H Q I h => ?_⟩
  refine wpAny_Call_Name_kw (ld_glob I hg hm ?_ hdb)
  refine PySem.W.callWith_KW0 (h₀ := X.base) I.ok.mod.kin kp hall ?_ hpl
  refine thn (hkw.run pos pins s σ H _ I h) fun ws s2 ⟨zs, H2, I2, rz, l1, l2, q2⟩ => ⟨I2.kIn, ?_⟩
  rw [hks]
  exact run_fnN (us := []) (vs := []) F (hr.mono hk) b pass0 I2 .nil rz rfl l2 q2
end
section
variable {P : Program} {w : World} {K : PySem.W.Frag} {mg : Str → Option Value} {base : Heap}
theorem mkCal {x : Str} {st : Stmt} {f : Addr} {fd : FuncData} {N ps : List Str} {k : Nat} {sp : Sp} (F : Fun K x x st f fd) (gm : mg x = some (.ref f)) (S : FnScope N ps (defScope st)) (b : Binds K fd ps []) (len : ∀ vs H Q E, sp vs H Q E → vs.length = ps.length)
    (hbody : ∀ (cdv : Value) (A : Around) (outer : List Env) (s : Shared) (H : Hp) (vs : List V) (Q : VK) (E : XK), Room k (A.deeper (envOfC x (defScope st) s.heap.objs.size f cdv)) → sp vs H Q E →
      ∃ t, PSs (cxOf CX0 P w K mg base N x (defScope st) f cdv A outer s H E).nox (defBody st) t ∧ t { nx := fun _ H' => Q .non H', rt := Q } (start N vs) H) : C8.Cal P w K mg base (k + 1) x sp [] :=
  ⟨f, fd, ps, [], F.ok S len hbody, gm, F.kp, b, .nil⟩
end
/-! ### heaps -/
def But (b : Addr) (H H' : Hp) : Prop := ∀ a o, a ≠ b → H a = some o → H' a = some o
theorem But.trans {b : Addr} {H H1 H2 : Hp} (h : But b H H1) (g : But b H1 H2) : But b H H2 := fun a o n e => g a o n (h a o n e)
theorem But.refl (b : Addr) (H : Hp) : But b H H := fun _ _ _ e => e
theorem But.put {b : Addr} {H : Hp} {o : HO} : But b H (L2.upd H b o) := fun a _ n e => by rw [upd_ne n]; exact e
theorem But.new {b p : Addr} {H : Hp} {o : HO} (h : H p = none) : But b H (L2.upd H p o) := fun a _ n e => by rw [upd_ne (ne_of_none e h)]; exact e
theorem same_upd {H : Hp} {p : Addr} {o : HO} (h : H p = none) : Same H (upd H p o) := fun b x e => by
  rw [upd_ne (ne_of_none e h)]
  exact e
def Bag (H : Hp) (b : Addr) : Prop := ∃ x y : Int, H b = some (.lst [.int x, .int y]) ∧ 0 ≤ x ∧ 0 ≤ y ∧ y < 2147483647
theorem Bag.new {H : Hp} {b p : Addr} {o : HO} (g : Bag H b) (h : H p = none) : Bag (L2.upd H p o) b := by
  obtain ⟨x, y, e, r⟩ := g
  exact ⟨x, y, by rw [upd_ne (ne_of_none e h)]; exact e, r⟩
theorem Bag.ne {H : Hp} {b p : Addr} (g : Bag H b) (h : H p = none) : p ≠ b := by
  obtain ⟨x, y, e, r⟩ := g
  exact (ne_of_none e h).symm
theorem Bag.ne_tup {H : Hp} {b p : Addr} {xs : List V} (g : Bag H b) (h : H p = some (.tup xs)) : p ≠ b := by
  obtain ⟨x, y, e, r⟩ := g
  exact ne_of h e (by intro z; cases z)
theorem seqBut {K : PySem.W.Frag} {H H' : Hp} {a b : Addr} {xs : List V} (e : But b H H') (n : a ≠ b) (h : SqL K H a xs) : SqL K H' a xs := by
  rcases h with (h | ⟨o, h⟩) | h
  · exact .inl (.inl (e _ _ n h))
  · exact .inl (.inr ⟨o, e _ _ n h⟩)
  · exact .inr h
theorem dT {a : Bool} {b : Bool} (h : a = b) : decide (V.bl a = V.bl b) = true := by rw [h]; exact decide_eq_true rfl
theorem two_ok (a b : V) : [a, b].length ≤ sizeLine := by show 2 ≤ sizeLine; decide
theorem three_ok (a b c : V) : [a, b, c].length ≤ sizeLine := by show 3 ≤ sizeLine; decide
theorem four_ok (a b c d : V) : [a, b, c, d].length ≤ sizeLine := by show 4 ≤ sizeLine; decide
theorem free_of {b p : Addr} {H H' : Hp} (g : But b H H') (hB : Bag H b) (hB' : Bag H' b) (np : H' p = none) : H p = none := by
  cases e : H p with
  | none => rfl
  | some o =>
    have z := g p o (hB'.ne np) e
    rw [np] at z
    cases z
theorem same_but {b : Addr} {H0 H1 H2 : Hp} (sm : Same H0 H1) (nb : H0 b = none) (g : But b H1 H2) : Same H0 H2 := fun c o e => g c o (ne_of_none e nb) (sm c o e)
theorem iteD {p A B : Prop} [Decidable p] (h : ¬ p) (b : B) : if decide p = true then A else B := by
  rw [if_neg (by rw [decide_eq_false h]; exact Bool.false_ne_true)]
  exact b
theorem iteD' {p A B : Prop} [Decidable p] (h : p) (b : A) : if decide p = true then A else B := by
  rw [if_pos (decide_eq_true h)]
  exact b
theorem vone {vs : List V} {us : List Value} (i : Nat) (r : Vals vs us) : Vals ((vs.drop i).take 1) ((us.drop i).take 1) := by
  exact (r.drop i).take 1
section
variable {P : Program} {w : World} {K : PySem.W.Frag} {mg : Str → Option Value} {base : Heap}

/-! ### data: what stands at a value -/
theorem sqT_same {H H' : Hp} {a : Addr} {xs : List V} (e : Same H H') (h : SqT K H a xs) : SqT K H' a xs := by
  rcases h with (h | ⟨o, h⟩) | h
  · exact .inl (.inl (e _ _ h))
  · exact .inl (.inr ⟨o, e _ _ h⟩)
  · exact .inr h
mutual
theorem dp_same {H H' : Hp} (e : Same H H') : ∀ (d : PyData) (v : V), Dp K H v d → Dp K H' v d
  | .none, _, h => by cases h; exact .non
  | .bool b, _, h => by cases h; exact .bl b
  | .int i, _, h => by cases h; exact .int i
  | .str x, _, h => by cases h; exact .str x
  | .list ds, _, h => by
    cases h with
    | lst hs ha => exact .lst (e.seq hs) (dp_sameAll e ds _ ha)
  | .tuple ds, _, h => by
    cases h with
    | tup hs ha => exact .tup (sqT_same e hs) (dp_sameAll e ds _ ha)
  | .dict _, _, h => by cases h
theorem dp_sameAll {H H' : Hp} (e : Same H H') : ∀ (ds : List PyData) (vs : List V), DpAll K H vs ds → DpAll K H' vs ds
  | [], _, h => by cases h; exact .nil
  | d :: ds, _, h => by
    cases h with
    | cons h1 h2 => exact .cons (dp_same e d _ h1) (dp_sameAll e ds _ h2)
end
theorem dpAll_len {H : Hp} : ∀ {vs : List V} {ds : List PyData}, DpAll K H vs ds → vs.length = ds.length
  | [], _, h => by cases h; rfl
  | _ :: vs, _, h => by
    cases h with
    | cons _ h2 => rw [List.length_cons, List.length_cons, dpAll_len h2]
theorem dpAll_get {H : Hp} : ∀ {vs : List V} {ds : List PyData} {i : Nat} {v : V}, DpAll K H vs ds → vs[i]? = some v → ∃ d, ds[i]? = some d ∧ Dp K H v d
  | _, _, 0, _, .cons h1 _, e => by
    cases e
    exact ⟨_, rfl, h1⟩
  | _, _, i + 1, _, .cons _ h2, e => dpAll_get (i := i) h2 (by simpa using e)
  | _, _, i, _, .nil, e => by simp at e
theorem dpAll_append {H : Hp} : ∀ {vs us : List V} {ds es : List PyData}, DpAll K H vs ds → DpAll K H us es → DpAll K H (vs ++ us) (ds ++ es)
  | _, _, _, _, .nil, h => h
  | _, _, _, _, .cons h1 h2, h => .cons h1 (dpAll_append h2 h)
def tyD : PyData → String
  | .none => "NoneType"
  | .bool _ => "bool"
  | .int _ => "int"
  | .str _ => "str"
  | .list _ => "list"
  | .tuple _ => "tuple"
  | .dict _ => "dict"
theorem dp_ty {H : Hp} {v : V} {d : PyData} (h : Dp K H v d) : TyX K H v (.type (tyD d)) := by
  cases h with
  | non => exact .base .non
  | bl b => exact .base (.bl b)
  | int i => exact .base (.int i)
  | str x => exact .base (.str x)
  | lst hs _ =>
    rcases hs with (h | ⟨o, h⟩) | ⟨o, _, _, h, c, _⟩
    · exact .base (.lst h)
    · exact .base (.frz h)
    · exact .kList h c
  | tup hs _ =>
    rcases hs with (h | ⟨o, h⟩) | ⟨o, _, _, h, c, _⟩
    · exact .base (.tup h)
    · exact .fTuple h
    · exact .kTuple h c
def isTy (t T : String) : Bool := t == T || (T == "int" && t == "bool")
def isT (d : PyData) (T : String) : Bool := isTy (tyD d) T
theorem kit_all : ∀ t ∈ ["NoneType", "bool", "int", "str", "list", "tuple", "dict"], ∀ T ∈ ["int", "bool", "str", "tuple", "list"], kitB t T = some (isTy t T) := by decide +kernel
theorem tyD_mem (d : PyData) : tyD d ∈ ["NoneType", "bool", "int", "str", "list", "tuple", "dict"] := by cases d <;> simp [tyD]
theorem kit_d (d : PyData) {T : String} (hT : T = "int" ∨ T = "bool" ∨ T = "str" ∨ T = "tuple" ∨ T = "list") : PySem.W.kitOne K (.type (tyD d)) (.type T) = some (isT d T) :=
  kit_ty (kit_all _ (tyD_mem d) _ (by simpa using hT))

end
/-! ### rules of our own: a list against an empty one -/
section
variable {X : Cx}
theorem op_eqNil (hu : X.A.units < cLine) : OpR X (compareOp .Eq) (fun x y H Q => ∃ a b xs, x = .ref a ∧ y = .ref b ∧ SqL X.K H a xs ∧ SqL X.K H b [] ∧ Q (.bl xs.isEmpty) H) := by
  intro pins s σ H x y v u Q I rx ry h
  obtain ⟨a, b, xs, rfl, rfl, ha, hb, q⟩ := h
  obtain rfl : v = Value.ref a := rx
  obtain rfl : u = Value.ref b := ry
  obtain ⟨its, rv, p, _⟩ := I.list ha
  obtain ⟨its2, rv2, p2, _⟩ := I.list hb
  cases rv2
  cases xs with
  | nil =>
    cases rv
    exact PySem.EqBoolInt.of_rc (SeqAt.RcAt.lists (e := fun _ => true) p.isList p2.isList rfl hu (fun j h1 => absurd h1 (Nat.not_lt_zero j))) ⟨.bl true, H, I, rfl, q⟩
  | cons z zs =>
    cases rv
    exact PySem.EqBoolInt.of_rc (SeqAt.RcAt.lists_lengths p.isList p2.isList (by simp) hu) ⟨.bl false, H, I, rfl, q⟩
theorem op_neNil (hu : X.A.units < cLine) : OpR X (compareOp .NotEq) (fun x y H Q => ∃ a b xs, x = .ref a ∧ y = .ref b ∧ SqL X.K H a xs ∧ SqL X.K H b [] ∧ Q (.bl (!xs.isEmpty)) H) := by
  intro pins s σ H x y v u Q I rx ry h
  obtain ⟨a, b, xs, rfl, rfl, ha, hb, q⟩ := h
  obtain rfl : v = Value.ref a := rx
  obtain rfl : u = Value.ref b := ry
  obtain ⟨its, rv, p, _⟩ := I.list ha
  obtain ⟨its2, rv2, p2, _⟩ := I.list hb
  cases rv2
  cases xs with
  | nil =>
    cases rv
    exact PySem.EqBoolInt.of_rcne (SeqAt.RcNeAt.lists (e := fun _ => true) p.isList p2.isList rfl hu (fun j h1 => absurd h1 (Nat.not_lt_zero j))) ⟨.bl false, H, I, rfl, q⟩
  | cons z zs =>
    cases rv
    exact PySem.EqBoolInt.of_rcne (SeqAt.RcNeAt.lists_lengths p.isList p2.isList (by simp) hu) ⟨.bl true, H, I, rfl, q⟩
end
theorem hu0 {A : Around} {k : Nat} (hr : Room k A) : A.units < cLine := by have := hr.un; omega
section
variable {P : Program} {w : World} {K : PySem.W.Frag} {mg : Str → Option Value} {base : Heap}

/-! ### data that nothing changes -/
mutual
def imm : PyData → Bool
  | .list _ => false
  | .dict _ => false
  | .tuple ds => immAll ds
  | .none => true
  | .bool _ => true
  | .int _ => true
  | .str _ => true
def immAll : List PyData → Bool
  | [] => true
  | d :: ds => imm d && immAll ds
end
/-- tuples, and what is locked -/
def Fix : HO → Prop
  | .tup _ => True
  | .frz _ _ => True
  | _ => False
def Kt (H H' : Hp) : Prop := ∀ a o, H a = some o → Fix o → H' a = some o
theorem Kt.refl (H : Hp) : Kt H H := fun _ _ e _ => e
theorem Kt.trans {H H1 H2 : Hp} (h : Kt H H1) (g : Kt H1 H2) : Kt H H2 := fun a o e f => g a o (h a o e f) f
theorem Kt.same {H H' : Hp} (h : Same H H') : Kt H H' := fun a o e _ => h a o e
theorem Kt.but {H H' : Hp} {b : Addr} {o : HO} (h : But b H H') (hb : H b = some o) (n : ¬ Fix o) : Kt H H' := fun a o' e f => h a o' (fun z => n (by rw [z, hb] at e; cases e; exact f)) e
theorem Kt.upd {H : Hp} {b : Addr} {o o' : HO} (hb : H b = some o) (n : ¬ Fix o) : Kt H (upd H b o') := fun a o2 e f => by
  rw [upd_ne (fun z => n (by rw [z, hb] at e; cases e; exact f))]
  exact e
theorem Kt.bag {H H' : Hp} {b : Addr} (h : But b H H') (g : Bag H b) : Kt H H' := by
  obtain ⟨x, y, e, _⟩ := g
  exact Kt.but h e (fun z => z)
theorem sqT_kt {H H' : Hp} {a : Addr} {xs : List V} (e : Kt H H') (h : SqT K H a xs) : SqT K H' a xs := by
  rcases h with (h | ⟨o, h⟩) | h
  · exact .inl (.inl (e _ _ h trivial))
  · exact .inl (.inr ⟨o, e _ _ h trivial⟩)
  · exact .inr h
mutual
theorem dp_kt {H H' : Hp} (e : Kt H H') : ∀ (d : PyData) (v : V), imm d = true → Dp K H v d → Dp K H' v d
  | .none, _, _, h => by cases h; exact .non
  | .bool b, _, _, h => by cases h; exact .bl b
  | .int i, _, _, h => by cases h; exact .int i
  | .str x, _, _, h => by cases h; exact .str x
  | .list ds, _, i, h => by simp [imm] at i
  | .tuple ds, _, i, h => by
    cases h with
    | tup hs ha => exact .tup (sqT_kt e hs) (dp_ktAll e ds _ (by simpa [imm] using i) ha)
  | .dict _, _, _, h => by cases h
theorem dp_ktAll {H H' : Hp} (e : Kt H H') : ∀ (ds : List PyData) (vs : List V), immAll ds = true → DpAll K H vs ds → DpAll K H' vs ds
  | [], _, _, h => by cases h; exact .nil
  | d :: ds, _, i, h => by
    cases h with
    | cons h1 h2 =>
      have i2 : imm d = true ∧ immAll ds = true := by simpa [immAll] using i
      exact .cons (dp_kt e d _ i2.1 h1) (dp_ktAll e ds _ i2.2 h2)
end
theorem immAll_iff : ∀ {ds : List PyData}, immAll ds = true ↔ ∀ d ∈ ds, imm d = true
  | [] => by simp [immAll]
  | d :: ds => by simp [immAll, immAll_iff (ds := ds)]
theorem dpAll_getD {H : Hp} {vs : List V} {ds : List PyData} {i : Nat} {d : PyData} (h : DpAll K H vs ds) (e : ds[i]? = some d) : ∃ v, vs[i]? = some v ∧ Dp K H v d := by
  have hl := dpAll_len h
  have hi : i < vs.length := by
    rw [hl]
    exact (List.getElem?_eq_some_iff.mp e).1
  obtain ⟨d', e', p⟩ := dpAll_get h (List.getElem?_eq_getElem hi)
  rw [e] at e'
  cases e'
  exact ⟨_, List.getElem?_eq_getElem hi, p⟩
theorem dp_list {H : Hp} {v : V} {ds : List PyData} (h : Dp K H v (.list ds)) : ∃ a vs, v = .ref a ∧ SqL K H a vs ∧ DpAll K H vs ds := by
  cases h with
  | lst hs ha => exact ⟨_, _, rfl, hs, ha⟩
theorem dp_tuple {H : Hp} {v : V} {ds : List PyData} (h : Dp K H v (.tuple ds)) : ∃ a vs, v = .ref a ∧ SqT K H a vs ∧ DpAll K H vs ds := by
  cases h with
  | tup hs ha => exact ⟨_, _, rfl, hs, ha⟩
theorem take_fm {α β : Type} (f : α → Option β) (ds : List α) (i : Nat) (d : α) (h : ds[i]? = some d) : (ds.take (i + 1)).filterMap f = (ds.take i).filterMap f ++ (f d).toList := by
  rw [List.take_add_one, h, List.filterMap_append]
  cases e : f d <;> simp [e]
theorem fm_take_le {α β : Type} (f : α → Option β) (ds : List α) (i : Nat) : ((ds.take i).filterMap f).length ≤ i :=
  Nat.le_trans (List.length_filterMap_le _ _) (by rw [List.length_take]; exact Nat.min_le_left _ _)
/-- a list made of a list of data, by a function of it -/
theorem lc_ty {α β : Type} {a D : Addr} {vs : List V} {xs : List α} {H1 : Hp} {σ : L2.St} {g : TG} {tt : TT} {te : TE} {ws : List Nat} {Qd : Hp → Prop} (ea : α → PyData) (eb : β → PyData) (f : α → Option β)
    (hS : SqL K H1 a vs) (hA : DpAll K H1 vs (xs.map ea)) (hn : H1 D = none) (hlen : xs.length ≤ 1000000) (him : ∀ y, imm (eb y) = true)
    (step : ∀ (i : Nat) (v : V) (x : α) (H : Hp) (k : V → Hp → Prop) (kf : Hp → Prop), xs[i]? = some x → Same H1 H → Dp K H v (ea x) → (∀ y, f x = some y → ∀ v' H4, Same H H4 → Dp K H4 v' (eb y) → k v' H4) → (f x = none → ∀ H3, Same H H3 → kf H3) →
      g v (wipe σ ws) H fun σ2 H2 => wipe σ2 ws = wipe σ ws ∧ tt σ2 H2 fun b H3 => if b = true then te σ2 H3 k else kf H3)
    (hd : ∀ H ys, Same H1 H → H D = some (.lst ys) → DpAll K H ys ((xs.filterMap f).map eb) → Qd H) :
    ∃ W : Nat → Nat → Hp → Prop, (∃ m, W 0 m (upd H1 D (.lst []))) ∧ ∀ i m H, W i m H →
      ((Itl K a).stop i H ∧ Qd H) ∨ ((Itl K a).go i H ∧ ∃ Nx : Hp → Prop, (∀ H', Nx H' → ∃ m', m' < m ∧ W (i + 1) m' H') ∧ ∀ x H', (Itl K a).yld i H x H' → g x (wipe σ ws) H' fun σ2 H2 => wipe σ2 ws = wipe σ ws ∧ tt σ2 H2 fun b H3 =>
        if b = true then te σ2 H3 fun y H4 => ∃ acc, H4 D = some (.lst acc) ∧ acc.length < sizeLine ∧ Nx (upd H4 D (.lst (acc ++ [y]))) else Nx H3) := by
  have hl := dpAll_len hA
  rw [List.length_map] at hl
  have imA : ∀ zs : List β, immAll (zs.map eb) = true := fun zs => immAll_iff.mpr fun e he => by
    obtain ⟨y, _, rfl⟩ := List.mem_map.mp he
    exact him y
  refine lc_it (walk_list (K := K) (a := a) (xs := vs)) (fun i H => Same H1 H ∧ ∃ acc, H D = some (.lst acc) ∧ DpAll K H acc (((xs.take i).filterMap f).map eb)) ⟨same_upd hn, [], upd_same, .nil⟩ (fun i H _ z => z.1.seq hS) ?_ ?_
  · rintro i v H H' hi ⟨s1, acc, hD, hacc⟩ ⟨rfl, hv⟩
    obtain ⟨d, ed, pd⟩ := dpAll_get hA hv
    rw [List.getElem?_map] at ed
    obtain ⟨x, ex, rfl⟩ := Option.map_eq_some_iff.mp ed
    refine step i v x H' _ _ ex s1 (dp_same s1 _ _ pd) ?_ ?_
    · intro e fe y H4 s4 py
      have hD4 := s4 _ _ hD
      have kt : Kt H' (upd H4 D (.lst (acc ++ [y]))) := (Kt.same s4).trans (Kt.upd hD4 (fun z => z))
      refine ⟨acc, hD4, ?_, ?_, acc ++ [y], upd_same, ?_⟩
      · have := dpAll_len hacc
        rw [List.length_map] at this
        have h2 := fm_take_le f xs i
        rw [sizeLine_eq]
        omega
      · intro c o ec
        rw [upd_ne (ne_of_none ec hn)]
        exact s4 _ _ (s1 _ _ ec)
      · rw [take_fm f xs i x ex, fe, List.map_append]
        exact dpAll_append (dp_ktAll kt _ _ (imA _) hacc) (.cons (dp_kt (Kt.upd hD4 (fun z => z)) _ _ (him e) py) .nil)
    · intro fe H3 s3
      refine ⟨s1.trans s3, acc, s3 _ _ hD, ?_⟩
      rw [take_fm f xs i x ex, fe]
      have := dp_sameAll s3 _ _ hacc
      simpa using this
  · rintro H ⟨s1, acc, hD, hacc⟩
    refine hd H acc s1 hD ?_
    rw [hl, List.take_of_length_le (Nat.le_refl _)] at hacc
    exact hacc
/-- the same, with no test -/
theorem lc_map {α β : Type} {a D : Addr} {vs : List V} {xs : List α} {H1 : Hp} {σ : L2.St} {g : TG} {te : TE} {ws : List Nat} {Qd : Hp → Prop} (ea : α → PyData) (eb : β → PyData) (f : α → β)
    (hS : SqL K H1 a vs) (hA : DpAll K H1 vs (xs.map ea)) (hn : H1 D = none) (hlen : xs.length ≤ 1000000) (him : ∀ y, imm (eb y) = true)
    (step : ∀ (i : Nat) (v : V) (x : α) (H : Hp) (k : V → Hp → Prop), xs[i]? = some x → Same H1 H → Dp K H v (ea x) → (∀ v' H4, Same H H4 → Dp K H4 v' (eb (f x)) → k v' H4) →
      g v (wipe σ ws) H fun σ2 H2 => wipe σ2 ws = wipe σ ws ∧ te σ2 H2 k)
    (hd : ∀ H ys, Same H1 H → H D = some (.lst ys) → DpAll K H ys ((xs.map f).map eb) → Qd H) :
    ∃ W : Nat → Nat → Hp → Prop, (∃ m, W 0 m (upd H1 D (.lst []))) ∧ ∀ i m H, W i m H →
      ((Itl K a).stop i H ∧ Qd H) ∨ ((Itl K a).go i H ∧ ∃ Nx : Hp → Prop, (∀ H', Nx H' → ∃ m', m' < m ∧ W (i + 1) m' H') ∧ ∀ x H', (Itl K a).yld i H x H' → g x (wipe σ ws) H' fun σ2 H2 => wipe σ2 ws = wipe σ ws ∧ tYes σ2 H2 fun b H3 =>
        if b = true then te σ2 H3 fun y H4 => ∃ acc, H4 D = some (.lst acc) ∧ acc.length < sizeLine ∧ Nx (upd H4 D (.lst (acc ++ [y]))) else Nx H3) := by
  refine lc_ty (tt := tYes) ea eb (fun x => some (f x)) hS hA hn hlen him (fun i v x H k kf ex s1 px hk _ => ?_) (fun H ys s1 hD hy => hd H ys s1 hD ?_)
  · have := step i v x H k ex s1 px (fun v' H4 s4 p4 => hk _ rfl v' H4 s4 p4)
    simpa only [tYes, if_true] using this
  · rw [List.filterMap_eq_map'] at hy
    exact hy
/-- a dict made by a walk -/
theorem dc_it {J : It} {n : Nat} {G : Hp → Prop} {Y : Nat → Hp → V → Hp → Prop} (w : Walk J n G Y) {g : TG} {tt : TT} {tk tv : TE} {vs : List Nat} {σ : L2.St} {H1 : Hp} {D : Addr} {Qd : Hp → Prop} (Pv : Nat → Hp → Prop) (h0 : Pv 0 (upd H1 D (.dK []))) (hG : ∀ i H, i ≤ n → Pv i H → G H)
    (hs : ∀ i x H H', i < n → Pv i H → Y i H x H' → g x (wipe σ vs) H' fun σ2 H2 => wipe σ2 vs = wipe σ vs ∧ tt σ2 H2 fun b H3 =>
      if b = true then tk σ2 H3 fun y H4 => tv σ2 H4 fun z H5 => ∃ kvs k, y = kV k ∧ H5 D = some (.dK kvs) ∧ kvs.length < sizeLine ∧ Pv (i + 1) (upd H5 D (.dK (putK kvs k z))) else Pv (i + 1) H3) (hd : ∀ H, Pv n H → Qd H) :
    ∃ W : Nat → Nat → Hp → Prop, (∃ m, W 0 m (upd H1 D (.dK []))) ∧ ∀ i m H, W i m H →
      (J.stop i H ∧ Qd H) ∨ (J.go i H ∧ ∃ Nx : Hp → Prop, (∀ H', Nx H' → ∃ m', m' < m ∧ W (i + 1) m' H') ∧ ∀ x H', J.yld i H x H' → g x (wipe σ vs) H' fun σ2 H2 => wipe σ2 vs = wipe σ vs ∧ tt σ2 H2 fun b H3 =>
        if b = true then tk σ2 H3 fun y H4 => tv σ2 H4 fun z H5 => ∃ kvs k, y = kV k ∧ H5 D = some (.dK kvs) ∧ kvs.length < sizeLine ∧ Nx (upd H5 D (.dK (putK kvs k z))) else Nx H3) := by
  refine ⟨fun i m H => m = n - i ∧ i ≤ n ∧ Pv i H, ⟨n, by simp, Nat.zero_le _, h0⟩, ?_⟩
  rintro i m H ⟨rfl, hi, p⟩
  have gh := hG i H hi p
  by_cases lt : i < n
  · exact .inr ⟨w.goes i H lt gh, Pv (i + 1), fun H' p' => ⟨n - (i + 1), by omega, rfl, lt, p'⟩, fun x H' y => hs i x H H' lt p (w.yields i H x H' lt gh y)⟩
  · obtain rfl : i = n := by omega
    exact .inl ⟨w.stops H gh, hd H p⟩

theorem hu65 {A : Around} {k : Nat} (hr : Room k A) : A.units + 65 < cLine := by
  have := hr.un
  omega

/-! ### mirrors: values, the store, results -/
inductive A where
  | non | bl (b : Bool) | int (i : Int) | str (x : Str) | tup (xs : List A) | lit (xs : List A) | ref (n : Nat) | adr (a : Addr) | ty (n : String)
inductive AO where
  | lst (xs : List A) | dK (kvs : List (Key × A)) | dT (kvs : List (List Key × A)) | set (ns : List Int) | ins (C : Addr) (fs : List (Str × A)) | xd (fs : List (Str × A))
abbrev Sto := List AO
abbrev AEnv := List (Option A)
inductive Res (α : Type) where
  | ok (a : α) (s : Sto) | ex (c : Addr) (d : Option Nat) (s : Sto) | no
def Res.bind {α β : Type} (r : Res α) (k : α → Sto → Res β) : Res β := match r with
  | .ok a s => k a s
  | .ex c d s => .ex c d s
  | .no => .no
inductive Fl where
  | nx (e : AEnv) | rt (a : A) | bk (e : AEnv) | ct (e : AEnv)
inductive RF where
  | fl (f : Fl) (s : Sto) | ex (c : Addr) (d : Option Nat) (e : AEnv) (s : Sto) | no
/-- a result's use in a statement -/
def Res.thenS {α : Type} (r : Res α) (e : AEnv) (k : α → Sto → RF) : RF := match r with
  | .ok a s => k a s
  | .ex c d s => .ex c d e s
  | .no => .no
def RF.next (r : RF) (k : AEnv → Sto → RF) : RF := match r with
  | .fl (.nx e) s => k e s
  | r => r
def lift {α : Type} (o : Option α) (s : Sto) : Res α := match o with
  | some a => .ok a s
  | none => .no
/-! ### how the mirror stands to the heap -/
mutual
inductive Rv (K : PySem.W.Frag) (H : Hp) (ρ : List Addr) : V → A → Prop where
  | non : Rv K H ρ .non .non
  | bl (b : Bool) : Rv K H ρ (.bl b) (.bl b)
  | int (i : Int) : Rv K H ρ (.int i) (.int i)
  | str (x : Str) : Rv K H ρ (.str x) (.str x)
  | tup {p : Addr} {vs : List V} {xs : List A} : SqT K H p vs → Rvs K H ρ vs xs → Rv K H ρ (.ref p) (.tup xs)
  | lit {p : Addr} {vs : List V} {xs : List A} : ((∃ o, H p = some (.frz o (.lst vs))) ∨ SqL K (fun _ => none) p vs) → Rvs K H ρ vs xs → Rv K H ρ (.ref p) (.lit xs)
  | ref {n : Nat} {a : Addr} : ρ[n]? = some a → Rv K H ρ (.ref a) (.ref n)
  | adr (a : Addr) : Rv K H ρ (.ref a) (.adr a)
  | ty (n : String) : Rv K H ρ (.ty n) (.ty n)
inductive Rvs (K : PySem.W.Frag) (H : Hp) (ρ : List Addr) : List V → List A → Prop where
  | nil : Rvs K H ρ [] []
  | cons {v : V} {a : A} {vs : List V} {xs : List A} : Rv K H ρ v a → Rvs K H ρ vs xs → Rvs K H ρ (v :: vs) (a :: xs)
end
theorem lit_sq {H : Hp} {p : Addr} {vs : List V} (h : (∃ o, H p = some (.frz o (.lst vs))) ∨ SqL K (fun _ => none) p vs) : SqL K H p vs := by
  rcases h with ⟨o, h⟩ | (h | ⟨o, h⟩) | h
  · exact .inl (.inr ⟨o, h⟩)
  · cases h
  · cases h
  · exact .inr h
structure Ext (ρ ρ' : List Addr) (H H' : Hp) : Prop where
  pre : ∃ l, ρ' = ρ ++ l
  kt : Kt H H'
theorem Ext.refl (ρ : List Addr) (H : Hp) : Ext ρ ρ H H := ⟨⟨[], by simp⟩, Kt.refl H⟩
theorem Ext.trans {ρ ρ1 ρ2 : List Addr} {H H1 H2 : Hp} (a : Ext ρ ρ1 H H1) (b : Ext ρ1 ρ2 H1 H2) : Ext ρ ρ2 H H2 := by
  obtain ⟨⟨l, rfl⟩, k⟩ := a
  obtain ⟨⟨m, rfl⟩, k2⟩ := b
  exact ⟨⟨l ++ m, by simp⟩, k.trans k2⟩
theorem Ext.get {ρ ρ' : List Addr} {H H' : Hp} (e : Ext ρ ρ' H H') {n : Nat} {a : Addr} (h : ρ[n]? = some a) : ρ'[n]? = some a := by
  obtain ⟨⟨l, rfl⟩, _⟩ := e
  have hn := (List.getElem?_eq_some_iff.mp h).1
  rw [List.getElem?_append_left hn]
  exact h
theorem Ext.same {ρ : List Addr} {H H' : Hp} (s : Same H H') : Ext ρ ρ H H' := ⟨⟨[], by simp⟩, Kt.same s⟩
mutual
theorem rv_ext {ρ ρ' : List Addr} {H H' : Hp} (e : Ext ρ ρ' H H') : ∀ {v : V} {a : A}, Rv K H ρ v a → Rv K H' ρ' v a
  | _, _, .non => .non
  | _, _, .bl b => .bl b
  | _, _, .int i => .int i
  | _, _, .str x => .str x
  | _, _, .tup h hs => .tup (sqT_kt e.kt h) (rvs_ext e hs)
  | _, _, .lit h hs => .lit (h.imp (fun ⟨o, h⟩ => ⟨o, e.kt _ _ h trivial⟩) id) (rvs_ext e hs)
  | _, _, .ref h => .ref (e.get h)
  | _, _, .adr a => .adr a
  | _, _, .ty a => .ty a
theorem rvs_ext {ρ ρ' : List Addr} {H H' : Hp} (e : Ext ρ ρ' H H') : ∀ {vs : List V} {xs : List A}, Rvs K H ρ vs xs → Rvs K H' ρ' vs xs
  | _, _, .nil => .nil
  | _, _, .cons h hs => .cons (rv_ext e h) (rvs_ext e hs)
end
section
variable {H : Hp} {ρ : List Addr}
theorem Rvs.length : ∀ {vs : List V} {xs : List A}, Rvs K H ρ vs xs → vs.length = xs.length
  | _, _, .nil => rfl
  | _, _, .cons _ hs => by rw [List.length_cons, List.length_cons, Rvs.length hs]
theorem Rvs.get : ∀ {vs : List V} {xs : List A} {i : Nat} {a : A}, Rvs K H ρ vs xs → xs[i]? = some a → ∃ v, vs[i]? = some v ∧ Rv K H ρ v a
  | _, _, 0, _, .cons h _, e => by cases e; exact ⟨_, rfl, h⟩
  | _, _, i + 1, _, .cons _ hs, e => by
    obtain ⟨v, e1, e2⟩ := Rvs.get (i := i) hs (by simpa using e)
    exact ⟨v, by simpa using e1, e2⟩
  | _, _, i, _, .nil, e => by simp at e
theorem Rvs.getV : ∀ {vs : List V} {xs : List A} {i : Nat} {v : V}, Rvs K H ρ vs xs → vs[i]? = some v → ∃ a, xs[i]? = some a ∧ Rv K H ρ v a
  | _, _, 0, _, .cons h _, e => by cases e; exact ⟨_, rfl, h⟩
  | _, _, i + 1, _, .cons _ hs, e => by
    obtain ⟨v, e1, e2⟩ := Rvs.getV (i := i) hs (by simpa using e)
    exact ⟨v, by simpa using e1, e2⟩
  | _, _, i, _, .nil, e => by simp at e
theorem Rvs.append : ∀ {vs us : List V} {xs ys : List A}, Rvs K H ρ vs xs → Rvs K H ρ us ys → Rvs K H ρ (vs ++ us) (xs ++ ys)
  | _, _, _, _, .nil, h => h
  | _, _, _, _, .cons h hs, g => .cons h (Rvs.append hs g)
theorem Rvs.take : ∀ {vs : List V} {xs : List A} (n : Nat), Rvs K H ρ vs xs → Rvs K H ρ (vs.take n) (xs.take n)
  | _, _, 0, _ => by rw [List.take_zero, List.take_zero]; exact .nil
  | _, _, n + 1, .nil => by rw [List.take_nil, List.take_nil]; exact .nil
  | _, _, n + 1, .cons h hs => .cons h (Rvs.take n hs)
theorem Rvs.drop : ∀ {vs : List V} {xs : List A} (n : Nat), Rvs K H ρ vs xs → Rvs K H ρ (vs.drop n) (xs.drop n)
  | _, _, 0, h => h
  | _, _, n + 1, .nil => by rw [List.drop_nil, List.drop_nil]; exact .nil
  | _, _, n + 1, .cons _ hs => Rvs.drop n hs
theorem Rvs.set {v : V} {a : A} (r : Rv K H ρ v a) : ∀ {vs : List V} {xs : List A} (n : Nat), Rvs K H ρ vs xs → Rvs K H ρ (vs.set n v) (xs.set n a)
  | _, _, _, .nil => .nil
  | _, _, 0, .cons _ hs => .cons r hs
  | _, _, n + 1, .cons h hs => .cons h (Rvs.set r n hs)
theorem Rvs.erase : ∀ {vs : List V} {xs : List A} (n : Nat), Rvs K H ρ vs xs → Rvs K H ρ (vs.eraseIdx n) (xs.eraseIdx n)
  | _, _, _, .nil => .nil
  | _, _, 0, .cons _ hs => hs
  | _, _, n + 1, .cons h hs => .cons h (Rvs.erase n hs)
theorem Rvs.ints : ∀ (ns : List Int), Rvs K H ρ (ns.map V.int) (ns.map A.int)
  | [] => .nil
  | n :: ns => .cons (.int n) (Rvs.ints ns)
theorem Rvs.of_ints : ∀ {ns : List Int} {vs : List V}, Rvs K H ρ vs (ns.map A.int) → vs = ns.map V.int
  | [], _, h => by cases h; rfl
  | n :: ns, _, h => by
    cases h with
    | cons h1 h2 =>
      cases h1
      rw [Rvs.of_ints h2]
      rfl
theorem Rvs.strs : ∀ (ns : List Str), Rvs K H ρ (ns.map V.str) (ns.map A.str)
  | [] => .nil
  | n :: ns => .cons (.str n) (Rvs.strs ns)
theorem Rvs.of_strs : ∀ {ns : List Str} {vs : List V}, Rvs K H ρ vs (ns.map A.str) → vs = ns.map V.str
  | [], _, h => by cases h; rfl
  | n :: ns, _, h => by
    cases h with
    | cons h1 h2 =>
      cases h1
      rw [Rvs.of_strs h2]
      rfl
end
def Rkv {κ : Type} (K : PySem.W.Frag) (H : Hp) (ρ : List Addr) : List (κ × V) → List (κ × A) → Prop := Paired fun p q => p.1 = q.1 ∧ Rv K H ρ p.2 q.2
def Ro (K : PySem.W.Frag) (w : World) (H : Hp) (ρ : List Addr) (a : Addr) : AO → Prop
  | .lst xs => ∃ vs, H a = some (.lst vs) ∧ Rvs K H ρ vs xs
  | .dK kvs => ∃ kv, H a = some (.dK kv) ∧ Rkv K H ρ kv kvs
  | .dT kvs => ∃ kv, H a = some (.dT kv) ∧ Rkv K H ρ kv kvs
  | .set ns => ns.Nodup ∧ H a = some (SetO w a (fun j => decide (j ∈ ns)) ns.length)
  | .ins C fs => ∃ dx fv, H a = some (.ins C dx fv) ∧ Rkv K H ρ fv fs
  | .xd fs => ∃ fv, H a = some (.xd fv) ∧ Rkv K H ρ fv fs
structure Rel (K : PySem.W.Frag) (w : World) (ρ : List Addr) (H : Hp) (st : Sto) : Prop where
  len : ρ.length = st.length
  nd : ρ.Nodup
  obj : ∀ (n : Nat) (a : Addr) (o : AO), ρ[n]? = some a → st[n]? = some o → Ro K w H ρ a o
theorem Ro.here {w : World} {H : Hp} {ρ : List Addr} {a : Addr} {o : AO} (h : Ro K w H ρ a o) : ∃ u, H a = some u ∧ ¬ Fix u := by
  cases o with
  | lst xs => obtain ⟨_, h, _⟩ := h; exact ⟨_, h, fun z => z⟩
  | dK xs => obtain ⟨_, h, _⟩ := h; exact ⟨_, h, fun z => z⟩
  | dT xs => obtain ⟨_, h, _⟩ := h; exact ⟨_, h, fun z => z⟩
  | set ns => exact ⟨_, h.2, fun z => z⟩
  | ins C fs => obtain ⟨_, _, h, _⟩ := h; exact ⟨_, h, fun z => z⟩
  | xd fs => obtain ⟨_, h, _⟩ := h; exact ⟨_, h, fun z => z⟩
theorem rkv_ext {κ : Type} {ρ ρ' : List Addr} {H H' : Hp} (e : Ext ρ ρ' H H') {kv : List (κ × V)} {kvs : List (κ × A)} (h : Rkv K H ρ kv kvs) : Rkv K H' ρ' kv kvs := Paired.mapP h fun _ _ z => ⟨z.1, rv_ext e z.2⟩
/-- an object that stands as it was -/
theorem Ro.ext {w : World} {ρ ρ' : List Addr} {H H' : Hp} (e : Ext ρ ρ' H H') {a : Addr} {o : AO} (h : Ro K w H ρ a o) (s : ∀ u, H a = some u → H' a = some u) : Ro K w H' ρ' a o := by
  cases o with
  | lst xs => obtain ⟨_, h, r⟩ := h; exact ⟨_, s _ h, rvs_ext e r⟩
  | dK xs => obtain ⟨_, h, r⟩ := h; exact ⟨_, s _ h, rkv_ext e r⟩
  | dT xs => obtain ⟨_, h, r⟩ := h; exact ⟨_, s _ h, rkv_ext e r⟩
  | set ns => exact ⟨h.1, s _ h.2⟩
  | ins C fs => obtain ⟨_, _, h, r⟩ := h; exact ⟨_, _, s _ h, rkv_ext e r⟩
  | xd fs => obtain ⟨_, h, r⟩ := h; exact ⟨_, s _ h, rkv_ext e r⟩
section
variable {w : World} {ρ : List Addr} {H : Hp} {st : Sto}
theorem Rel.at (r : Rel K w ρ H st) {n : Nat} {o : AO} (e : st[n]? = some o) : ∃ a, ρ[n]? = some a ∧ Ro K w H ρ a o := by
  have hn := (List.getElem?_eq_some_iff.mp e).1
  have hn' : n < ρ.length := by rw [r.len]; exact hn
  exact ⟨ρ[n], List.getElem?_eq_getElem hn', r.obj n _ o (List.getElem?_eq_getElem hn') e⟩
theorem Rel.get (r : Rel K w ρ H st) {n : Nat} {a : Addr} {o : AO} (h : ρ[n]? = some a) (e : st[n]? = some o) : Ro K w H ρ a o := r.obj n a o h e
theorem Rel.is (r : Rel K w ρ H st) {n : Nat} {a : Addr} (h : ρ[n]? = some a) : ∃ u, H a = some u ∧ ¬ Fix u := by
  have hn := (List.getElem?_eq_some_iff.mp h).1
  have hn' : n < st.length := by rw [← r.len]; exact hn
  exact (r.obj n a _ h (List.getElem?_eq_getElem hn')).here
theorem Rel.fresh (r : Rel K w ρ H st) {p : Addr} (np : H p = none) : p ∉ ρ := fun hp => by
  obtain ⟨n, hn⟩ := List.mem_iff_getElem?.mp hp
  obtain ⟨u, hu, _⟩ := r.is hn
  rw [np] at hu
  cases hu
/-- a heap that grew -/
theorem Rel.same (r : Rel K w ρ H st) {H' : Hp} (s : Same H H') : Rel K w ρ H' st :=
  ⟨r.len, r.nd, fun n a o h e => (r.obj n a o h e).ext (Ext.same s) fun u hu => s _ _ hu⟩
theorem inj_at (nd : ρ.Nodup) {n m : Nat} {a : Addr} (h : ρ[n]? = some a) (g : ρ[m]? = some a) : n = m :=
  (List.getElem?_inj (List.getElem?_eq_some_iff.mp h).1 nd).mp (by rw [h, g])
/-- an object is changed -/
theorem Rel.put (r : Rel K w ρ H st) {n : Nat} {a : Addr} {o : AO} {u : HO} (h : ρ[n]? = some a) (new : ∀ H', Ext ρ ρ H H' → H' a = some u → Ro K w H' ρ a o) : Ext ρ ρ H (upd H a u) ∧ Rel K w ρ (upd H a u) (st.set n o) := by
  obtain ⟨u0, hu, nf⟩ := r.is h
  have e : Ext ρ ρ H (upd H a u) := ⟨⟨[], by simp⟩, Kt.upd hu nf⟩
  refine ⟨e, ⟨by rw [List.length_set]; exact r.len, r.nd, fun m b o' hb e' => ?_⟩⟩
  by_cases hm : m = n
  · subst hm
    rw [h] at hb
    cases hb
    have hl : m < st.length := by
      have := (List.getElem?_eq_some_iff.mp e').1
      simpa using this
    rw [List.getElem?_set_self hl] at e'
    cases e'
    exact new _ e upd_same
  · rw [List.getElem?_set_ne (fun z => hm z.symm)] at e'
    have nb : b ≠ a := fun z => by
      subst z
      exact hm (inj_at r.nd hb h)
    exact (r.obj m b o' hb e').ext e fun u hu => by rw [upd_ne nb]; exact hu
/-- an object is new -/
theorem Rel.new (r : Rel K w ρ H st) {p : Addr} {o : AO} {u : HO} (np : H p = none) (new : ∀ H', Ext ρ (ρ ++ [p]) H H' → H' p = some u → Ro K w H' (ρ ++ [p]) p o) : Ext ρ (ρ ++ [p]) H (upd H p u) ∧ Rel K w (ρ ++ [p]) (upd H p u) (st ++ [o]) := by
  have e : Ext ρ (ρ ++ [p]) H (upd H p u) := ⟨⟨[p], rfl⟩, Kt.same (same_upd np)⟩
  refine ⟨e, ⟨by rw [List.length_append, List.length_append, r.len]; rfl, ?_, fun m b o' hb e' => ?_⟩⟩
  · refine List.nodup_append.mpr ⟨r.nd, by simp, fun x hx y hy z => ?_⟩
    rw [List.mem_singleton.mp hy] at z
    exact r.fresh np (z ▸ hx)
  · by_cases hm : m < st.length
    · rw [List.getElem?_append_left hm] at e'
      rw [List.getElem?_append_left (by rw [r.len]; exact hm)] at hb
      exact (r.obj m b o' hb e').ext e fun u hu => by rw [upd_ne (ne_of_none hu np)]; exact hu
    · have e2 : m = st.length := by
        have := (List.getElem?_eq_some_iff.mp e').1
        rw [List.length_append, List.length_singleton] at this
        omega
      subst e2
      rw [List.getElem?_append_right (Nat.le_refl _), Nat.sub_self] at e'
      rw [← r.len, List.getElem?_append_right (Nat.le_refl _), Nat.sub_self] at hb
      cases e'
      cases hb
      exact new _ e upd_same
theorem Rel.last (r : Rel K w ρ H st) (p : Addr) : (ρ ++ [p])[st.length]? = some p := by
  rw [← r.len, List.getElem?_append_right (Nat.le_refl _), Nat.sub_self]
  rfl
end
/-- the slots -/
structure Renv (K : PySem.W.Frag) (H : Hp) (ρ : List Addr) (σ : L2.St) (env : AEnv) : Prop where
  len : σ.length = env.length
  val : ∀ (i : Nat) (a : A), env[i]? = some (some a) → ∃ v, σ[i]? = some (some v) ∧ Rv K H ρ v a
theorem Renv.ext {ρ ρ' : List Addr} {H H' : Hp} {σ : L2.St} {env : AEnv} (r : Renv K H ρ σ env) (e : Ext ρ ρ' H H') : Renv K H' ρ' σ env :=
  ⟨r.len, fun i a h => by obtain ⟨v, e1, e2⟩ := r.val i a h; exact ⟨v, e1, rv_ext e e2⟩⟩
theorem Renv.set {ρ : List Addr} {H : Hp} {σ : L2.St} {env : AEnv} (r : Renv K H ρ σ env) (i : Nat) {v : V} {a : A} (h : Rv K H ρ v a) : Renv K H ρ (σ.set i (some v)) (env.set i (some a)) := by
  refine ⟨by rw [List.length_set, List.length_set]; exact r.len, fun j b e => ?_⟩
  by_cases hj : j = i
  · subst hj
    have hl : j < env.length := by
      have := (List.getElem?_eq_some_iff.mp e).1
      simpa using this
    rw [List.getElem?_set_self hl] at e
    cases e
    exact ⟨v, by rw [List.getElem?_set_self (by rw [r.len]; exact hl)], h⟩
  · rw [List.getElem?_set_ne (fun z => hj z.symm)] at e
    obtain ⟨u, e1, e2⟩ := r.val j b e
    exact ⟨u, by rw [List.getElem?_set_ne (fun z => hj z.symm)]; exact e1, e2⟩
def wipeA (env : AEnv) : List Nat → AEnv
  | [] => env
  | v :: vs => (wipeA env vs).set v none
theorem Renv.off {ρ : List Addr} {H : Hp} {σ : L2.St} {env : AEnv} (r : Renv K H ρ σ env) (i : Nat) : Renv K H ρ (σ.set i none) (env.set i none) := by
  refine ⟨by rw [List.length_set, List.length_set]; exact r.len, fun j b e => ?_⟩
  by_cases hj : j = i
  · subst hj
    have hl : j < env.length := by
      have := (List.getElem?_eq_some_iff.mp e).1
      simpa using this
    rw [List.getElem?_set_self hl] at e
    cases e
  · rw [List.getElem?_set_ne (fun z => hj z.symm)] at e
    obtain ⟨u, e1, e2⟩ := r.val j b e
    exact ⟨u, by rw [List.getElem?_set_ne (fun z => hj z.symm)]; exact e1, e2⟩
theorem Renv.wipe {ρ : List Addr} {H : Hp} {σ : L2.St} {env : AEnv} (r : Renv K H ρ σ env) : ∀ vs : List Nat, Renv K H ρ (L2.wipe σ vs) (wipeA env vs)
  | [] => r
  | v :: vs => (Renv.wipe r vs).off v
/-! ### what is wanted of a result -/
abbrev WishX := Value → Option Addr → L2.St → Hp → Prop
def RD (ρ : List Addr) : Option Nat → Option Addr → Prop
  | none, none => True
  | some n, some a => ρ[n]? = some a
  | _, _ => False
def Post {α : Type} (K : PySem.W.Frag) (w : World) (ρ : List Addr) (H : Hp) (r : Res α) (R : α → Sto → List Addr → Hp → Prop) (X : Value → Option Addr → Hp → Prop) : Prop := match r with
  | .ok a st => ∀ ρ' H', Ext ρ ρ' H H' → Rel K w ρ' H' st → R a st ρ' H'
  | .ex c d st => ∀ ρ' H' dx, Ext ρ ρ' H H' → Rel K w ρ' H' st → RD ρ' d dx → X (.ref c) dx H'
  | .no => False
theorem Post.ext {α : Type} {w : World} {ρ ρ1 : List Addr} {H H1 : Hp} {r : Res α} {R : α → Sto → List Addr → Hp → Prop} {X : Value → Option Addr → Hp → Prop} (p : Post K w ρ H r R X) (e : Ext ρ ρ1 H H1) : Post K w ρ1 H1 r R X := by
  cases r with
  | ok a st => exact fun ρ' H' e' r' => p ρ' H' (e.trans e') r'
  | ex c d st => exact fun ρ' H' dx e' r' => p ρ' H' dx (e.trans e') r'
  | no => exact p
abbrev ME := AEnv → Sto → Res A
abbrev MT := AEnv → Sto → Res Bool
abbrev MA := AEnv → Sto → Res (List A)
def RE (K : PySem.W.Frag) (w : World) (W : WishX) (t : TE) (f : ME) : Prop := ∀ ρ H st σ env Q, Rel K w ρ H st → Renv K H ρ σ env → Post K w ρ H (f env st) (fun a _ ρ' H' => ∀ v, Rv K H' ρ' v a → Q v H') (W · · σ ·) → t σ H Q
def RT (K : PySem.W.Frag) (w : World) (W : WishX) (t : TT) (f : MT) : Prop := ∀ ρ H st σ env Q, Rel K w ρ H st → Renv K H ρ σ env → Post K w ρ H (f env st) (fun b _ _ H' => Q b H') (W · · σ ·) → t σ H Q
def RA (K : PySem.W.Frag) (w : World) (W : WishX) (t : TA) (f : MA) : Prop := ∀ ρ H st σ env Q, Rel K w ρ H st → Renv K H ρ σ env → Post K w ρ H (f env st) (fun xs _ ρ' H' => ∀ vs, Rvs K H' ρ' vs xs → Q vs H') (W · · σ ·) → t σ H Q
section
variable {w : World} {W : WishX} {ρ : List Addr} {H : Hp} {st : Sto} {σ : L2.St} {env : AEnv} {β : Type} {R : β → Sto → List Addr → Hp → Prop}
theorem RE.use {ta : TE} {f : ME} {k : A → Sto → Res β} {Q : VK} (h : RE K w W ta f) (rel : Rel K w ρ H st) (re : Renv K H ρ σ env) (p : Post K w ρ H ((f env st).bind k) R (W · · σ ·))
    (go : ∀ a s1 ρ1 H1 v, Ext ρ ρ1 H H1 → Rel K w ρ1 H1 s1 → Rv K H1 ρ1 v a → Post K w ρ1 H1 (k a s1) R (W · · σ ·) → Q v H1) : ta σ H Q := by
  refine h ρ H st σ env Q rel re ?_
  cases e : f env st with
  | ok a s1 =>
    rw [e] at p
    exact fun ρ1 H1 e1 r1 v hv => go a s1 ρ1 H1 v e1 r1 hv (Post.ext p e1)
  | ex c d s1 => rw [e] at p; exact p
  | no => rw [e] at p; exact p
theorem RT.use {ta : TT} {f : MT} {k : Bool → Sto → Res β} {Q : Bool → Hp → Prop} (h : RT K w W ta f) (rel : Rel K w ρ H st) (re : Renv K H ρ σ env) (p : Post K w ρ H ((f env st).bind k) R (W · · σ ·))
    (go : ∀ a s1 ρ1 H1, Ext ρ ρ1 H H1 → Rel K w ρ1 H1 s1 → Post K w ρ1 H1 (k a s1) R (W · · σ ·) → Q a H1) : ta σ H Q := by
  refine h ρ H st σ env Q rel re ?_
  cases e : f env st with
  | ok a s1 =>
    rw [e] at p
    exact fun ρ1 H1 e1 r1 => go a s1 ρ1 H1 e1 r1 (Post.ext p e1)
  | ex c d s1 => rw [e] at p; exact p
  | no => rw [e] at p; exact p
theorem RA.use {ta : TA} {f : MA} {k : List A → Sto → Res β} {Q : List V → Hp → Prop} (h : RA K w W ta f) (rel : Rel K w ρ H st) (re : Renv K H ρ σ env) (p : Post K w ρ H ((f env st).bind k) R (W · · σ ·))
    (go : ∀ a s1 ρ1 H1 v, Ext ρ ρ1 H H1 → Rel K w ρ1 H1 s1 → Rvs K H1 ρ1 v a → Post K w ρ1 H1 (k a s1) R (W · · σ ·) → Q v H1) : ta σ H Q := by
  refine h ρ H st σ env Q rel re ?_
  cases e : f env st with
  | ok a s1 =>
    rw [e] at p
    exact fun ρ1 H1 e1 r1 v hv => go a s1 ρ1 H1 v e1 r1 hv (Post.ext p e1)
  | ex c d s1 => rw [e] at p; exact p
  | no => rw [e] at p; exact p
/-- a result at last -/
theorem Post.give {a : A} {Q : VK} {v : V} {X : Value → Option Addr → Hp → Prop} (p : Post K w ρ H (.ok a st) (fun a _ ρ' H' => ∀ v, Rv K H' ρ' v a → Q v H') X) (rel : Rel K w ρ H st) (h : Rv K H ρ v a) : Q v H := p ρ H (Ext.refl ρ H) rel v h
/-- .. at another heap -/
theorem Post.giveAt {a : A} {Q : VK} {v : V} {X : Value → Option Addr → Hp → Prop} {ρ1 : List Addr} {H1 : Hp} {s1 : Sto} (p : Post K w ρ H (.ok a s1) (fun a _ ρ' H' => ∀ v, Rv K H' ρ' v a → Q v H') X) (e : Ext ρ ρ1 H H1) (rel : Rel K w ρ1 H1 s1) (h : Rv K H1 ρ1 v a) : Q v H1 := p ρ1 H1 e rel v h
end

/-! ### mirrors of expressions -/
def mVar (i : Nat) : ME := fun env st => match env[i]? with
  | some (some a) => .ok a st
  | _ => .no
def mC (a : A) : ME := fun _ st => .ok a st
def mOp (op : A → A → Sto → Res A) (f g : ME) : ME := fun env st => (f env st).bind fun x s1 => (g env s1).bind fun y s2 => op x y s2
def mUn (op : A → Sto → Res A) (f : ME) : ME := fun env st => (f env st).bind fun x s1 => op x s1
section
variable {w : World} {W : WishX}
theorem re_var {i : Nat} : RE K w W (tVar i) (mVar i) := fun ρ H st σ env Q rel re p => by
  unfold mVar at p
  split at p
  · rename_i a e
    obtain ⟨v, e1, e2⟩ := re.val i a e
    exact ⟨v, e1, p.give rel e2⟩
  · exact p.elim
theorem re_c {v : V} {a : A} (h : ∀ ρ H, Rv K H ρ v a) : RE K w W (tC v) (mC a) := fun ρ H st σ env Q rel re p => p.give rel (h ρ H)
theorem re_int {i : Int} : RE K w W (tC (.int i)) (mC (.int i)) := re_c fun _ _ => .int i
theorem re_str {i : Str} : RE K w W (tC (.str i)) (mC (.str i)) := re_c fun _ _ => .str i
theorem re_bl {i : Bool} : RE K w W (tC (.bl i)) (mC (.bl i)) := re_c fun _ _ => .bl i
theorem re_non : RE K w W (tC .non) (mC .non) := re_c fun _ _ => .non
def R2ok (K : PySem.W.Frag) (w : World) (r : R2) (op : A → A → Sto → Res A) : Prop := ∀ ρ H st x y a b Q X, Rel K w ρ H st → Rv K H ρ x a → Rv K H ρ y b → Post K w ρ H (op a b st) (fun a _ ρ' H' => ∀ v, Rv K H' ρ' v a → Q v H') X → r x y H Q
def R1ok (K : PySem.W.Frag) (w : World) (r : V → Hp → VK → Prop) (op : A → Sto → Res A) : Prop := ∀ ρ H st x a Q X, Rel K w ρ H st → Rv K H ρ x a → Post K w ρ H (op a st) (fun a _ ρ' H' => ∀ v, Rv K H' ρ' v a → Q v H') X → r x H Q
theorem re_op {r : R2} {op : A → A → Sto → Res A} {ta tb : TE} {f g : ME} (ho : R2ok K w r op) (hf : RE K w W ta f) (hg : RE K w W tb g) : RE K w W (tOp r ta tb) (mOp op f g) := fun ρ H st σ env Q rel re p =>
  hf.use rel re p fun a s1 ρ1 H1 x e1 r1 v1 p1 => hg.use r1 (re.ext e1) p1 fun b s2 ρ2 H2 y e2 r2 v2 p2 => ho ρ2 H2 s2 x y a b Q _ r2 (rv_ext e2 v1) v2 p2
theorem re_un {r : V → Hp → VK → Prop} {op : A → Sto → Res A} {ta : TE} {f : ME} (ho : R1ok K w r op) (hf : RE K w W ta f) : RE K w W (tUn r ta) (mUn op f) := fun ρ H st σ env Q rel re p =>
  hf.use rel re p fun a s1 ρ1 H1 x e1 r1 v1 p1 => ho ρ1 H1 s1 x a Q _ r1 v1 p1
/-! ### operators of whole numbers -/
def oI (C : Int → Int → Bool) (g : Int → Int → A) : A → A → Sto → Res A := fun a b st => match a, b with
  | .int i, .int j => if C i j = true then .ok (g i j) st else .no
  | _, _ => .no
def oI0 (g : Int → Int → A) : A → A → Sto → Res A := fun a b st => match a, b with
  | .int i, .int j => .ok (g i j) st
  | _, _ => .no
theorem r2_I0 {g : Int → Int → V} {g' : Int → Int → A} (hg : ∀ i j ρ H, Rv K H ρ (g i j) (g' i j)) : R2ok K w (rI0 g) (oI0 g') := fun ρ H st x y a b Q X rel ra rb p => by
  unfold oI0 at p
  split at p
  · cases ra
    cases rb
    exact ⟨_, _, rfl, rfl, p.give rel (hg _ _ _ _)⟩
  · exact p.elim
theorem r2_I {C : Int → Int → Prop} {C' : Int → Int → Bool} {g : Int → Int → V} {g' : Int → Int → A} (hC : ∀ i j, C' i j = true → C i j) (hg : ∀ i j ρ H, Rv K H ρ (g i j) (g' i j)) : R2ok K w (rI C g) (oI C' g') := fun ρ H st x y a b Q X rel ra rb p => by
  unfold oI at p
  split at p
  · cases ra
    cases rb
    split at p
    · rename_i hc
      exact ⟨_, _, rfl, rfl, hC _ _ hc, p.give rel (hg _ _ _ _)⟩
    · exact p.elim
  · exact p.elim
/-- two ways of one operator -/
def rOr (r r' : R2) : R2 := fun x y H Q => r x y H Q ∨ r' x y H Q
theorem OpR.or {X : Cx} {f : Value → Value → Sem Value} {r r' : R2} (h : OpR X f r) (h' : OpR X f r') : OpR X f (rOr r r') := fun pins s σ H x y v u Q I rx ry z => z.elim (fun z => h pins s σ H x y v u Q I rx ry z) (fun z => h' pins s σ H x y v u Q I rx ry z)
def oOr (c : A → A → Bool) (op op' : A → A → Sto → Res A) : A → A → Sto → Res A := fun a b st => if c a b = true then op a b st else op' a b st
theorem r2_or {r r' : R2} {c : A → A → Bool} {op op' : A → A → Sto → Res A} (h : R2ok K w r op) (h' : R2ok K w r' op') : R2ok K w (rOr r r') (oOr c op op') := fun ρ H st x y a b Q X rel ra rb p => by
  unfold oOr at p
  split at p
  · exact .inl (h ρ H st x y a b Q X rel ra rb p)
  · exact .inr (h' ρ H st x y a b Q X rel ra rb p)
def isInt : A → Bool
  | .int _ => true
  | _ => false
def isStr : A → Bool
  | .str _ => true
  | _ => false
def isTup : A → Bool
  | .tup _ => true
  | _ => false
def isRef : A → Bool
  | .ref _ => true
  | _ => false
/-! ### texts -/
def oS (C : Str → Str → Bool) (g : Str → Str → A) : A → A → Sto → Res A := fun a b st => match a, b with
  | .str i, .str j => if C i j = true then .ok (g i j) st else .no
  | _, _ => .no
theorem r2_addS : R2ok K w (fun x y H Q => ∃ i j, x = .str i ∧ y = .str j ∧ i.length + j.length ≤ sizeLine ∧ Q (.str (i ++ j)) H) (oS (fun i j => decide (i.length + j.length ≤ sizeLine)) fun i j => .str (i ++ j)) := fun ρ H st x y a b Q X rel ra rb p => by
  unfold oS at p
  split at p
  · cases ra
    cases rb
    split at p
    · rename_i hc
      exact ⟨_, _, rfl, rfl, of_decide_eq_true hc, p.give rel (.str _)⟩
    · exact p.elim
  · exact p.elim
theorem r2_cmpS {g : Str → Str → Bool} : R2ok K w (fun x y H Q => ∃ i j, x = .str i ∧ y = .str j ∧ Q (.bl (g i j)) H) (oS (fun _ _ => true) fun i j => .bl (g i j)) := fun ρ H st x y a b Q X rel ra rb p => by
  unfold oS at p
  split at p
  · cases ra
    cases rb
    exact ⟨_, _, rfl, rfl, p.give rel (.bl _)⟩
  · exact p.elim
/-! ### new objects -/
def newO (o : AO) (st : Sto) : Res A := .ok (.ref st.length) (st ++ [o])
theorem post_newL {ρ : List Addr} {H : Hp} {st : Sto} {vs : List V} {xs : List A} {Q : VK} {X : Value → Option Addr → Hp → Prop} (rel : Rel K w ρ H st) (rv : Rvs K H ρ vs xs) (p : Post K w ρ H (newO (.lst xs) st) (fun a _ ρ' H' => ∀ v, Rv K H' ρ' v a → Q v H') X) (q : Addr) (nq : H q = none) : Q (.ref q) (upd H q (.lst vs)) := by
  obtain ⟨e, r⟩ := rel.new (o := .lst xs) (u := .lst vs) nq fun H' e' h' => ⟨vs, h', rvs_ext e' rv⟩
  exact p.giveAt e r (.ref (rel.last q))
theorem post_newT {ρ : List Addr} {H : Hp} {st : Sto} {vs : List V} {xs : List A} {Q : VK} {X : Value → Option Addr → Hp → Prop} (rel : Rel K w ρ H st) (rv : Rvs K H ρ vs xs) (p : Post K w ρ H (.ok (.tup xs) st) (fun a _ ρ' H' => ∀ v, Rv K H' ρ' v a → Q v H') X) (q : Addr) (nq : H q = none) : Q (.ref q) (upd H q (.tup vs)) := by
  have s := same_upd (o := .tup vs) nq
  exact p.giveAt (Ext.same s) (rel.same s) (.tup (SqT.of upd_same) (rvs_ext (Ext.same s) rv))
/-- what a list holds -/
def getL (st : Sto) : A → Option (List A)
  | .lit xs => some xs
  | .ref n => match st[n]? with
    | some (.lst xs) => some xs
    | _ => none
  | _ => none
theorem getL_sq {ρ : List Addr} {H : Hp} {st : Sto} {v : V} {a : A} {xs : List A} (rel : Rel K w ρ H st) (h : Rv K H ρ v a) (e : getL st a = some xs) : ∃ p vs, v = .ref p ∧ SqL K H p vs ∧ Rvs K H ρ vs xs := by
  cases h with
  | lit h hs =>
    cases e
    exact ⟨_, _, rfl, lit_sq h, hs⟩
  | ref h =>
    unfold getL at e
    simp only at e
    split at e
    · rename_i ys e1
      cases e
      obtain ⟨vs, h1, h2⟩ := rel.get h e1
      exact ⟨_, _, rfl, SqL.of h1, h2⟩
    · cases e
  | _ => cases e
def getM (st : Sto) : A → Option (Nat × List A)
  | .ref n => match st[n]? with
    | some (.lst xs) => some (n, xs)
    | _ => none
  | _ => none
theorem getM_is {ρ : List Addr} {H : Hp} {st : Sto} {v : V} {a : A} {n : Nat} {xs : List A} (rel : Rel K w ρ H st) (h : Rv K H ρ v a) (e : getM st a = some (n, xs)) : ∃ p vs, v = .ref p ∧ ρ[n]? = some p ∧ H p = some (.lst vs) ∧ Rvs K H ρ vs xs := by
  cases h with
  | ref h =>
    unfold getM at e
    simp only at e
    split at e
    · rename_i ys e1
      cases e
      obtain ⟨vs, h1, h2⟩ := rel.get h e1
      exact ⟨_, _, rfl, h, h1, h2⟩
    · cases e
  | _ => cases e
def getT : A → Option (List A)
  | .tup xs => some xs
  | _ => none
theorem getT_sq {ρ : List Addr} {H : Hp} {v : V} {a : A} {xs : List A} (h : Rv K H ρ v a) (e : getT a = some xs) : ∃ p vs, v = .ref p ∧ SqT K H p vs ∧ Rvs K H ρ vs xs := by
  cases h with
  | tup h hs =>
    cases e
    exact ⟨_, _, rfl, h, hs⟩
  | _ => cases e
/-! ### + of lists and tuples, * of a list -/
def oCat : A → A → Sto → Res A := fun a b st => match getM st a, getM st b with
  | some (_, xs), some (_, ys) => if xs.length + ys.length ≤ sizeLine then newO (.lst (xs ++ ys)) st else .no
  | _, _ => .no
theorem r2_cat : R2ok K w rCat oCat := fun ρ H st x y a b Q X rel ra rb p => by
  unfold oCat at p
  split at p
  · rename_i n xs m ys e1 e2
    obtain ⟨q, vs, rfl, _, h1, h2⟩ := getM_is rel ra e1
    obtain ⟨q', us, rfl, _, h3, h4⟩ := getM_is rel rb e2
    split at p
    · rename_i hl
      exact ⟨_, _, _, _, rfl, rfl, h1, h3, by rw [h2.length, h4.length]; exact hl, fun z nz => post_newL rel (h2.append h4) p z nz⟩
    · exact p.elim
  · exact p.elim
def oCatT : A → A → Sto → Res A := fun a b st => match a, b with
  | .tup xs, .tup ys => if xs.length + ys.length ≤ sizeLine then .ok (.tup (xs ++ ys)) st else .no
  | _, _ => .no
theorem r2_catT : R2ok K w (rCatA K) oCatT := fun ρ H st x y a b Q X rel ra rb p => by
  unfold oCatT at p
  split at p
  · rename_i xs ys
    obtain ⟨q, vs, rfl, h1, h2⟩ := getT_sq ra rfl
    obtain ⟨q', us, rfl, h3, h4⟩ := getT_sq rb rfl
    split at p
    · rename_i hl
      refine ⟨_, _, _, _, rfl, rfl, h1, h3, by rw [h2.length, h4.length]; exact hl, fun z => ?_, fun _ z => ?_, fun _ _ z nz => post_newT rel (h2.append h4) p z nz⟩
      · subst z
        cases h2
        exact p.give rel rb
      · subst z
        cases h4
        rw [List.append_nil] at p
        exact p.give rel ra
    · exact p.elim
  · exact p.elim
def oRep : A → A → Sto → Res A := fun a b st => match getM st a, b with
  | some (_, xs), .int k => if -(2 ^ 63) ≤ k ∧ k < 2 ^ 63 ∧ xs.length * k.toNat ≤ sizeLine then newO (.lst (List.replicate k.toNat xs).flatten) st else .no
  | _, _ => .no
theorem rvs_rep {ρ : List Addr} {H : Hp} {vs : List V} {xs : List A} (h : Rvs K H ρ vs xs) : ∀ n : Nat, Rvs K H ρ (List.replicate n vs).flatten (List.replicate n xs).flatten
  | 0 => .nil
  | n + 1 => by
    rw [List.replicate_succ, List.replicate_succ, List.flatten_cons, List.flatten_cons]
    exact h.append (rvs_rep h n)
theorem r2_rep : R2ok K w rRep oRep := fun ρ H st x y a b Q X rel ra rb p => by
  unfold oRep at p
  split at p
  · rename_i n xs k e1
    obtain ⟨q, vs, rfl, _, h1, h2⟩ := getM_is rel ra e1
    cases rb
    split at p
    · rename_i hl
      exact ⟨_, _, _, rfl, rfl, h1, hl.1, hl.2.1, by rw [h2.length]; exact hl.2.2, fun z nz => post_newL rel (rvs_rep h2 _) p z nz⟩
    · exact p.elim
  · exact p.elim
/-! ### an item -/
theorem rvs_atI {ρ : List Addr} {H : Hp} {vs : List V} {xs : List A} {i : Int} {a : A} (h : Rvs K H ρ vs xs) (e : atI xs i = some a) : ∃ v, atI vs i = some v ∧ Rv K H ρ v a := by
  unfold atI at e ⊢
  rw [h.length]
  cases hj : ixN xs.length i with
  | none => rw [hj] at e; cases e
  | some j =>
    rw [hj] at e
    exact h.get e
def oIx : A → A → Sto → Res A := fun a b st => match b with
  | .int i => match getL st a with
    | some xs => lift (atI xs i) st
    | none => .no
  | _ => .no
def oIxT : A → A → Sto → Res A := fun a b st => match a, b with
  | .tup xs, .int i => lift (atI xs i) st
  | _, _ => .no
def oIxS : A → A → Sto → Res A := fun a b st => match a, b with
  | .str z, .int i => if z.length ≤ sizeLine then lift ((atI z.cps.toList i).map fun c => A.str ⟨#[c]⟩) st else .no
  | _, _ => .no
theorem r2_ix : R2ok K w (rIxL K) oIx := fun ρ H st x y a b Q X rel ra rb p => by
  unfold oIx at p
  split at p
  · rename_i i
    cases rb
    split at p
    · rename_i xs e1
      obtain ⟨q, vs, rfl, h1, h2⟩ := getL_sq rel ra e1
      cases e : atI xs i with
      | none => rw [e] at p; exact p.elim
      | some c =>
        rw [e] at p
        obtain ⟨v, e2, e3⟩ := rvs_atI h2 e
        exact ⟨_, _, _, _, rfl, rfl, h1, e2, p.give rel e3⟩
    · exact p.elim
  · exact p.elim
theorem r2_ixT : R2ok K w (rIxT K) oIxT := fun ρ H st x y a b Q X rel ra rb p => by
  unfold oIxT at p
  split at p
  · rename_i xs i
    cases rb
    obtain ⟨q, vs, rfl, h1, h2⟩ := getT_sq ra rfl
    cases e : atI xs i with
    | none => rw [e] at p; exact p.elim
    | some c =>
      rw [e] at p
      obtain ⟨v, e2, e3⟩ := rvs_atI h2 e
      exact ⟨_, _, _, _, rfl, rfl, h1, e2, p.give rel e3⟩
  · exact p.elim
theorem r2_ixS : R2ok K w rIxS oIxS := fun ρ H st x y a b Q X rel ra rb p => by
  unfold oIxS at p
  split at p
  · rename_i z i
    cases ra
    cases rb
    split at p
    · rename_i hl
      cases e : atI z.cps.toList i with
      | none => rw [e] at p; exact p.elim
      | some c =>
        rw [e] at p
        exact ⟨_, _, _, rfl, rfl, hl, e, p.give rel (.str _)⟩
    · exact p.elim
  · exact p.elim
theorem IxR.or {X : Cx} {r r' : R2} (h : IxR X r) (h' : IxR X r') : IxR X (rOr r r') := fun value slice pins s σ H x y v u Q I rx ry z hs => z.elim (fun z => h value slice pins s σ H x y v u Q I rx ry z hs) (fun z => h' value slice pins s σ H x y v u Q I rx ry z hs)
end

/-! ### mirrors: data, equality -/
def allD (f : A → Option PyData) : List A → Option (List PyData)
  | [] => some []
  | x :: xs => match f x, allD f xs with
    | some d, some ds => some (d :: ds)
    | _, _ => none
def dat (st : Sto) : Nat → A → Option PyData
  | _, .non => some .none
  | _, .bl b => some (.bool b)
  | _, .int i => some (.int i)
  | _, .str x => some (.str x)
  | n + 1, .tup xs => (allD (dat st n) xs).map .tuple
  | n + 1, .lit xs => (allD (dat st n) xs).map .list
  | n + 1, .ref m => match st[m]? with
    | some (.lst xs) => (allD (dat st n) xs).map .list
    | _ => none
  | _, _ => none
section
variable {w : World} {W : WishX}
theorem allD_dp {ρ : List Addr} {H : Hp} {f : A → Option PyData} (hf : ∀ v a d, Rv K H ρ v a → f a = some d → Dp K H v d) : ∀ {vs : List V} {xs : List A} {ds : List PyData}, Rvs K H ρ vs xs → allD f xs = some ds → DpAll K H vs ds
  | _, _, _, .nil, e => by cases e; exact .nil
  | _, _, _, .cons (xs := xs) h hs, e => by
    unfold allD at e
    split at e
    · rename_i d ds e1 e2
      cases e
      exact .cons (hf _ _ _ h e1) (allD_dp hf hs e2)
    · cases e
theorem dat_dp {ρ : List Addr} {H : Hp} {st : Sto} (rel : Rel K w ρ H st) : ∀ (n : Nat) (v : V) (a : A) (d : PyData), Rv K H ρ v a → dat st n a = some d → Dp K H v d
  | n, _, .non, _, h, e => by cases h; cases n <;> (cases e; exact .non)
  | n, _, .bl b, _, h, e => by cases h; cases n <;> (cases e; exact .bl b)
  | n, _, .int b, _, h, e => by cases h; cases n <;> (cases e; exact .int b)
  | n, _, .str b, _, h, e => by cases h; cases n <;> (cases e; exact .str b)
  | 0, _, .tup _, _, _, e => by cases e
  | 0, _, .lit _, _, _, e => by cases e
  | 0, _, .ref _, _, _, e => by cases e
  | n, _, .adr _, _, _, e => by cases n <;> cases e
  | n, _, .ty _, _, _, e => by cases n <;> cases e
  | n + 1, _, .tup xs, _, h, e => by
    cases h with
    | tup h hs =>
      obtain ⟨ds, e1, rfl⟩ := Option.map_eq_some_iff.mp (show (allD (dat st n) xs).map PyData.tuple = some _ from e)
      exact .tup h (allD_dp (dat_dp rel n) hs e1)
  | n + 1, _, .lit xs, _, h, e => by
    cases h with
    | lit h hs =>
      obtain ⟨ds, e1, rfl⟩ := Option.map_eq_some_iff.mp (show (allD (dat st n) xs).map PyData.list = some _ from e)
      exact .lst (lit_sq h) (allD_dp (dat_dp rel n) hs e1)
  | n + 1, _, .ref m, _, h, e => by
    cases h with
    | ref h =>
      unfold dat at e
      split at e
      · rename_i xs e0
        obtain ⟨ds, e1, rfl⟩ := Option.map_eq_some_iff.mp e
        obtain ⟨vs, h1, h2⟩ := rel.get h e0
        exact .lst (SqL.of h1) (allD_dp (dat_dp rel n) h2 e1)
      · cases e
/-- == of two scalars -/
def eqS : A → A → Option Bool
  | .non, .non => some true
  | .non, .int _ => some false
  | .int _, .non => some false
  | .non, .bl _ => some false
  | .bl _, .non => some false
  | .non, .str _ => some false
  | .str _, .non => some false
  | .int i, .int j => some (decide (i = j))
  | .bl i, .bl j => some (decide (i = j))
  | .str i, .str j => some (decide (i = j))
  | .int _, .str _ => some false
  | .str _, .int _ => some false
  | .bl _, .str _ => some false
  | .str _, .bl _ => some false
  | _, _ => none
theorem eqS_scal {ρ : List Addr} {H : Hp} {x y : V} {a b : A} {c : Bool} (ra : Rv K H ρ x a) (rb : Rv K H ρ y b) (e : eqS a b = some c) : scal x y = true ∧ decide (x = y) = c := by
  cases ra <;> cases rb <;> first
    | (cases e; exact ⟨rfl, rfl⟩)
    | (cases e; exact ⟨rfl, by simp⟩)
    | (cases e)
def deep : Nat := 30
def eqA (st : Sto) (a b : A) : Option Bool := match eqS a b with
  | some c => some c
  | none => match dat st deep a, dat st deep b with
    | some d, some e => if SeqAt.shaped d = true ∧ SeqAt.shaped e = true then some (PyData.eqv d e) else none
    | _, _ => none
def oEq : A → A → Sto → Res A := fun a b st => lift ((eqA st a b).map A.bl) st
def oNe : A → A → Sto → Res A := fun a b st => lift ((eqA st a b).map fun c => A.bl (!c)) st
theorem r2_eq : R2ok K w (rOr rEq (rEqD K)) oEq := fun ρ H st x y a b Q X rel ra rb p => by
  unfold oEq eqA at p
  cases e : eqS a b with
  | some c =>
    rw [e] at p
    obtain ⟨h1, h2⟩ := eqS_scal ra rb e
    exact .inl ⟨h1, p.give rel (by rw [h2]; exact .bl c)⟩
  | none =>
    rw [e] at p
    simp only at p
    split at p
    · rename_i d d' e1 e2
      split at p
      · rename_i hs
        exact .inr ⟨d, d', dat_dp rel _ _ _ _ ra e1, dat_dp rel _ _ _ _ rb e2, hs.1, hs.2, p.give rel (.bl _)⟩
      · exact p.elim
    · exact p.elim
theorem r2_ne : R2ok K w (rOr rNe (rNeD K)) oNe := fun ρ H st x y a b Q X rel ra rb p => by
  unfold oNe eqA at p
  cases e : eqS a b with
  | some c =>
    rw [e] at p
    obtain ⟨h1, h2⟩ := eqS_scal ra rb e
    exact .inl ⟨h1, p.give rel (by rw [h2]; exact .bl _)⟩
  | none =>
    rw [e] at p
    simp only at p
    split at p
    · rename_i d d' e1 e2
      split at p
      · rename_i hs
        exact .inr ⟨d, d', dat_dp rel _ _ _ _ ra e1, dat_dp rel _ _ _ _ rb e2, hs.1, hs.2, p.give rel (.bl _)⟩
      · exact p.elim
    · exact p.elim
/-- is None -/
def isNon : A → Bool
  | .non => true
  | _ => false
theorem isNon_rv {ρ : List Addr} {H : Hp} {x : V} {a : A} (h : Rv K H ρ x a) : decide (x = .non) = isNon a := by
  cases h <;> simp [isNon]
def oIs : A → A → Sto → Res A := fun a b st => match b with
  | .non => .ok (.bl (isNon a)) st
  | _ => .no
def oIsNot : A → A → Sto → Res A := fun a b st => match b with
  | .non => .ok (.bl (!isNon a)) st
  | _ => .no
theorem r2_is : R2ok K w (fun x y H Q => y = .non ∧ Q (.bl (decide (x = .non))) H) oIs := fun ρ H st x y a b Q X rel ra rb p => by
  unfold oIs at p
  split at p
  · cases rb
    exact ⟨rfl, p.give rel (by rw [isNon_rv ra]; exact .bl _)⟩
  · exact p.elim
theorem r2_isnot : R2ok K w (fun x y H Q => y = .non ∧ Q (.bl (!decide (x = .non))) H) oIsNot := fun ρ H st x y a b Q X rel ra rb p => by
  unfold oIsNot at p
  split at p
  · cases rb
    exact ⟨rfl, p.give rel (by rw [isNon_rv ra]; exact .bl _)⟩
  · exact p.elim
/-- in, of a list or tuple -/
def getS (st : Sto) (a : A) : Option (List A) := match getT a with
  | some xs => some xs
  | none => getL st a
theorem getS_sq {ρ : List Addr} {H : Hp} {st : Sto} {v : V} {a : A} {xs : List A} (rel : Rel K w ρ H st) (h : Rv K H ρ v a) (e : getS st a = some xs) : ∃ p vs, v = .ref p ∧ (SqL K H p vs ∨ SqT K H p vs) ∧ Rvs K H ρ vs xs := by
  unfold getS at e
  split at e
  · rename_i ys e1
    cases e
    obtain ⟨p, vs, e2, h1, h2⟩ := getT_sq h e1
    exact ⟨p, vs, e2, .inr h1, h2⟩
  · obtain ⟨p, vs, e2, h1, h2⟩ := getL_sq rel h e
    exact ⟨p, vs, e2, .inl h1, h2⟩
def flatA : A → Bool
  | .non => true
  | .bl _ => true
  | .int _ => true
  | .str _ => true
  | _ => false
def eqF : A → A → Bool
  | .non, .non => true
  | .bl a, .bl b => a == b
  | .bl a, .int b => (if a then 1 else 0) == b
  | .int a, .bl b => a == (if b then 1 else 0)
  | .int a, .int b => a == b
  | .str a, .str b => a == b
  | _, _ => false
theorem flat_rv {ρ : List Addr} {H : Hp} {x : V} {a : A} (h : Rv K H ρ x a) (f : flatA a = true) : flatV x = true := by
  cases h <;> first | rfl | (cases f)
theorem eqF_rv {ρ : List Addr} {H : Hp} {x y : V} {a b : A} (ha : Rv K H ρ x a) (hb : Rv K H ρ y b) (fa : flatA a = true) (fb : flatA b = true) : eqV x y = eqF a b := by
  cases ha <;> cases hb <;> first | rfl | (cases fa) | (cases fb)
theorem flats_rv {ρ : List Addr} {H : Hp} : ∀ {vs : List V} {xs : List A}, Rvs K H ρ vs xs → xs.all flatA = true → vs.all flatV = true
  | _, _, .nil, _ => rfl
  | _, _, .cons h hs, f => by
    rw [List.all_cons, Bool.and_eq_true] at f
    rw [List.all_cons, flat_rv h f.1, flats_rv hs f.2]
    rfl
theorem inF_rv {ρ : List Addr} {H : Hp} {x : V} {a : A} (ha : Rv K H ρ x a) (fa : flatA a = true) : ∀ {vs : List V} {xs : List A}, Rvs K H ρ vs xs → xs.all flatA = true → inV x vs = xs.any fun y => eqF y a
  | _, _, .nil, _ => rfl
  | _, _, .cons h hs, f => by
    rw [List.all_cons, Bool.and_eq_true] at f
    unfold inV
    rw [List.any_cons, List.any_cons, eqF_rv h ha f.1 fa]
    have := inF_rv ha fa hs f.2
    unfold inV at this
    rw [this]
def inA (st : Sto) (a b : A) : Option Bool := match getS st b with
  | some xs => if flatA a = true ∧ xs.all flatA = true then some (xs.any fun y => eqF y a) else none
  | none => none
def oInF : A → A → Sto → Res A := fun a b st => lift ((inA st a b).map A.bl) st
def oNotInF : A → A → Sto → Res A := fun a b st => lift ((inA st a b).map fun c => A.bl (!c)) st
theorem r2_inF : R2ok K w (rIn K false) oInF := fun ρ H st x y a b Q X rel ra rb p => by
  unfold oInF inA at p
  split at p
  · rename_i xs e
    obtain ⟨q, vs, rfl, h1, h2⟩ := getS_sq rel rb e
    split at p
    · rename_i hf
      exact ⟨q, vs, rfl, h1, flat_rv ra hf.1, flats_rv h2 hf.2, p.give rel (by rw [inF_rv ra hf.1 h2 hf.2]; exact .bl _)⟩
    · exact p.elim
  · exact p.elim
theorem r2_notInF : R2ok K w (rIn K true) oNotInF := fun ρ H st x y a b Q X rel ra rb p => by
  unfold oNotInF inA at p
  split at p
  · rename_i xs e
    obtain ⟨q, vs, rfl, h1, h2⟩ := getS_sq rel rb e
    split at p
    · rename_i hf
      exact ⟨q, vs, rfl, h1, flat_rv ra hf.1, flats_rv h2 hf.2, p.give rel (by rw [inF_rv ra hf.1 h2 hf.2]; exact .bl _)⟩
    · exact p.elim
  · exact p.elim
/-- in, of a list of data -/
def inD (st : Sto) (a b : A) : Option Bool := match dat st deep a, dat st deep b with
  | some d, some (.list ds) => if SeqAt.shaped d = true ∧ SeqAt.shaped (.list ds) = true then some (ds.any fun z => PyData.eqv z d) else none
  | _, _ => none
def oInD : A → A → Sto → Res A := fun a b st => lift ((inD st a b).map A.bl) st
def oNotInD : A → A → Sto → Res A := fun a b st => lift ((inD st a b).map fun c => A.bl (!c)) st
theorem r2_inD : R2ok K w (rInD K) oInD := fun ρ H st x y a b Q X rel ra rb p => by
  unfold oInD inD at p
  split at p
  · rename_i d ds e1 e2
    split at p
    · rename_i hs
      exact ⟨_, _, dat_dp rel _ _ _ _ ra e1, dat_dp rel _ _ _ _ rb e2, hs.1, hs.2, p.give rel (.bl _)⟩
    · exact p.elim
  · exact p.elim
theorem r2_notInD : R2ok K w (rNotInD K) oNotInD := fun ρ H st x y a b Q X rel ra rb p => by
  unfold oNotInD inD at p
  split at p
  · rename_i d ds e1 e2
    split at p
    · rename_i hs
      exact ⟨_, _, dat_dp rel _ _ _ _ ra e1, dat_dp rel _ _ _ _ rb e2, hs.1, hs.2, p.give rel (.bl _)⟩
    · exact p.elim
  · exact p.elim
/-- a sign in a text -/
def oInS (neg : Bool) : A → A → Sto → Res A := fun a b st => match a, b with
  | .str x, .str z => match x.cps.toList with
    | [c] => .ok (.bl (if neg then !decide (c ∈ z.cps.toList) else decide (c ∈ z.cps.toList))) st
    | _ => .no
  | _, _ => .no
theorem one_sign {x : Str} {c : Nat} (h : x.cps.toList = [c]) : x = ⟨#[c]⟩ := by
  obtain ⟨a⟩ := x
  have : a = #[c] := by
    apply Array.ext'
    simpa using h
  rw [this]
theorem r2_inS : R2ok K w (fun x y H Q => ∃ (c : Nat) (z : Str), x = .str ⟨#[c]⟩ ∧ y = .str z ∧ Q (.bl (decide (c ∈ z.cps.toList))) H) (oInS false) := fun ρ H st x y a b Q X rel ra rb p => by
  unfold oInS at p
  split at p
  · split at p
    · rename_i c hc
      cases ra
      cases rb
      exact ⟨c, _, by rw [one_sign hc], rfl, p.give rel (.bl _)⟩
    · exact p.elim
  · exact p.elim
theorem r2_notInS : R2ok K w (fun x y H Q => ∃ (c : Nat) (z : Str), x = .str ⟨#[c]⟩ ∧ y = .str z ∧ Q (.bl (!decide (c ∈ z.cps.toList))) H) (oInS true) := fun ρ H st x y a b Q X rel ra rb p => by
  unfold oInS at p
  split at p
  · split at p
    · rename_i c hc
      cases ra
      cases rb
      exact ⟨c, _, by rw [one_sign hc], rfl, p.give rel (.bl _)⟩
    · exact p.elim
  · exact p.elim
/-! ### tests, and, or, not, a if t else b -/
def mTest (f : ME) : MT := fun env st => (f env st).bind fun a s => match a with
  | .bl b => .ok b s
  | _ => .no
def mNotT (f : MT) : MT := fun env st => (f env st).bind fun b s => .ok (!b) s
def mAndT (f g : MT) : MT := fun env st => (f env st).bind fun b s => if b = true then g env s else .ok false s
def mOrT (f g : MT) : MT := fun env st => (f env st).bind fun b s => if b = true then .ok true s else g env s
def mIfE (c : MT) (f g : ME) : ME := fun env st => (c env st).bind fun b s => if b = true then f env s else g env s
def mNot (f : ME) : ME := fun env st => (f env st).bind fun a s => match a with
  | .bl b => .ok (.bl (!b)) s
  | _ => .no
def mAnd (f g : ME) : ME := fun env st => (f env st).bind fun a s => match a with
  | .bl b => if b = true then g env s else .ok (.bl false) s
  | _ => .no
def mOr (f g : ME) : ME := fun env st => (f env st).bind fun a s => match a with
  | .bl b => if b = true then .ok (.bl true) s else g env s
  | _ => .no
theorem Post.giveB {ρ : List Addr} {H : Hp} {st : Sto} {b : Bool} {Q : Bool → Hp → Prop} {X : Value → Option Addr → Hp → Prop} (p : Post K w ρ H (.ok b st) (fun b _ _ H' => Q b H') X) (rel : Rel K w ρ H st) : Q b H := p ρ H (Ext.refl ρ H) rel
theorem rt_test {t : TE} {f : ME} (hf : RE K w W t f) : RT K w W (tTest t) (mTest f) := fun ρ H st σ env Q rel re p =>
  hf.use rel re p fun a s1 ρ1 H1 x e1 r1 v1 p1 => by
    split at p1
    · cases v1
      exact ⟨_, rfl, p1.giveB r1⟩
    · exact p1.elim
theorem rt_val {t : TE} {f : ME} (hf : RE K w W t f) : RT K w W (tB t) (mTest f) := rt_test hf
theorem rt_not {t : TT} {f : MT} (hf : RT K w W t f) : RT K w W (tNot t) (mNotT f) := fun ρ H st σ env Q rel re p =>
  hf.use rel re p fun a s1 ρ1 H1 e1 r1 p1 => p1.giveB r1
theorem rt_and {t u : TT} {f g : MT} (hf : RT K w W t f) (hg : RT K w W u g) : RT K w W (tAnd t u) (mAndT f g) := fun ρ H st σ env Q rel re p =>
  hf.use rel re p fun a s1 ρ1 H1 e1 r1 p1 => by
    cases a with
    | true => exact iteT (hg ρ1 H1 s1 σ env Q r1 (re.ext e1) p1)
    | false => exact iteF (p1.giveB r1)
theorem rt_or {t u : TT} {f g : MT} (hf : RT K w W t f) (hg : RT K w W u g) : RT K w W (tOr t u) (mOrT f g) := fun ρ H st σ env Q rel re p =>
  hf.use rel re p fun a s1 ρ1 H1 e1 r1 p1 => by
    cases a with
    | true => exact iteT (p1.giveB r1)
    | false => exact iteF (hg ρ1 H1 s1 σ env Q r1 (re.ext e1) p1)
theorem re_if {c : TT} {t u : TE} {m : MT} {f g : ME} (hc : RT K w W c m) (hf : RE K w W t f) (hg : RE K w W u g) : RE K w W (tIf c t u) (mIfE m f g) := fun ρ H st σ env Q rel re p =>
  hc.use rel re p fun a s1 ρ1 H1 e1 r1 p1 => by
    cases a with
    | true => exact iteT (hf ρ1 H1 s1 σ env Q r1 (re.ext e1) p1)
    | false => exact iteF (hg ρ1 H1 s1 σ env Q r1 (re.ext e1) p1)
theorem re_not {t : TE} {f : ME} (hf : RE K w W t f) : RE K w W (tNotV t) (mNot f) := fun ρ H st σ env Q rel re p =>
  hf.use rel re p fun a s1 ρ1 H1 x e1 r1 v1 p1 => by
    split at p1
    · cases v1
      exact ⟨_, rfl, p1.give r1 (.bl _)⟩
    · exact p1.elim
theorem re_and {t u : TE} {f g : ME} (hf : RE K w W t f) (hg : RE K w W u g) : RE K w W (tAndV t u) (mAnd f g) := fun ρ H st σ env Q rel re p =>
  hf.use rel re p fun a s1 ρ1 H1 x e1 r1 v1 p1 => by
    split at p1
    · rename_i b
      cases v1
      cases b with
      | true => exact ⟨_, rfl, iteT (hg ρ1 H1 s1 σ env Q r1 (re.ext e1) p1)⟩
      | false => exact ⟨_, rfl, iteF (p1.give r1 (.bl _))⟩
    · exact p1.elim
theorem re_or {t u : TE} {f g : ME} (hf : RE K w W t f) (hg : RE K w W u g) : RE K w W (tOrV t u) (mOr f g) := fun ρ H st σ env Q rel re p =>
  hf.use rel re p fun a s1 ρ1 H1 x e1 r1 v1 p1 => by
    split at p1
    · rename_i b
      cases v1
      cases b with
      | true => exact ⟨_, rfl, iteT (p1.give r1 (.bl _))⟩
      | false => exact ⟨_, rfl, iteF (hg ρ1 H1 s1 σ env Q r1 (re.ext e1) p1)⟩
    · exact p1.elim
/-- a < b < c -/
def mChain (o o' : A → A → Sto → Res A) (f g h : ME) : ME := fun env st => (f env st).bind fun x s1 => (g env s1).bind fun y s2 => (o x y s2).bind fun z s3 => match z with
  | .bl true => (h env s3).bind fun u s4 => o' y u s4
  | .bl false => .ok (.bl false) s3
  | _ => .no
/-! ### arguments, displays -/
def mNil : MA := fun _ st => .ok [] st
def mCons (f : ME) (g : MA) : MA := fun env st => (f env st).bind fun x s1 => (g env s1).bind fun xs s2 => .ok (x :: xs) s2
theorem ra_nil : RA K w W tNil mNil := fun ρ H st σ env Q rel re p => p ρ H (Ext.refl ρ H) rel [] .nil
theorem ra_cons {t : TE} {u : TA} {f : ME} {g : MA} (hf : RE K w W t f) (hg : RA K w W u g) : RA K w W (tCons t u) (mCons f g) := fun ρ H st σ env Q rel re p =>
  hf.use rel re p fun a s1 ρ1 H1 x e1 r1 v1 p1 => hg.use r1 (re.ext e1) p1 fun as s2 ρ2 H2 xs e2 r2 v2 p2 => p2 ρ2 H2 (Ext.refl _ _) r2 _ (.cons (rv_ext e2 v1) v2)
def mTup (f : MA) : ME := fun env st => (f env st).bind fun xs s => if xs.length ≤ sizeLine then .ok (.tup xs) s else .no
def mLst (f : MA) : ME := fun env st => (f env st).bind fun xs s => if xs.length ≤ sizeLine then newO (.lst xs) s else .no
theorem re_tup {t : TA} {f : MA} (hf : RA K w W t f) : RE K w W (tTup t) (mTup f) := fun ρ H st σ env Q rel re p =>
  hf.use rel re p fun a s1 ρ1 H1 x e1 r1 v1 p1 => by
    split at p1
    · rename_i hl
      exact ⟨by rw [v1.length]; exact hl, fun q nq => post_newT r1 v1 p1 q nq⟩
    · exact p1.elim
theorem re_lst {t : TA} {f : MA} (hf : RA K w W t f) : RE K w W (tLst t) (mLst f) := fun ρ H st σ env Q rel re p =>
  hf.use rel re p fun a s1 ρ1 H1 x e1 r1 v1 p1 => by
    split at p1
    · rename_i hl
      exact ⟨by rw [v1.length]; exact hl, fun q nq => post_newL r1 v1 p1 q nq⟩
    · exact p1.elim
end

/-! ### mirrors: chains, slices, built-ins -/
section
variable {w : World} {W : WishX}
theorem R2ok.use {r : R2} {op : A → A → Sto → Res A} {ρ : List Addr} {H : Hp} {st : Sto} {x y : V} {a b : A} {β : Type} {R : β → Sto → List Addr → Hp → Prop} {X : Value → Option Addr → Hp → Prop} {k : A → Sto → Res β} {Q : VK} (h : R2ok K w r op) (rel : Rel K w ρ H st) (ra : Rv K H ρ x a) (rb : Rv K H ρ y b) (p : Post K w ρ H ((op a b st).bind k) R X)
    (go : ∀ c s1 ρ1 H1 v, Ext ρ ρ1 H H1 → Rel K w ρ1 H1 s1 → Rv K H1 ρ1 v c → Post K w ρ1 H1 (k c s1) R X → Q v H1) : r x y H Q := by
  refine h ρ H st x y a b Q X rel ra rb ?_
  cases e : op a b st with
  | ok c s1 =>
    rw [e] at p
    exact fun ρ1 H1 e1 r1 v hv => go c s1 ρ1 H1 v e1 r1 hv (Post.ext p e1)
  | ex c d s1 => rw [e] at p; exact p
  | no => rw [e] at p; exact p
theorem re_chain {r r' : R2} {o o' : A → A → Sto → Res A} {ta tb tc : TE} {f g h : ME} (ho : R2ok K w r o) (ho' : R2ok K w r' o') (hf : RE K w W ta f) (hg : RE K w W tb g) (hh : RE K w W tc h) : RE K w W (tChain r r' ta tb tc) (mChain o o' f g h) := fun ρ H st σ env Q rel re p =>
  hf.use rel re p fun a s1 ρ1 H1 x e1 r1 v1 p1 => hg.use r1 (re.ext e1) p1 fun b s2 ρ2 H2 y e2 r2 v2 p2 => ho.use r2 (rv_ext e2 v1) v2 p2 fun c s3 ρ3 H3 z e3 r3 v3 p3 => by
    split at p3
    · cases v3
      exact ⟨true, rfl, iteT (hh.use r3 (re.ext (e1.trans (e2.trans e3))) p3 fun d s4 ρ4 H4 u e4 r4 v4 p4 => ho' ρ4 H4 s4 y u b d Q _ r4 (rv_ext (e3.trans e4) v2) v4 p4)⟩
    · cases v3
      exact ⟨false, rfl, iteF (p3.give r3 (.bl _))⟩
    · exact p3.elim
/-! ### slices -/
abbrev MO := AEnv → Sto → Res (Option Int)
def RO (K : PySem.W.Frag) (w : World) (W : WishX) (t : TO) (f : MO) : Prop := ∀ ρ H st σ env Q, Rel K w ρ H st → Renv K H ρ σ env → Post K w ρ H (f env st) (fun o _ _ H' => Q o H') (W · · σ ·) → t σ H Q
def mNoPart : MO := fun _ st => .ok none st
def mPart (f : ME) : MO := fun env st => (f env st).bind fun a s => match a with
  | .int i => .ok (some i) s
  | _ => .no
theorem ro_none : RO K w W tNoPart mNoPart := fun ρ H st σ env Q rel re p => p ρ H (Ext.refl ρ H) rel
theorem ro_some {t : TE} {f : ME} (hf : RE K w W t f) : RO K w W (tPart t) (mPart f) := fun ρ H st σ env Q rel re p =>
  hf.use rel re p fun a s1 ρ1 H1 x e1 r1 v1 p1 => by
    split at p1
    · cases v1
      exact ⟨_, rfl, p1 ρ1 H1 (Ext.refl _ _) r1⟩
    · exact p1.elim
theorem RO.use {ta : TO} {f : MO} {ρ : List Addr} {H : Hp} {st : Sto} {σ : L2.St} {env : AEnv} {β : Type} {R : β → Sto → List Addr → Hp → Prop} {k : Option Int → Sto → Res β} {Q : Option Int → Hp → Prop} (h : RO K w W ta f) (rel : Rel K w ρ H st) (re : Renv K H ρ σ env) (p : Post K w ρ H ((f env st).bind k) R (W · · σ ·))
    (go : ∀ a s1 ρ1 H1, Ext ρ ρ1 H H1 → Rel K w ρ1 H1 s1 → Post K w ρ1 H1 (k a s1) R (W · · σ ·) → Q a H1) : ta σ H Q := by
  refine h ρ H st σ env Q rel re ?_
  cases e : f env st with
  | ok a s1 =>
    rw [e] at p
    exact fun ρ1 H1 e1 r1 => go a s1 ρ1 H1 e1 r1 (Post.ext p e1)
  | ex c d s1 => rw [e] at p; exact p
  | no => rw [e] at p; exact p
abbrev RSl := V → Option Int → Option Int → Hp → VK → Prop
def RSlok (K : PySem.W.Frag) (w : World) (r : RSl) (op : A → Option Int → Option Int → Sto → Res A) : Prop := ∀ ρ H st x a lo hi Q X, Rel K w ρ H st → Rv K H ρ x a → Post K w ρ H (op a lo hi st) (fun a _ ρ' H' => ∀ v, Rv K H' ρ' v a → Q v H') X → r x lo hi H Q
def mSl (op : A → Option Int → Option Int → Sto → Res A) (f : ME) (l h : MO) : ME := fun env st => (f env st).bind fun x s1 => (l env s1).bind fun lo s2 => (h env s2).bind fun hi s3 => op x lo hi s3
theorem re_sl {r : RSl} {op : A → Option Int → Option Int → Sto → Res A} {t : TE} {tl th : TO} {f : ME} {l h : MO} (ho : RSlok K w r op) (hf : RE K w W t f) (hl : RO K w W tl l) (hh : RO K w W th h) : RE K w W (tSl r t tl th) (mSl op f l h) := fun ρ H st σ env Q rel re p =>
  hf.use rel re p fun a s1 ρ1 H1 x e1 r1 v1 p1 => hl.use r1 (re.ext e1) p1 fun lo s2 ρ2 H2 e2 r2 p2 => hh.use r2 (re.ext (e1.trans e2)) p2 fun hi s3 ρ3 H3 e3 r3 p3 => ho ρ3 H3 s3 x a lo hi Q _ r3 (rv_ext (e2.trans e3) v1) p3
def cutA (xs : List A) (lo hi : Option Int) : List A := (xs.drop (HT.sIx xs.length 0 lo)).take (HT.sIx xs.length xs.length hi - HT.sIx xs.length 0 lo)
theorem rvs_cut {ρ : List Addr} {H : Hp} {vs : List V} {xs : List A} (h : Rvs K H ρ vs xs) (lo hi : Option Int) : Rvs K H ρ (cutV vs lo hi) (cutA xs lo hi) := by
  unfold cutV cutA
  rw [h.length]
  exact (h.drop _).take _
theorem cut_whole {xs : List A} {lo hi : Option Int} (h : HT.sIx xs.length 0 lo = 0 ∧ HT.sIx xs.length xs.length hi = xs.length) : cutA xs lo hi = xs := by
  unfold cutA
  rw [h.1, h.2, List.drop_zero, Nat.sub_zero, List.take_length]
/-- a list's, a tuple's, a text's slice -/
def oSl : A → Option Int → Option Int → Sto → Res A := fun a lo hi st => match a with
  | .tup xs => .ok (.tup (cutA xs lo hi)) st
  | .str z => if z.length ≤ sizeLine then .ok (.str (cutS z lo hi)) st else .no
  | a => match getL st a with
    | some xs => newO (.lst (cutA xs lo hi)) st
    | none => .no
def rSlAny (K : PySem.W.Frag) : RSl := fun x lo hi H Q => (rSlL K x lo hi H Q ∨ rSlA K x lo hi H Q) ∨ rSlS x lo hi H Q
theorem sl_any {X : Cx} : SlR X (rSlAny X.K) := SlR.or (SlR.or sl_list sl_tupA) sl_str
theorem rsl_any : RSlok K w (rSlAny K) oSl := fun ρ H st x a lo hi Q X rel ra p => by
  unfold oSl at p
  split at p
  · rename_i xs
    obtain ⟨q, vs, rfl, h1, h2⟩ := getT_sq ra rfl
    refine .inl (.inr ⟨q, vs, rfl, h1, fun hw => ?_, fun _ z nz => post_newT rel (rvs_cut h2 lo hi) p z nz⟩)
    rw [cut_whole (by rw [← h2.length]; exact hw)] at p
    exact p.give rel ra
  · split at p
    · rename_i hl
      cases ra
      exact .inr ⟨_, rfl, hl, p.give rel (.str _)⟩
    · exact p.elim
  · split at p
    · rename_i xs e
      obtain ⟨q, vs, rfl, h1, h2⟩ := getL_sq rel ra e
      exact .inl (.inl ⟨q, vs, rfl, h1, fun z nz => post_newL rel (rvs_cut h2 lo hi) p z nz⟩)
    · exact p.elim
/-! ### built-ins called -/
abbrev RL := List V → Hp → VK → Prop
def RLok (K : PySem.W.Frag) (w : World) (r : RL) (op : List A → Sto → Res A) : Prop := ∀ ρ H st vs as Q X, Rel K w ρ H st → Rvs K H ρ vs as → Post K w ρ H (op as st) (fun a _ ρ' H' => ∀ v, Rv K H' ρ' v a → Q v H') X → r vs H Q
def mCB (op : List A → Sto → Res A) (f : MA) : ME := fun env st => (f env st).bind op
theorem re_cb {r : RL} {op : List A → Sto → Res A} {t : TA} {f : MA} (ho : RLok K w r op) (hf : RA K w W t f) : RE K w W (tCB r t) (mCB op f) := fun ρ H st σ env Q rel re p =>
  hf.use rel re p fun a s1 ρ1 H1 x e1 r1 v1 p1 => ho ρ1 H1 s1 x a Q _ r1 v1 p1
def lOr (r r' : RL) : RL := fun vs H Q => r vs H Q ∨ r' vs H Q
theorem CallR.or {X : Cx} {f : Value} {r r' : RL} (h : CallR X f r) (h' : CallR X f r') : CallR X f (lOr r r') := fun pins s σ H xs us Q I rv z => z.elim (fun z => h pins s σ H xs us Q I rv z) (fun z => h' pins s σ H xs us Q I rv z)
def oLen : List A → Sto → Res A := fun as st => match as with
  | [.str z] => if z.length ≤ sizeLine then .ok (.int z.length) st else .no
  | [.ref n] => match st[n]? with
    | some (.lst xs) => .ok (.int xs.length) st
    | some (.dK kvs) => .ok (.int kvs.length) st
    | _ => .no
  | [a] => match getS st a with
    | some xs => .ok (.int xs.length) st
    | none => .no
  | _ => .no
def rLenAny (K : PySem.W.Frag) : RL := lOr (fun xs H Q => ∃ p ys, xs = [.ref p] ∧ (SqL K H p ys ∨ SqT K H p ys) ∧ Q (.int ys.length) H) (lOr (fun xs H Q => ∃ z, xs = [.str z] ∧ z.length ≤ sizeLine ∧ Q (.int z.length) H) (fun xs H Q => ∃ a kvs, xs = [V.ref a] ∧ H a = some (.dK kvs) ∧ Q (.int kvs.length) H))
theorem call_lenAny {X : Cx} : CallR X (.builtin "len") (rLenAny X.K) := CallR.or call_len_seq (CallR.or call_len_str call_lenD)
theorem rvs1 {ρ : List Addr} {H : Hp} {vs : List V} {a : A} (h : Rvs K H ρ vs [a]) : ∃ v, vs = [v] ∧ Rv K H ρ v a := by
  cases h with
  | cons h hs =>
    cases hs
    exact ⟨_, rfl, h⟩
theorem rvs2 {ρ : List Addr} {H : Hp} {vs : List V} {a b : A} (h : Rvs K H ρ vs [a, b]) : ∃ v u, vs = [v, u] ∧ Rv K H ρ v a ∧ Rv K H ρ u b := by
  cases h with
  | cons h hs =>
    obtain ⟨u, rfl, h2⟩ := rvs1 hs
    exact ⟨_, _, rfl, h, h2⟩
theorem rkv_len {κ : Type} {ρ : List Addr} {H : Hp} : ∀ {kv : List (κ × V)} {kvs : List (κ × A)}, Rkv K H ρ kv kvs → kv.length = kvs.length := fun h => Paired.length h
theorem rl_len : RLok K w (rLenAny K) oLen := fun ρ H st vs as Q X rel rv p => by
  unfold oLen at p
  split at p
  · obtain ⟨v, rfl, h⟩ := rvs1 rv
    cases h
    split at p
    · rename_i hl
      exact .inr (.inl ⟨_, rfl, hl, p.give rel (.int _)⟩)
    · exact p.elim
  · obtain ⟨v, rfl, h⟩ := rvs1 rv
    cases h with
    | ref h =>
      split at p
      · rename_i xs e
        obtain ⟨us, h1, h2⟩ := rel.get h e
        exact .inl ⟨_, us, rfl, .inl (SqL.of h1), p.give rel (by rw [h2.length]; exact .int _)⟩
      · rename_i kvs e
        obtain ⟨kv, h1, h2⟩ := rel.get h e
        exact .inr (.inr ⟨_, kv, rfl, h1, p.give rel (by rw [rkv_len h2]; exact .int _)⟩)
      · exact p.elim
  · split at p
    · rename_i e
      obtain ⟨v, rfl, h⟩ := rvs1 rv
      obtain ⟨q, us, rfl, h1, h2⟩ := getS_sq rel h e
      exact .inl ⟨_, us, rfl, h1, p.give rel (by rw [h2.length]; exact .int _)⟩
    · exact p.elim
  · exact p.elim
def oAbs : List A → Sto → Res A := fun as st => match as with
  | [.int i] => .ok (.int (if i < 0 then -i else i)) st
  | _ => .no
theorem rl_abs : RLok K w (fun xs H Q => ∃ i, xs = [.int i] ∧ Q (.int (if i < 0 then -i else i)) H) oAbs := fun ρ H st vs as Q X rel rv p => by
  unfold oAbs at p
  split at p
  · obtain ⟨v, rfl, h⟩ := rvs1 rv
    cases h
    exact ⟨_, rfl, p.give rel (.int _)⟩
  · exact p.elim
def oMin2 : List A → Sto → Res A := fun as st => match as with
  | [.int i, .int j] => .ok (.int (if j < i then j else i)) st
  | _ => .no
def oMax2 : List A → Sto → Res A := fun as st => match as with
  | [.int i, .int j] => .ok (.int (if j > i then j else i)) st
  | _ => .no
theorem rl_min2 : RLok K w (fun xs H Q => ∃ i j, xs = [.int i, .int j] ∧ Q (.int (if j < i then j else i)) H) oMin2 := fun ρ H st vs as Q X rel rv p => by
  unfold oMin2 at p
  split at p
  · obtain ⟨v, u, rfl, h, h'⟩ := rvs2 rv
    cases h
    cases h'
    exact ⟨_, _, rfl, p.give rel (.int _)⟩
  · exact p.elim
theorem rl_max2 : RLok K w (fun xs H Q => ∃ i j, xs = [.int i, .int j] ∧ Q (.int (if j > i then j else i)) H) oMax2 := fun ρ H st vs as Q X rel rv p => by
  unfold oMax2 at p
  split at p
  · obtain ⟨v, u, rfl, h, h'⟩ := rvs2 rv
    cases h
    cases h'
    exact ⟨_, _, rfl, p.give rel (.int _)⟩
  · exact p.elim
/-- int(x) of a number or truth; of a text -/
def oInt : List A → Sto → Res A := fun as st => match as with
  | [.int i] => .ok (.int i) st
  | [.bl b] => .ok (.int (if b then 1 else 0)) st
  | [.str z] => match PySem.intText? z with
    | some n => if z.length ≤ 640 then .ok (.int n) st else .no
    | none => .no
  | _ => .no
def rIntAny : RL := lOr (fun xs H Q => (∃ i, xs = [.int i] ∧ Q (.int i) H) ∨ ∃ k, xs = [.bl k] ∧ Q (.int (if k then 1 else 0)) H) (fun xs H Q => ∃ a n, xs = [.str a] ∧ PySem.intText? a = some n ∧ a.length ≤ 640 ∧ Q (.int n) H)
theorem call_intAny {X : Cx} : CallR X (.type "int") rIntAny := CallR.or call_int1 call_int_str
theorem rl_int : RLok K w rIntAny oInt := fun ρ H st vs as Q X rel rv p => by
  unfold oInt at p
  split at p
  · obtain ⟨v, rfl, h⟩ := rvs1 rv
    cases h
    exact .inl (.inl ⟨_, rfl, p.give rel (.int _)⟩)
  · obtain ⟨v, rfl, h⟩ := rvs1 rv
    cases h
    exact .inl (.inr ⟨_, rfl, p.give rel (.int _)⟩)
  · obtain ⟨v, rfl, h⟩ := rvs1 rv
    cases h
    split at p
    · rename_i n e
      split at p
      · rename_i hl
        exact .inr ⟨_, n, rfl, e, hl, p.give rel (.int _)⟩
      · exact p.elim
    · exact p.elim
  · exact p.elim
def oStr : List A → Sto → Res A := fun as st => match as with
  | [.int i] => if i.natAbs.log2 < 1920 then .ok (.str (toString i)) st else .no
  | _ => .no
theorem rl_str : RLok K w (fun xs H Q => ∃ i, xs = [.int i] ∧ i.natAbs.log2 < 1920 ∧ Q (.str (toString i)) H) oStr := fun ρ H st vs as Q X rel rv p => by
  unfold oStr at p
  split at p
  · obtain ⟨v, rfl, h⟩ := rvs1 rv
    cases h
    split at p
    · rename_i hl
      exact ⟨_, rfl, hl, p.give rel (.str _)⟩
    · exact p.elim
  · exact p.elim
def oList : List A → Sto → Res A := fun as st => match as with
  | [a] => match getS st a with
    | some xs => newO (.lst xs) st
    | none => .no
  | _ => .no
theorem rl_list : RLok K w (fun xs H Q => ∃ p ys, xs = [.ref p] ∧ (SqL K H p ys ∨ SqT K H p ys) ∧ ∀ l, H l = none → Q (.ref l) (upd H l (.lst ys))) oList := fun ρ H st vs as Q X rel rv p => by
  unfold oList at p
  split at p
  · split at p
    · rename_i xs e
      obtain ⟨v, rfl, h⟩ := rvs1 rv
      obtain ⟨q, us, rfl, h1, h2⟩ := getS_sq rel h e
      exact ⟨_, us, rfl, h1, fun z nz => post_newL rel h2 p z nz⟩
    · exact p.elim
  · exact p.elim
def oTuple : List A → Sto → Res A := fun as st => match as with
  | [a] => match getS st a with
    | some xs => .ok (.tup xs) st
    | none => .no
  | _ => .no
theorem rl_tuple : RLok K w (fun xs H Q => ∃ p ys, xs = [.ref p] ∧ ((SqL K H p ys ∧ ∀ l, H l = none → Q (.ref l) (upd H l (.tup ys))) ∨ (SqT K H p ys ∧ Q (.ref p) H))) oTuple := fun ρ H st vs as Q X rel rv p => by
  unfold oTuple at p
  split at p
  · split at p
    · rename_i xs e
      obtain ⟨v, rfl, h⟩ := rvs1 rv
      obtain ⟨q, us, rfl, h1, h2⟩ := getS_sq rel h e
      rcases h1 with h1 | h1
      · exact ⟨_, us, rfl, .inl ⟨h1, fun z nz => post_newT rel h2 p z nz⟩⟩
      · exact ⟨_, us, rfl, .inr ⟨h1, p.give rel (.tup h1 h2)⟩⟩
    · exact p.elim
  · exact p.elim
/-- isinstance of data -/
def tyA (st : Sto) : A → Option String
  | .non => some "NoneType"
  | .bl _ => some "bool"
  | .int _ => some "int"
  | .str _ => some "str"
  | .tup _ => some "tuple"
  | .lit _ => some "list"
  | .ref n => match st[n]? with
    | some (.lst _) => some "list"
    | _ => none
  | _ => none
theorem tyA_x {ρ : List Addr} {H : Hp} {st : Sto} {v : V} {a : A} {t : String} (rel : Rel K w ρ H st) (h : Rv K H ρ v a) (e : tyA st a = some t) : TyX K H v (.type t) ∧ t ∈ ["NoneType", "bool", "int", "str", "list", "tuple", "dict"] := by
  cases h with
  | non => cases e; exact ⟨.base .non, by decide⟩
  | bl b => cases e; exact ⟨.base (.bl b), by decide⟩
  | int b => cases e; exact ⟨.base (.int b), by decide⟩
  | str b => cases e; exact ⟨.base (.str b), by decide⟩
  | tup h hs =>
    cases e
    rcases h with (h | ⟨o, h⟩) | ⟨o, _, _, h, c, _⟩
    · exact ⟨.base (.tup h), by decide⟩
    · exact ⟨.fTuple h, by decide⟩
    · exact ⟨.kTuple h c, by decide⟩
  | lit h hs =>
    cases e
    rcases lit_sq h with (h | ⟨o, h⟩) | ⟨o, _, _, h, c, _⟩
    · exact ⟨.base (.lst h), by decide⟩
    · exact ⟨.base (.frz h), by decide⟩
    · exact ⟨.kList h c, by decide⟩
  | ref h =>
    simp only [tyA] at e
    split at e
    · rename_i xs e1
      cases e
      obtain ⟨vs, h1, _⟩ := rel.get h e1
      exact ⟨.base (.lst h1), by decide⟩
    · cases e
  | adr a => cases e
  | ty a => cases e
def oIsi : List A → Sto → Res A := fun as st => match as with
  | [a, .ty T] => match tyA st a with
    | some t => if T ∈ ["int", "bool", "str", "tuple", "list"] then .ok (.bl (isTy t T)) st else .no
    | none => .no
  | _ => .no
theorem rl_isi : RLok K w (rIsi K) oIsi := fun ρ H st vs as Q X rel rv p => by
  unfold oIsi at p
  split at p
  · split at p
    · rename_i T t e
      obtain ⟨v, u, rfl, h, h'⟩ := rvs2 rv
      cases h'
      split at p
      · rename_i hT
        obtain ⟨h1, h2⟩ := tyA_x rel h e
        exact ⟨_, _, _, _, _, rfl, .ty _, h1, kit_ty (kit_all _ h2 _ hT), p.give rel (.bl _)⟩
      · exact p.elim
    · exact p.elim
  · exact p.elim
end

/-! ### mirrors: methods of lists, targets, statements, loops -/
section
variable {w : World} {W : WishX}
theorem set_put {ρ : List Addr} {H : Hp} {st : Sto} {n : Nat} {p : Addr} {us : List V} {ys : List A} (rel : Rel K w ρ H st) (h : ρ[n]? = some p) (r : Rvs K H ρ us ys) : Ext ρ ρ H (upd H p (.lst us)) ∧ Rel K w ρ (upd H p (.lst us)) (st.set n (.lst ys)) :=
  rel.put (o := .lst ys) (u := .lst us) h fun H' e' h' => ⟨us, h', rvs_ext e' r⟩
/-- x.m(..) of a list: f tells what it gives and the list behind it -/
def mMeth (op : List A → List A → Option (A × List A)) (f : ME) (g : MA) : ME := fun env st => (f env st).bind fun x s1 => match getM s1 x with
  | none => .no
  | some _ => (g env s1).bind fun as s2 => match getM s2 x with
    | some (n, xs) => match op xs as with
      | some (a, ys) => .ok a (s2.set n (.lst ys))
      | none => .no
    | none => .no
abbrev RM := V → List V → Hp → VK → Prop
/-- .. by values -/
def RMok (K : PySem.W.Frag) (r : RM) (op : List A → List A → Option (A × List A)) : Prop := ∀ ρ H l xs as vs us a ys Q, H l = some (.lst vs) → Rvs K H ρ vs xs → Rvs K H ρ us as → op xs as = some (a, ys) → (∀ v ws, Rv K H ρ v a → Rvs K H ρ ws ys → Q v (upd H l (.lst ws))) → r (.ref l) us H Q
theorem re_meth {r : RM} {op : List A → List A → Option (A × List A)} {to : TE} {t : TA} {f : ME} {g : MA} (ho : RMok K r op) (hf : RE K w W to f) (hg : RA K w W t g) : RE K w W (tBM K "list" r to t) (mMeth op f g) := fun ρ H st σ env Q rel re p =>
  hf.use rel re p fun a s1 ρ1 H1 x e1 r1 v1 p1 => by
    split at p1
    · exact p1.elim
    · rename_i nx em
      obtain ⟨n, xs⟩ := nx
      obtain ⟨l, vs, rfl, hl, h1, h2⟩ := getM_is r1 v1 em
      refine ⟨.inl ⟨rfl, _, SqL.of h1⟩, hg.use r1 (re.ext e1) p1 fun as s2 ρ2 H2 us e2 r2 v2 p2 => ?_⟩
      have v1' := rv_ext e2 v1
      split at p2
      · rename_i m ys em2
        obtain ⟨l', vs2, e3, hl2, h3, h4⟩ := getM_is r2 v1' em2
        cases e3
        split at p2
        · rename_i c zs eo
          refine ho ρ2 H2 l ys as vs2 us c zs Q h3 h4 v2 eo fun v ws hv hws => ?_
          obtain ⟨e4, r4⟩ := set_put r2 hl2 hws
          exact p2.giveAt e4 r4 (rv_ext e4 hv)
        · exact p2.elim
      · exact p2.elim
def mMeth0 (op : List A → List A → Option (A × List A)) (f : ME) : ME := mMeth op f mNil
theorem re_meth0 {r : RM} {op : List A → List A → Option (A × List A)} {to : TE} {f : ME} (ho : RMok K r op) (hf : RE K w W to f) : RE K w W (tBM0 K "list" r to) (mMeth0 op f) := re_meth (t := tNil) ho hf ra_nil
def oAppend : List A → List A → Option (A × List A) := fun xs as => match as with
  | [a] => if xs.length < sizeLine then some (.non, xs ++ [a]) else none
  | _ => none
theorem rm_append : RMok K rAppend oAppend := fun ρ H l xs as vs us a ys Q h1 h2 h3 e q => by
  unfold oAppend at e
  split at e
  · split at e
    · rename_i hl
      cases e
      obtain ⟨u, rfl, h4⟩ := rvs1 h3
      exact ⟨l, vs, u, rfl, rfl, h1, by rw [h2.length]; exact hl, q _ _ .non (h2.append (.cons h4 .nil))⟩
    · cases e
  · cases e
def oPop : List A → List A → Option (A × List A) := fun xs as => match as with
  | [] => (xs[xs.length - 1]?).map fun a => (a, xs.dropLast)
  | _ => none
theorem rvs_dropLast {ρ : List Addr} {H : Hp} {vs : List V} {xs : List A} (h : Rvs K H ρ vs xs) : Rvs K H ρ vs.dropLast xs.dropLast := by
  rw [List.dropLast_eq_take, List.dropLast_eq_take, h.length]
  exact h.take _
theorem rm_pop : RMok K rPop oPop := fun ρ H l xs as vs us a ys Q h1 h2 h3 e q => by
  unfold oPop at e
  split at e
  · obtain ⟨b, e1, e2⟩ := Option.map_eq_some_iff.mp e
    cases e2
    cases h3
    obtain ⟨v, e3, e4⟩ := h2.get e1
    exact ⟨l, vs, v, rfl, rfl, h1, by rw [h2.length]; exact e3, q _ _ e4 (rvs_dropLast h2)⟩
  · cases e
def oPopAt : List A → List A → Option (A × List A) := fun xs as => match as with
  | [.int i] => if -(2 ^ 63) ≤ i ∧ i < 2 ^ 63 then match seqIndex? i xs.length with
    | some k => (xs[k]?).map fun a => (a, xs.eraseIdx k)
    | none => none else none
  | _ => none
theorem rm_popAt : RMok K rPopAt oPopAt := fun ρ H l xs as vs us a ys Q h1 h2 h3 e q => by
  unfold oPopAt at e
  split at e
  · split at e
    · rename_i hi
      split at e
      · rename_i k ek
        obtain ⟨b, e1, e2⟩ := Option.map_eq_some_iff.mp e
        cases e2
        obtain ⟨u, rfl, h4⟩ := rvs1 h3
        cases h4
        obtain ⟨v, e3, e4⟩ := h2.get e1
        exact ⟨l, vs, _, k, v, rfl, rfl, h1, hi.1, hi.2, by rw [h2.length]; exact ek, e3, q _ _ e4 (h2.erase k)⟩
      · cases e
    · cases e
  · cases e
/-! ### targets that are names -/
abbrev MG := A → AEnv → Option AEnv
abbrev MGs := List A → AEnv → Option AEnv
def RGn (K : PySem.W.Frag) (g : TG) (m : MG) (vs : List Nat) : Prop := ∀ H ρ σ env v a k, Renv K H ρ σ env → Rv K H ρ v a → (match m a env with
  | some env' => ∀ σ', Renv K H ρ σ' env' → L2.wipe σ' vs = L2.wipe σ vs → k σ' H
  | none => False) → g v σ H k
def RGns (K : PySem.W.Frag) (g : TGs) (m : MGs) (vs : List Nat) : Prop := ∀ H ρ σ env us as k, Renv K H ρ σ env → Rvs K H ρ us as → (match m as env with
  | some env' => ∀ σ', Renv K H ρ σ' env' → L2.wipe σ' vs = L2.wipe σ vs → k σ' H
  | none => False) → g us σ H k
def mgName (i : Nat) : MG := fun a env => some (env.set i (some a))
def mgNil : MGs := fun as env => match as with
  | [] => some env
  | _ => none
def mgCons (f : MG) (g : MGs) : MGs := fun as env => match as with
  | a :: as => match f a env with
    | some e => g as e
    | none => none
  | [] => none
def mgTup (g : MGs) : MG := fun a env => match a with
  | .tup xs => g xs env
  | _ => none
theorem wipe_set {σ : L2.St} {i : Nat} {x : Option V} : ∀ {vs : List Nat}, i ∈ vs → L2.wipe (σ.set i x) vs = L2.wipe σ vs
  | v :: vs, h => by
    show (L2.wipe (σ.set i x) vs).set v none = (L2.wipe σ vs).set v none
    by_cases hv : i ∈ vs
    · rw [wipe_set hv]
    · have e : i = v := (List.mem_cons.mp h).resolve_right hv
      subst e
      have : ∀ us : List Nat, i ∉ us → L2.wipe (σ.set i x) us = (L2.wipe σ us).set i x := fun us => by
        induction us with
        | nil => intro _; rfl
        | cons u us ih =>
          intro hn
          rw [List.mem_cons, not_or] at hn
          show (L2.wipe (σ.set i x) us).set u none = ((L2.wipe σ us).set u none).set i x
          rw [ih hn.2, List.set_comm _ _ (fun z => hn.1 z.symm)]
      rw [this vs hv, List.set_set]
theorem rg_name {i : Nat} {vs : List Nat} (hi : i ∈ vs) : RGn K (gName i) (mgName i) vs := fun H ρ σ env v a k re hv h => h _ (re.set i hv) (wipe_set hi)
theorem rgs_nil {vs : List Nat} : RGns K gNil mgNil vs := fun H ρ σ env us as k re hv h => by
  cases hv with
  | nil => exact ⟨rfl, h _ re rfl⟩
  | cons _ _ => exact h.elim
theorem rgs_cons {g : TG} {gs : TGs} {m : MG} {ms : MGs} {vs : List Nat} (hg : RGn K g m vs) (hgs : RGns K gs ms vs) : RGns K (gCons g gs) (mgCons m ms) vs := fun H ρ σ env us as k re hv h => by
  cases hv with
  | nil => exact h.elim
  | cons h1 h2 =>
    rename_i v a us as
    refine ⟨_, _, rfl, hg H ρ σ env v a _ re h1 ?_⟩
    have h' : (match (match m a env with
      | some e => ms as e
      | none => none) with
      | some env' => ∀ σ', Renv K H ρ σ' env' → L2.wipe σ' vs = L2.wipe σ vs → k σ' H
      | none => False) := h
    cases em : m a env with
    | none => rw [em] at h'; exact h'
    | some e1 =>
      rw [em] at h'
      intro σ1 re1 w1
      refine hgs H ρ σ1 e1 us as k re1 h2 ?_
      simp only at h'
      cases em2 : ms as e1 with
      | none => rw [em2] at h'; exact h'
      | some e2 =>
        rw [em2] at h'
        exact fun σ2 re2 w2 => h' σ2 re2 (w2.trans w1)
theorem RGns.len {gs : TGs} {ms : MGs} {vs : List Nat} : True := trivial
theorem rg_tup {gs : TGs} {ms : MGs} {vs : List Nat} {n : Nat} (hl : ∀ as env e, ms as env = some e → as.length = n) (hg : RGns K gs ms vs) : RGn K (gTup K n gs) (mgTup ms) vs := fun H ρ σ env v a k re hv h => by
  unfold mgTup at h
  cases hv with
  | tup h1 h2 =>
    refine ⟨_, _, rfl, h1, ?_, hg H ρ σ env _ _ k re h2 h⟩
    rw [h2.length]
    simp only at h
    rename_i p us xs
    cases em : ms xs env with
    | none => rw [em] at h; exact h.elim
    | some e => exact hl _ _ _ em
  | _ => exact h.elim
theorem mgs_len0 : ∀ as env e, mgNil as env = some e → as.length = 0 := fun as env e h => by
  cases as with
  | nil => rfl
  | cons _ _ => cases h
theorem mgs_lenS {m : MG} {ms : MGs} {n : Nat} (hn : ∀ as env e, ms as env = some e → as.length = n) : ∀ as env e, mgCons m ms as env = some e → as.length = n + 1 := fun as env e h => by
  cases as with
  | nil => cases h
  | cons a as =>
    unfold mgCons at h
    simp only at h
    split at h
    · rw [List.length_cons, hn _ _ _ h]
    · cases h
/-! ### statements -/
abbrev MS := AEnv → Sto → RF
def PostS (K : PySem.W.Frag) (w : World) (ρ : List Addr) (H : Hp) (r : RF) (D : Ends) (W : WishX) : Prop := match r with
  | .fl (.nx e) st => ∀ ρ' H' σ', Ext ρ ρ' H H' → Rel K w ρ' H' st → Renv K H' ρ' σ' e → D.nx σ' H'
  | .fl (.bk e) st => ∀ ρ' H' σ', Ext ρ ρ' H H' → Rel K w ρ' H' st → Renv K H' ρ' σ' e → D.bk σ' H'
  | .fl (.ct e) st => ∀ ρ' H' σ', Ext ρ ρ' H H' → Rel K w ρ' H' st → Renv K H' ρ' σ' e → D.ct σ' H'
  | .fl (.rt a) st => ∀ ρ' H' v, Ext ρ ρ' H H' → Rel K w ρ' H' st → Rv K H' ρ' v a → D.rt v H'
  | .ex c d e st => ∀ ρ' H' σ' dx, Ext ρ ρ' H H' → Rel K w ρ' H' st → Renv K H' ρ' σ' e → RD ρ' d dx → W (.ref c) dx σ' H'
  | .no => False
theorem PostS.ext {ρ ρ1 : List Addr} {H H1 : Hp} {r : RF} {D : Ends} (p : PostS K w ρ H r D W) (e : Ext ρ ρ1 H H1) : PostS K w ρ1 H1 r D W := by
  cases r with
  | fl f st =>
    cases f with
    | nx _ => exact fun ρ' H' σ' e' => p ρ' H' σ' (e.trans e')
    | bk _ => exact fun ρ' H' σ' e' => p ρ' H' σ' (e.trans e')
    | ct _ => exact fun ρ' H' σ' e' => p ρ' H' σ' (e.trans e')
    | rt _ => exact fun ρ' H' σ' e' => p ρ' H' σ' (e.trans e')
  | ex c d en st => exact fun ρ' H' σ' dx e' => p ρ' H' σ' dx (e.trans e')
  | no => exact p
def RS (K : PySem.W.Frag) (w : World) (W : WishX) (t : TS) (f : MS) : Prop := ∀ ρ H st σ env D, Rel K w ρ H st → Renv K H ρ σ env → PostS K w ρ H (f env st) D W → t D σ H
theorem RE.useS {ta : TE} {f : ME} {k : A → Sto → RF} {ρ : List Addr} {H : Hp} {st : Sto} {σ : L2.St} {env : AEnv} {D : Ends} {Q : VK} (h : RE K w W ta f) (rel : Rel K w ρ H st) (re : Renv K H ρ σ env) (p : PostS K w ρ H ((f env st).thenS env k) D W)
    (go : ∀ a s1 ρ1 H1 v, Ext ρ ρ1 H H1 → Rel K w ρ1 H1 s1 → Rv K H1 ρ1 v a → PostS K w ρ1 H1 (k a s1) D W → Q v H1) : ta σ H Q := by
  refine h ρ H st σ env Q rel re ?_
  cases e : f env st with
  | ok a s1 =>
    rw [e] at p
    exact fun ρ1 H1 e1 r1 v hv => go a s1 ρ1 H1 v e1 r1 hv (PostS.ext p e1)
  | ex c d s1 =>
    rw [e] at p
    exact fun ρ1 H1 dx e1 r1 hd => p ρ1 H1 σ dx e1 r1 (re.ext e1) hd
  | no => rw [e] at p; exact p
theorem RT.useS {ta : TT} {f : MT} {k : Bool → Sto → RF} {ρ : List Addr} {H : Hp} {st : Sto} {σ : L2.St} {env : AEnv} {D : Ends} {Q : Bool → Hp → Prop} (h : RT K w W ta f) (rel : Rel K w ρ H st) (re : Renv K H ρ σ env) (p : PostS K w ρ H ((f env st).thenS env k) D W)
    (go : ∀ a s1 ρ1 H1, Ext ρ ρ1 H H1 → Rel K w ρ1 H1 s1 → PostS K w ρ1 H1 (k a s1) D W → Q a H1) : ta σ H Q := by
  refine h ρ H st σ env Q rel re ?_
  cases e : f env st with
  | ok a s1 =>
    rw [e] at p
    exact fun ρ1 H1 e1 r1 => go a s1 ρ1 H1 e1 r1 (PostS.ext p e1)
  | ex c d s1 =>
    rw [e] at p
    exact fun ρ1 H1 dx e1 r1 hd => p ρ1 H1 σ dx e1 r1 (re.ext e1) hd
  | no => rw [e] at p; exact p
def sNext : MS := fun env st => .fl (.nx env) st
def sSeq (f g : MS) : MS := fun env st => (f env st).next g
def sIf (c : MT) (f g : MS) : MS := fun env st => (c env st).thenS env fun b s => if b = true then f env s else g env s
def sRet (f : ME) : MS := fun env st => (f env st).thenS env fun a s => .fl (.rt a) s
def sRetN : MS := fun _ st => .fl (.rt .non) st
def sDrop (f : ME) : MS := fun env st => (f env st).thenS env fun _ s => .fl (.nx env) s
def sBreak : MS := fun env st => .fl (.bk env) st
def sCont : MS := fun env st => .fl (.ct env) st
def sAsg (f : ME) (g : MG) : MS := fun env st => (f env st).thenS env fun a s => match g a env with
  | some e => .fl (.nx e) s
  | none => .no
theorem rs_next : RS K w W tNext sNext := fun ρ H st σ env D rel re p => p ρ H σ (Ext.refl _ _) rel re
theorem rs_break : RS K w W tBreak sBreak := fun ρ H st σ env D rel re p => p ρ H σ (Ext.refl _ _) rel re
theorem rs_cont : RS K w W tCont sCont := fun ρ H st σ env D rel re p => p ρ H σ (Ext.refl _ _) rel re
theorem rs_seq {t u : TS} {f g : MS} (hf : RS K w W t f) (hg : RS K w W u g) : RS K w W (tSeq t u) (sSeq f g) := fun ρ H st σ env D rel re p => by
  refine hf ρ H st σ env _ rel re ?_
  have p : PostS K w ρ H ((f env st).next g) D W := p
  cases e : f env st with
  | fl fl s1 =>
    rw [e] at p
    cases fl with
    | nx e1 => exact fun ρ1 H1 σ1 x1 r1 re1 => hg ρ1 H1 s1 σ1 e1 D r1 re1 (PostS.ext p x1)
    | bk e1 => exact p
    | ct e1 => exact p
    | rt e1 => exact p
  | ex c d e1 s1 => rw [e] at p; exact p
  | no => rw [e] at p; exact p
theorem rs_if {c : TT} {t u : TS} {m : MT} {f g : MS} (hc : RT K w W c m) (hf : RS K w W t f) (hg : RS K w W u g) : RS K w W (tIfS c t u) (sIf m f g) := fun ρ H st σ env D rel re p =>
  hc.useS rel re p fun b s1 ρ1 H1 e1 r1 p1 => by
    cases b with
    | true => exact iteT (hf ρ1 H1 s1 σ env D r1 (re.ext e1) p1)
    | false => exact iteF (hg ρ1 H1 s1 σ env D r1 (re.ext e1) p1)
theorem rs_ret {t : TE} {f : ME} (hf : RE K w W t f) : RS K w W (tRet t) (sRet f) := fun ρ H st σ env D rel re p =>
  hf.useS rel re p fun a s1 ρ1 H1 x e1 r1 v1 p1 => p1 ρ1 H1 x (Ext.refl _ _) r1 v1
theorem rs_retN : RS K w W tRetN sRetN := fun ρ H st σ env D rel re p => p ρ H .non (Ext.refl _ _) rel .non
theorem rs_drop {t : TE} {f : ME} (hf : RE K w W t f) : RS K w W (tDrop t) (sDrop f) := fun ρ H st σ env D rel re p =>
  hf.useS rel re p fun a s1 ρ1 H1 x e1 r1 v1 p1 => p1 ρ1 H1 σ (Ext.refl _ _) r1 (re.ext e1)
theorem rs_asg {t : TE} {g : TG} {f : ME} {m : MG} {vs : List Nat} (hf : RE K w W t f) (hg : RGn K g m vs) : RS K w W (tAsg t g) (sAsg f m) := fun ρ H st σ env D rel re p =>
  hf.useS rel re p fun a s1 ρ1 H1 x e1 r1 v1 p1 => by
    refine hg H1 ρ1 σ env x a _ (re.ext e1) v1 ?_
    cases em : m a env with
    | none => rw [em] at p1; exact p1
    | some e2 =>
      rw [em] at p1
      exact fun σ' re' _ => p1 ρ1 H1 σ' (Ext.refl _ _) r1 re'
/-- xs[i] = e -/
def sPutL (f o i : ME) : MS := fun env st => (f env st).thenS env fun a s1 => (o env s1).thenS env fun x s2 => (i env s2).thenS env fun y s3 => match y, getM s3 x with
  | .int k, some (n, xs) => match ixN xs.length k with
    | some j => .fl (.nx env) (s3.set n (.lst (xs.set j a)))
    | none => .no
  | _, _ => .no
/-! ### what is walked -/
structure RIt (K : PySem.W.Frag) (w : World) (ρ : List Addr) (H : Hp) (J : It) (xs : List A) (ok : Sto → Prop) : Prop where
  go : ∀ (i : Nat) (a : A) ρ' H' st', Ext ρ ρ' H H' → Rel K w ρ' H' st' → ok st' → xs[i]? = some a → J.go i H' ∧ ∀ x H2, J.yld i H' x H2 → Same H' H2 ∧ Rv K H2 ρ' x a
  stop : ∀ ρ' H' st', Ext ρ ρ' H H' → Rel K w ρ' H' st' → ok st' → J.stop xs.length H'
theorem RIt.ext {ρ ρ1 : List Addr} {H H1 : Hp} {J : It} {xs : List A} {ok : Sto → Prop} (r : RIt K w ρ H J xs ok) (e : Ext ρ ρ1 H H1) : RIt K w ρ1 H1 J xs ok :=
  ⟨fun i a ρ' H' st' e' => r.go i a ρ' H' st' (e.trans e'), fun ρ' H' st' e' => r.stop ρ' H' st' (e.trans e')⟩
abbrev MI := AEnv → Sto → Res (List A × (Sto → Prop))
def RI (K : PySem.W.Frag) (w : World) (W : WishX) (wi : TI) (mi : MI) : Prop := ∀ ρ H st σ env R, Rel K w ρ H st → Renv K H ρ σ env → Post K w ρ H (mi env st) (fun xo _ ρ' H' => ∀ J, RIt K w ρ' H' J xo.1 xo.2 → R J H') (W · · σ ·) → wi σ H R
def miL (f : ME) : MI := fun env st => (f env st).bind fun a s => match getL s a with
  | some xs => .ok (xs, fun s' => getL s' a = some xs) s
  | none => .no
theorem ri_list {t : TE} {f : ME} (hf : RE K w W t f) : RI K w W (iList K t) (miL f) := fun ρ H st σ env R rel re p =>
  hf.use rel re p fun a s1 ρ1 H1 x e1 r1 v1 p1 => by
    split at p1
    · rename_i xs e
      obtain ⟨q, vs, rfl, h1, h2⟩ := getL_sq r1 v1 e
      refine ⟨q, rfl, ⟨_, h1⟩, p1 ρ1 H1 (Ext.refl _ _) r1 _ ⟨fun i b ρ' H' st' e' r' ok eb => ?_, fun ρ' H' st' e' r' ok => ?_⟩⟩
      · obtain ⟨q', vs', ee, h3, h4⟩ := getL_sq r' (rv_ext e' v1) ok
        cases ee
        obtain ⟨v, e5, e6⟩ := h4.get eb
        refine ⟨(walk_list (K := K) (a := q) (xs := vs')).goes i H' (by rw [h4.length]; exact (List.getElem?_eq_some_iff.mp eb).1) h3, fun x H2 y => ?_⟩
        obtain ⟨rfl, hx⟩ := (walk_list (K := K) (a := q) (xs := vs')).yields i H' x H2 (by rw [h4.length]; exact (List.getElem?_eq_some_iff.mp eb).1) h3 y
        rw [e5] at hx
        cases hx
        exact ⟨Same.refl _, e6⟩
      · obtain ⟨q', vs', ee, h3, h4⟩ := getL_sq r' (rv_ext e' v1) ok
        cases ee
        have := (walk_list (K := K) (a := q) (xs := vs')).stops H' h3
        rw [h4.length] at this
        exact this
    · exact p1.elim
def miT (f : ME) : MI := fun env st => (f env st).bind fun a s => match a with
  | .tup xs => .ok (xs, fun _ => True) s
  | _ => .no
theorem ri_tup {t : TE} {f : ME} (hf : RE K w W t f) : RI K w W (iTup K t) (miT f) := fun ρ H st σ env R rel re p =>
  hf.use rel re p fun a s1 ρ1 H1 x e1 r1 v1 p1 => by
    split at p1
    · rename_i xs
      obtain ⟨q, vs, rfl, h1, h2⟩ := getT_sq v1 rfl
      refine ⟨q, rfl, ⟨_, h1⟩, p1 ρ1 H1 (Ext.refl _ _) r1 _ ⟨fun i b ρ' H' st' e' r' _ eb => ?_, fun ρ' H' st' e' r' _ => ?_⟩⟩
      · have h3 := sqT_kt e'.kt h1
        obtain ⟨v, e5, e6⟩ := (rvs_ext e' h2).get eb
        have hi : i < vs.length := by rw [h2.length]; exact (List.getElem?_eq_some_iff.mp eb).1
        refine ⟨(walk_tup (K := K) (a := q) (xs := vs)).goes i H' hi h3, fun x H2 y => ?_⟩
        obtain ⟨rfl, hx⟩ := (walk_tup (K := K) (a := q) (xs := vs)).yields i H' x H2 hi h3 y
        rw [e5] at hx
        cases hx
        exact ⟨Same.refl _, e6⟩
      · have := (walk_tup (K := K) (a := q) (xs := vs)).stops H' (sqT_kt e'.kt h1)
        rw [h2.length] at this
        exact this
    · exact p1.elim
def rngA (lo : Int) (n : Nat) : List A := (List.range n).map fun i : Nat => A.int (lo + (i : Int))
theorem rit_range {ρ : List Addr} {H : Hp} {lo : Int} {n : Nat} : RIt K w ρ H (Itr lo n) (rngA lo n) fun _ => True := by
  refine ⟨fun i a ρ' H' st' e' r' _ ea => ?_, fun ρ' H' st' e' r' _ => ?_⟩
  · unfold rngA at ea
    rw [List.getElem?_map] at ea
    obtain ⟨j, ej, rfl⟩ := Option.map_eq_some_iff.mp ea
    obtain ⟨hj, rfl⟩ := List.getElem?_eq_some_iff.mp ej
    rw [List.length_range] at hj
    rw [List.getElem_range]
    refine ⟨hj, fun x H2 y => ?_⟩
    obtain ⟨rfl, rfl⟩ := y
    exact ⟨Same.refl _, .int _⟩
  · show n ≤ (rngA lo n).length
    unfold rngA
    rw [List.length_map, List.length_range]
    exact Nat.le_refl _
def miR1 (f : MA) : MI := fun env st => (f env st).bind fun as s => match as with
  | [.int j] => if -(2 ^ 62) ≤ j ∧ j < 2 ^ 62 then .ok (rngA 0 j.toNat, fun _ => True) s else .no
  | _ => .no
def miR2 (f : MA) : MI := fun env st => (f env st).bind fun as s => match as with
  | [.int i, .int j] => if -(2 ^ 62) ≤ i ∧ i < 2 ^ 62 ∧ -(2 ^ 62) ≤ j ∧ j < 2 ^ 62 then .ok (rngA i (j - i).toNat, fun _ => True) s else .no
  | _ => .no
theorem ri_range1 {t : TA} {f : MA} (hf : RA K w W t f) : RI K w W (iRng1 t) (miR1 f) := fun ρ H st σ env R rel re p =>
  hf.use rel re p fun a s1 ρ1 H1 x e1 r1 v1 p1 => by
    split at p1
    · split at p1
      · rename_i hj
        obtain ⟨v, rfl, h⟩ := rvs1 v1
        cases h
        exact ⟨_, rfl, hj.1, hj.2, p1 ρ1 H1 (Ext.refl _ _) r1 _ rit_range⟩
      · exact p1.elim
    · exact p1.elim
theorem ri_range2 {t : TA} {f : MA} (hf : RA K w W t f) : RI K w W (iRng2 t) (miR2 f) := fun ρ H st σ env R rel re p =>
  hf.use rel re p fun a s1 ρ1 H1 x e1 r1 v1 p1 => by
    split at p1
    · split at p1
      · rename_i hj
        obtain ⟨v, u, rfl, h, h'⟩ := rvs2 v1
        cases h
        cases h'
        exact ⟨_, _, rfl, hj, p1 ρ1 H1 (Ext.refl _ _) r1 _ rit_range⟩
      · exact p1.elim
    · exact p1.elim
end

/-! ### mirrors: loops, comprehensions, calls -/
section
variable {w : World} {W : WishX}
open Classical in
noncomputable def forL (ok : Sto → Prop) (g : MG) (b : MS) : List A → MS
  | [], env, st => if ok st then .fl (.nx env) st else .no
  | x :: xs, env, st => if ok st then (match g x env with
    | some e1 => match b e1 st with
      | .fl (.nx e2) s2 => forL ok g b xs e2 s2
      | .fl (.ct e2) s2 => forL ok g b xs e2 s2
      | .fl (.bk e2) s2 => .fl (.nx e2) s2
      | .fl (.rt a) s2 => .fl (.rt a) s2
      | .ex c d e2 s2 => .ex c d e2 s2
      | .no => .no
    | none => .no) else .no
noncomputable def sFor (mi : MI) (g : MG) (b : MS) : MS := fun env st => (mi env st).thenS env fun xo s => forL xo.2 g b xo.1 env s
theorem rs_for {wi : TI} {g : TG} {tb : TS} {mi : MI} {m : MG} {b : MS} {vs : List Nat} (hi : RI K w W wi mi) (hg : RGn K g m vs) (hb : RS K w W tb b) : RS K w W (tFor wi g tb) (sFor mi m b) := fun ρ H st σ env D rel re p => by
  have p : PostS K w ρ H ((mi env st).thenS env fun xo s => forL xo.2 m b xo.1 env s) D W := p
  refine hi ρ H st σ env _ rel re ?_
  cases e : mi env st with
  | no => rw [e] at p; exact p
  | ex c d s1 =>
    rw [e] at p
    exact fun ρ1 H1 dx e1 r1 hd => p ρ1 H1 σ dx e1 r1 (re.ext e1) hd
  | ok xo s1 =>
    rw [e] at p
    obtain ⟨xs, ok⟩ := xo
    intro ρ1 H1 e1 r1 J hJ
    have p1 : PostS K w ρ1 H1 (forL ok m b xs env s1) D W := PostS.ext p e1
    refine ⟨fun i n σ H2 => n = xs.length - i ∧ i ≤ xs.length ∧ ∃ ρ2 s2 env2, Ext ρ1 ρ2 H1 H2 ∧ Rel K w ρ2 H2 s2 ∧ Renv K H2 ρ2 σ env2 ∧ PostS K w ρ2 H2 (forL ok m b (xs.drop i) env2 s2) D W, ⟨_, rfl, Nat.zero_le _, ρ1, s1, env, Ext.refl _ _, r1, re.ext e1, by rw [List.drop_zero]; exact p1⟩, ?_⟩
    rintro i n σ2 H2 ⟨rfl, hi2, ρ2, s2, env2, e2, r2, re2, p2⟩
    by_cases lt : i < xs.length
    · have ea : xs[i]? = some xs[i] := List.getElem?_eq_getElem lt
      rw [List.drop_eq_getElem_cons lt] at p2
      unfold forL at p2
      split at p2
      · rename_i hok
        obtain ⟨hgo, hy⟩ := hJ.go i _ ρ2 H2 s2 e2 r2 hok ea
        refine .inr ⟨hgo, fun σ' H' => ∃ ρ3 s3 env3, Ext ρ1 ρ3 H1 H' ∧ Rel K w ρ3 H' s3 ∧ Renv K H' ρ3 σ' env3 ∧ PostS K w ρ3 H' (forL ok m b (xs.drop (i + 1)) env3 s3) D W, fun σ' H' hN => ⟨xs.length - (i + 1), by omega, rfl, lt, hN⟩, fun x H' yl => ?_⟩
        obtain ⟨sm, hx⟩ := hy x H' yl
        have e3 : Ext ρ2 ρ2 H2 H' := Ext.same sm
        have r3 := r2.same sm
        refine hg H' ρ2 σ2 env2 x _ _ (re2.ext e3) hx ?_
        cases em : m xs[i] env2 with
        | none => rw [em] at p2; exact p2
        | some env3 =>
          rw [em] at p2
          intro σ3 re3 _
          refine hb ρ2 H' s2 σ3 env3 _ r3 re3 ?_
          simp only at p2
          cases eb : b env3 s2 with
          | no => rw [eb] at p2; exact p2
          | ex c d env4 s4 =>
            rw [eb] at p2
            exact fun ρ4 H4 σ4 dx e4 r4 re4 hd => p2 ρ4 H4 σ4 dx (e3.trans e4) r4 re4 hd
          | fl f s4 =>
            rw [eb] at p2
            cases f with
            | nx env4 => exact fun ρ4 H4 σ4 e4 r4 re4 => ⟨ρ4, s4, env4, e2.trans (e3.trans e4), r4, re4, PostS.ext p2 (e3.trans e4)⟩
            | ct env4 => exact fun ρ4 H4 σ4 e4 r4 re4 => ⟨ρ4, s4, env4, e2.trans (e3.trans e4), r4, re4, PostS.ext p2 (e3.trans e4)⟩
            | bk env4 => exact fun ρ4 H4 σ4 e4 r4 re4 => p2 ρ4 H4 σ4 (e3.trans e4) r4 re4
            | rt a => exact fun ρ4 H4 v e4 r4 hv => p2 ρ4 H4 v (e3.trans e4) r4 hv
      · exact p2.elim
    · obtain rfl : i = xs.length := by omega
      rw [List.drop_length] at p2
      unfold forL at p2
      split at p2
      · rename_i hok
        exact .inl ⟨hJ.stop ρ2 H2 s2 e2 r2 hok, p2 ρ2 H2 σ2 (Ext.refl _ _) r2 re2⟩
      · exact p2.elim
/-- while, as often as there is fuel -/
def whileF (c : MT) (b : MS) : Nat → MS
  | 0, _, _ => .no
  | n + 1, env, st => (c env st).thenS env fun k s => if k = true then (match b env s with
    | .fl (.nx e2) s2 => whileF c b n e2 s2
    | .fl (.ct e2) s2 => whileF c b n e2 s2
    | .fl (.bk e2) s2 => .fl (.nx e2) s2
    | .fl (.rt a) s2 => .fl (.rt a) s2
    | .ex c d e2 s2 => .ex c d e2 s2
    | .no => .no) else .fl (.nx env) s
theorem rs_while {c : TT} {tb : TS} {m : MT} {b : MS} {n : Nat} (hc : RT K w W c m) (hb : RS K w W tb b) : RS K w W (tWhile c tb) (whileF m b n) := fun ρ H st σ env D rel re p => by
  refine ⟨fun n σ H => ∃ ρ st env, Rel K w ρ H st ∧ Renv K H ρ σ env ∧ PostS K w ρ H (whileF m b n env st) D W, ⟨n, ρ, st, env, rel, re, p⟩, ?_⟩
  rintro n σ2 H2 ⟨ρ2, s2, env2, r2, re2, p2⟩
  cases n with
  | zero => exact p2.elim
  | succ n =>
    refine hc.useS r2 re2 p2 fun k s3 ρ3 H3 e3 r3 p3 => ?_
    cases k with
    | false => exact iteF (p3 ρ3 H3 σ2 (Ext.refl _ _) r3 (re2.ext e3))
    | true =>
      refine iteT ⟨fun σ' H' => ∃ ρ st env, Rel K w ρ H' st ∧ Renv K H' ρ σ' env ∧ PostS K w ρ H' (whileF m b n env st) D W, fun σ' H' h => ⟨n, Nat.lt_succ_self n, h⟩, ?_⟩
      refine hb ρ3 H3 s3 σ2 env2 _ r3 (re2.ext e3) ?_
      have p3 : PostS K w ρ3 H3 (match b env2 s3 with
        | .fl (.nx e2) s2 => whileF m b n e2 s2
        | .fl (.ct e2) s2 => whileF m b n e2 s2
        | .fl (.bk e2) s2 => .fl (.nx e2) s2
        | .fl (.rt a) s2 => .fl (.rt a) s2
        | .ex c d e2 s2 => .ex c d e2 s2
        | .no => .no) D W := p3
      cases eb : b env2 s3 with
      | no => rw [eb] at p3; exact p3
      | ex c d env4 s4 => rw [eb] at p3; exact p3
      | fl f s4 =>
        rw [eb] at p3
        cases f with
        | nx env4 => exact fun ρ4 H4 σ4 e4 r4 re4 => ⟨ρ4, s4, env4, r4, re4, PostS.ext p3 e4⟩
        | ct env4 => exact fun ρ4 H4 σ4 e4 r4 re4 => ⟨ρ4, s4, env4, r4, re4, PostS.ext p3 e4⟩
        | bk env4 => exact p3
        | rt a => exact p3
/-! ### comprehensions -/
def noX {α : Type} (r : Res α) : Res α := match r with
  | .ex _ _ _ => .no
  | r => r
abbrev WF : WishX := fun _ _ _ _ => False
open Classical in
noncomputable def lcL (n : Nat) (ok : Sto → Prop) (g : MG) (tt : MT) (te : ME) (env : AEnv) : List A → Sto → Res A
  | [], st => if ok st then .ok (.ref n) st else .no
  | x :: xs, st => if ok st then (match g x env with
    | some e1 => (noX (tt e1 st)).bind fun k s1 => if k = true then (noX (te e1 s1)).bind fun y s2 => (match s2[n]? with
      | some (.lst acc) => if acc.length < sizeLine then lcL n ok g tt te env xs (s2.set n (.lst (acc ++ [y]))) else .no
      | _ => .no) else lcL n ok g tt te env xs s1
    | none => .no) else .no
noncomputable def mLc (mi : MI) (g : MG) (tt : MT) (te : ME) (vs : List Nat) : ME := fun env st => (mi env st).bind fun xo s => lcL s.length xo.2 g tt te (wipeA env vs) xo.1 (s ++ [.lst []])
theorem noX_use {α : Type} {ρ : List Addr} {H : Hp} {r : Res α} {β : Type} {k : α → Sto → Res β} {R : β → Sto → List Addr → Hp → Prop} {X : Value → Option Addr → Hp → Prop} {S : α → Sto → List Addr → Hp → Prop} (p : Post K w ρ H ((noX r).bind k) R X)
    (go : ∀ a s1 ρ1 H1, Ext ρ ρ1 H H1 → Rel K w ρ1 H1 s1 → Post K w ρ1 H1 (k a s1) R X → S a s1 ρ1 H1) : Post K w ρ H r S (fun _ _ _ => False) := by
  cases r with
  | ok a s => exact fun ρ1 H1 e1 r1 => go a s ρ1 H1 e1 r1 (Post.ext p e1)
  | ex c d s => exact p.elim
  | no => exact p
theorem re_lc {wi : TI} {g : TG} {tt : TT} {te : TE} {mi : MI} {m : MG} {ft : MT} {fe : ME} {vs : List Nat} (hi : RI K w W wi mi) (hg : RGn K g m vs) (ht : RT K w WF tt ft) (he : RE K w WF te fe) : RE K w W (tLc wi g tt te vs) (mLc mi m ft fe vs) := fun ρ H st σ env Q rel re p => by
  have p : Post K w ρ H ((mi env st).bind fun xo s => lcL s.length xo.2 m ft fe (wipeA env vs) xo.1 (s ++ [.lst []])) (fun a _ ρ' H' => ∀ v, Rv K H' ρ' v a → Q v H') (W · · σ ·) := p
  refine hi ρ H st σ env _ rel re ?_
  cases e : mi env st with
  | no => rw [e] at p; exact p
  | ex c d s1 => rw [e] at p; exact p
  | ok xo s1 =>
    rw [e] at p
    obtain ⟨xs, ok⟩ := xo
    intro ρ1 H1 e1 r1 J hJ D nD
    obtain ⟨e2, r2⟩ := r1.new (o := .lst []) (u := .lst []) nD fun H' e' h' => ⟨[], h', .nil⟩
    have hD := r1.last D
    have p1 : Post K w (ρ1 ++ [D]) (upd H1 D (.lst [])) (lcL s1.length ok m ft fe (wipeA env vs) xs (s1 ++ [.lst []])) (fun a _ ρ' H' => ∀ v, Rv K H' ρ' v a → Q v H') (W · · σ ·) := Post.ext p (e1.trans e2)
    refine ⟨fun i n H2 => n = xs.length - i ∧ i ≤ xs.length ∧ ∃ ρ2 s2, Ext (ρ1 ++ [D]) ρ2 (upd H1 D (.lst [])) H2 ∧ Rel K w ρ2 H2 s2 ∧ Post K w ρ2 H2 (lcL s1.length ok m ft fe (wipeA env vs) (xs.drop i) s2) (fun a _ ρ' H' => ∀ v, Rv K H' ρ' v a → Q v H') (W · · σ ·), ⟨_, rfl, Nat.zero_le _, _, _, Ext.refl _ _, r2, by rw [List.drop_zero]; exact p1⟩, ?_⟩
    rintro i n H2 ⟨rfl, hi2, ρ2, s2, e3, r3, p2⟩
    have e13 := e2.trans e3
    by_cases lt : i < xs.length
    · have ea : xs[i]? = some xs[i] := List.getElem?_eq_getElem lt
      rw [List.drop_eq_getElem_cons lt] at p2
      unfold lcL at p2
      split at p2
      · rename_i hok
        obtain ⟨hgo, hy⟩ := hJ.go i _ ρ2 H2 s2 e13 r3 hok ea
        refine .inr ⟨hgo, fun H' => ∃ ρ3 s3, Ext (ρ1 ++ [D]) ρ3 (upd H1 D (.lst [])) H' ∧ Rel K w ρ3 H' s3 ∧ Post K w ρ3 H' (lcL s1.length ok m ft fe (wipeA env vs) (xs.drop (i + 1)) s3) (fun a _ ρ' H' => ∀ v, Rv K H' ρ' v a → Q v H') (W · · σ ·), fun H' hN => ⟨xs.length - (i + 1), by omega, rfl, lt, hN⟩, fun x H' yl => ?_⟩
        obtain ⟨sm, hx⟩ := hy x H' yl
        have e4 : Ext ρ2 ρ2 H2 H' := Ext.same sm
        have r4 := r3.same sm
        refine hg H' ρ2 (L2.wipe σ vs) (wipeA env vs) x _ _ ((re.ext (e1.trans (e13.trans e4))).wipe vs) hx ?_
        cases em : m xs[i] (wipeA env vs) with
        | none => rw [em] at p2; exact p2
        | some env3 =>
          rw [em] at p2
          intro σ3 re3 wp
          have ww : L2.wipe (L2.wipe σ vs) vs = L2.wipe σ vs := by
            have : ∀ us : List Nat, (∀ u ∈ us, u ∈ vs) → L2.wipe (L2.wipe σ us) vs = L2.wipe σ vs := fun us => by
              induction us with
              | nil => intro _; rfl
              | cons u us ih =>
                intro hu
                show L2.wipe ((L2.wipe σ us).set u none) vs = L2.wipe σ vs
                rw [wipe_set (hu u List.mem_cons_self), ih fun z hz => hu z (List.mem_cons_of_mem _ hz)]
            exact this vs fun _ h => h
          refine ⟨wp.trans ww, ht ρ2 H' s2 σ3 env3 _ r4 re3 (noX_use (Post.ext p2 e4) fun k s5 ρ5 H5 e5 r5 p5 => ?_)⟩
          cases k with
          | false =>
            refine iteF ⟨ρ5, s5, e3.trans (e4.trans e5), r5, p5⟩
          | true =>
            refine iteT (he ρ5 H5 s5 σ3 env3 _ r5 (re3.ext e5) (noX_use p5 fun y s6 ρ6 H6 e6 r6 p6 v hv => ?_))
            split at p6
            · rename_i acc ea2
              obtain ⟨us, h1, h2⟩ := r6.get ((e3.trans (e4.trans (e5.trans e6))).get hD) ea2
              split at p6
              · rename_i hl
                obtain ⟨e7, r7⟩ := set_put r6 ((e3.trans (e4.trans (e5.trans e6))).get hD) (h2.append (.cons hv .nil))
                exact ⟨us, h1, by rw [h2.length]; exact hl, ρ6, _, e3.trans (e4.trans (e5.trans (e6.trans e7))), r7, Post.ext p6 e7⟩
              · exact p6.elim
            · exact p6.elim
      · exact p2.elim
    · obtain rfl : i = xs.length := by omega
      rw [List.drop_length] at p2
      unfold lcL at p2
      split at p2
      · rename_i hok
        exact .inl ⟨hJ.stop ρ2 H2 s2 e13 r3 hok, p2.give r3 (.ref (e3.get hD))⟩
      · exact p2.elim
def mYes : MT := fun _ st => .ok true st
theorem rt_yes : RT K w W tYes mYes := fun ρ H st σ env Q rel re p => p ρ H (Ext.refl _ _) rel
/-! ### calls -/
def spM (K : PySem.W.Frag) (w : World) (n : Nat) (m : List A → Sto → Res A) : Sp := fun vs H Q E => ∃ ρ st as, vs.length = n ∧ Rel K w ρ H st ∧ Rvs K H ρ vs as ∧ Post K w ρ H (m as st) (fun a _ ρ' H' => ∀ v, Rv K H' ρ' v a → Q v H') (fun c d H' => E c d H')
/-- .. of a def that lets nothing out -/
def spN (K : PySem.W.Frag) (w : World) (n : Nat) (m : List A → Sto → Res A) : Sp := spM K w n fun as st => noX (m as st)
theorem noX_any {α : Type} {ρ : List Addr} {H : Hp} {r : Res α} {R : α → Sto → List Addr → Hp → Prop} {X X' : Value → Option Addr → Hp → Prop} (p : Post K w ρ H (noX r) R X) : Post K w ρ H (noX r) R X' := by
  cases r with
  | ok a s => exact p
  | ex c d s => exact p
  | no => exact p
def mCall (n : Nat) (m : List A → Sto → Res A) (f : MA) : ME := fun env st => (f env st).bind fun as s => if as.length = n then noX (m as s) else .no
theorem re_call {n : Nat} {m : List A → Sto → Res A} {t : TA} {f : MA} (hf : RA K w W t f) : RE K w W (tCall (spN K w n m) [] E0 t) (mCall n m f) := fun ρ H st σ env Q rel re p =>
  hf.use rel re p fun as s1 ρ1 H1 vs e1 r1 v1 p1 => by
    split at p1
    · rename_i hl
      exact ⟨ρ1, s1, as, by rw [List.append_nil, v1.length]; exact hl, r1, by rw [List.append_nil]; exact v1, noX_any p1⟩
    · exact p1.elim
def fin : RF → Res A
  | .fl (.rt a) s => .ok a s
  | .fl (.nx _) s => .ok .non s
  | .ex c d _ s => .ex c d s
  | _ => .no
def runB (n : Nat) (b : MS) : List A → Sto → Res A := fun as st => fin (b (as.map some ++ List.replicate (n - as.length) none) st)
theorem renv_start {ρ : List Addr} {H : Hp} {N : List Str} {vs : List V} {as : List A} (h : Rvs K H ρ vs as) : Renv K H ρ (L2.start N vs) (as.map some ++ List.replicate (N.length - as.length) none) := by
  have hl := h.length
  refine ⟨by unfold L2.start; simp [hl], fun i a e => ?_⟩
  by_cases hi : i < as.length
  · rw [List.getElem?_append_left (by simpa using hi), List.getElem?_map] at e
    obtain ⟨b, eb, ec⟩ := Option.map_eq_some_iff.mp e
    cases ec
    obtain ⟨v, ev, rv⟩ := h.get eb
    refine ⟨v, ?_, rv⟩
    unfold L2.start
    rw [List.getElem?_append_left (by rw [List.length_map, hl]; exact hi), List.getElem?_map, ev]
    rfl
  · rw [List.getElem?_append_right (by simpa using Nat.le_of_not_lt hi)] at e
    rw [List.getElem?_replicate] at e
    split at e
    · cases e
    · cases e
/-- a def's promise by its mirror: nothing leaves it -/
theorem spN_body {N : List Str} {n : Nat} {b : MS} {t : TS} (hb : RS K w WF t b) {vs : List V} {H : Hp} {Q : VK} {E : XK} (h : spN K w n (runB N.length b) vs H Q E) : t { nx := fun _ H' => Q .non H', rt := Q } (L2.start N vs) H := by
  obtain ⟨ρ, st, as, _, rel, rv, p⟩ := h
  refine hb ρ H st _ _ _ rel (renv_start rv) ?_
  replace p : Post K w ρ H (noX (runB N.length b as st)) (fun a _ ρ' H' => ∀ v, Rv K H' ρ' v a → Q v H') (fun c d H' => E c d H') := p
  unfold runB at p
  cases e : b (as.map some ++ List.replicate (N.length - as.length) none) st with
  | no => rw [e] at p; exact p
  | ex c d e2 s => rw [e] at p; exact p.elim
  | fl f s =>
    rw [e] at p
    cases f with
    | nx e2 => exact fun ρ' H' σ' e' r' _ => p ρ' H' e' r' _ .non
    | rt a => exact fun ρ' H' v e' r' hv => p ρ' H' e' r' v hv
    | bk e2 => exact p.elim
    | ct e2 => exact p.elim
end
/-! ### operators by the kinds of what they meet -/
section
variable {w : World} {W : WishX} {X : Cx}
def rAddD (K : PySem.W.Frag) : R2 := rOr (rI0 fun i j => .int (i + j)) (rOr (fun x y H Q => ∃ i j, x = .str i ∧ y = .str j ∧ i.length + j.length ≤ sizeLine ∧ Q (.str (i ++ j)) H) (rOr (rCatA K) rCat))
theorem dAdd : OpR X (binaryOp .Add) (rAddD X.K) := OpR.or op_add (OpR.or op_add_str (OpR.or op_catA op_cat))
def oAdd : A → A → Sto → Res A := oOr (fun a _ => isInt a) (oI0 fun i j => .int (i + j)) (oOr (fun a _ => isStr a) (oS (fun i j => decide (i.length + j.length ≤ sizeLine)) fun i j => .str (i ++ j)) (oOr (fun a _ => isTup a) oCatT oCat))
theorem r2_add : R2ok K w (rAddD K) oAdd := r2_or (r2_I0 fun _ _ _ _ => .int _) (r2_or r2_addS (r2_or r2_catT r2_cat))
def rSubD : R2 := rI0 fun i j => .int (i - j)
theorem dSub : OpR X (binaryOp .Sub) rSubD := op_sub
def oSub : A → A → Sto → Res A := oI0 fun i j => .int (i - j)
theorem r2_sub : R2ok K w rSubD oSub := r2_I0 fun _ _ _ _ => .int _
def rMulD : R2 := rOr (rI CMul fun i j => .int (i * j)) rRep
theorem dMul : OpR X (binaryOp .Mult) rMulD := OpR.or op_mul op_rep
def cMul (i j : Int) : Bool := decide ((-(2 ^ 64) < i ∧ i < 2 ^ 64) ∨ (-(2 ^ 64) < j ∧ j < 2 ^ 64))
def oMul : A → A → Sto → Res A := oOr (fun a _ => isInt a) (oI cMul fun i j => .int (i * j)) oRep
theorem r2_mul : R2ok K w rMulD oMul := r2_or (r2_I (fun _ _ h => by have := of_decide_eq_true h; exact this) fun _ _ _ _ => .int _) r2_rep
def rDivD : R2 := rI CDivW fun i j => .int (i / j)
theorem dDiv : OpR X (binaryOp .FloorDiv) rDivD := op_fdivW
def oDiv : A → A → Sto → Res A := oI (fun _ j => decide (0 < j ∧ j.natAbs.log2 < 9000)) fun i j => .int (i / j)
theorem r2_div : R2ok K w rDivD oDiv := r2_I (fun _ _ h => by have := of_decide_eq_true h; exact this) fun _ _ _ _ => .int _
def rModD : R2 := rI (fun _ j => 0 < j) fun i j => .int (i % j)
theorem dMod : OpR X (binaryOp .Mod) rModD := op_mod
def oMod : A → A → Sto → Res A := oI (fun _ j => decide (0 < j)) fun i j => .int (i % j)
theorem r2_mod : R2ok K w rModD oMod := r2_I (fun _ _ h => by have := of_decide_eq_true h; exact this) fun _ _ _ _ => .int _
def rPowD : R2 := rI CPow fun i j => .int (i ^ j.toNat)
theorem dPow : OpR X (binaryOp .Pow) rPowD := op_pow
def oPow : A → A → Sto → Res A := oI (fun i j => decide (0 ≤ j ∧ j ≤ 1000000 ∧ i.natAbs < 2 ^ 64)) fun i j => .int (i ^ j.toNat)
theorem r2_pow : R2ok K w rPowD oPow := r2_I (fun _ _ h => by have := of_decide_eq_true h; exact this) fun _ _ _ _ => .int _
def rLtD : R2 := rOr (rI0 fun i j => .bl (decide (i < j))) (fun x y H Q => ∃ i j, x = .str i ∧ y = .str j ∧ Q (.bl (decide (i.cps.toList < j.cps.toList))) H)
theorem dLt : OpR X (compareOp .Lt) rLtD := OpR.or op_lt op_lt_str
def oLt : A → A → Sto → Res A := oOr (fun a _ => isInt a) (oI0 fun i j => .bl (decide (i < j))) (oS (fun _ _ => true) fun i j => .bl (decide (i.cps.toList < j.cps.toList)))
theorem r2_lt : R2ok K w rLtD oLt := r2_or (r2_I0 fun _ _ _ _ => .bl _) (r2_cmpS (g := fun i j => decide (i.cps.toList < j.cps.toList)))
def rLeD : R2 := rOr (rI0 fun i j => .bl (decide (i ≤ j))) (fun x y H Q => ∃ i j, x = .str i ∧ y = .str j ∧ Q (.bl (!decide (j.cps.toList < i.cps.toList))) H)
theorem dLe : OpR X (compareOp .LtE) rLeD := OpR.or op_le op_le_str
def oLe : A → A → Sto → Res A := oOr (fun a _ => isInt a) (oI0 fun i j => .bl (decide (i ≤ j))) (oS (fun _ _ => true) fun i j => .bl (!decide (j.cps.toList < i.cps.toList)))
theorem r2_le : R2ok K w rLeD oLe := r2_or (r2_I0 fun _ _ _ _ => .bl _) (r2_cmpS (g := fun i j => !decide (j.cps.toList < i.cps.toList)))
def rGtD : R2 := rI0 fun i j => .bl (decide (j < i))
theorem dGt : OpR X (compareOp .Gt) rGtD := op_gt
def oGt : A → A → Sto → Res A := oI0 fun i j => .bl (decide (j < i))
theorem r2_gt : R2ok K w rGtD oGt := r2_I0 fun _ _ _ _ => .bl _
def rGeD : R2 := rI0 fun i j => .bl (decide (j ≤ i))
theorem dGe : OpR X (compareOp .GtE) rGeD := op_ge
def oGe : A → A → Sto → Res A := oI0 fun i j => .bl (decide (j ≤ i))
theorem r2_ge : R2ok K w rGeD oGe := r2_I0 fun _ _ _ _ => .bl _
def rEqAny (K : PySem.W.Frag) : R2 := rOr rEq (rEqD K)
theorem dEq (hu : X.A.units + 64 < cLine) : OpR X (compareOp .Eq) (rEqAny X.K) := OpR.or op_eq (op_eqD hu)
theorem r2_eqA : R2ok K w (rEqAny K) oEq := r2_eq
def rNeAny (K : PySem.W.Frag) : R2 := rOr rNe (rNeD K)
theorem dNe (hu : X.A.units + 64 < cLine) : OpR X (compareOp .NotEq) (rNeAny X.K) := OpR.or op_ne (op_neD hu)
theorem r2_neA : R2ok K w (rNeAny K) oNe := r2_ne
def rIsN : R2 := fun x y H Q => y = .non ∧ Q (.bl (decide (x = .non))) H
theorem dIs : OpR X (compareOp .Is) rIsN := op_isN
theorem r2_isN : R2ok K w rIsN oIs := r2_is
def rNotN : R2 := fun x y H Q => y = .non ∧ Q (.bl (!decide (x = .non))) H
theorem dIsNot : OpR X (compareOp .IsNot) rNotN := op_notN
theorem r2_notN : R2ok K w rNotN oIsNot := r2_isnot
def rInAny (K : PySem.W.Frag) : R2 := rOr (fun x y H Q => ∃ (c : Nat) (z : Str), x = .str ⟨#[c]⟩ ∧ y = .str z ∧ Q (.bl (decide (c ∈ z.cps.toList))) H) (rOr (rIn K false) (rInD K))
theorem dIn (hu : X.A.units + 65 < cLine) : OpR X (compareOp .In) (rInAny X.K) := OpR.or op_in_sign (OpR.or op_in_seq (op_inD hu))
def flatIn (a b : A) : Bool := match b with
  | .tup _ => true
  | _ => flatA a
def oIn : A → A → Sto → Res A := oOr (fun _ b => isStr b) (oInS false) (oOr flatIn oInF oInD)
theorem r2_in : R2ok K w (rInAny K) oIn := r2_or r2_inS (r2_or r2_inF r2_inD)
def rNotInAny (K : PySem.W.Frag) : R2 := rOr (fun x y H Q => ∃ (c : Nat) (z : Str), x = .str ⟨#[c]⟩ ∧ y = .str z ∧ Q (.bl (!decide (c ∈ z.cps.toList))) H) (rOr (rIn K true) (rNotInD K))
theorem dNotIn (hu : X.A.units + 65 < cLine) : OpR X (compareOp .NotIn) (rNotInAny X.K) := OpR.or op_notIn_sign (OpR.or op_notIn_seq (op_notInD hu))
def oNotIn : A → A → Sto → Res A := oOr (fun _ b => isStr b) (oInS true) (oOr flatIn oNotInF oNotInD)
theorem r2_notIn : R2ok K w (rNotInAny K) oNotIn := r2_or r2_notInS (r2_or r2_notInF r2_notInD)
def rIxAny (K : PySem.W.Frag) : R2 := rOr (rIxT K) (rOr rIxS (rIxL K))
theorem dIx : IxR X (rIxAny X.K) := IxR.or ix_tup (IxR.or ix_str ix_list)
def oIxD : A → A → Sto → Res A := oOr (fun a _ => isTup a) oIxT (oOr (fun a _ => isStr a) oIxS oIx)
theorem r2_ixD : R2ok K w (rIxAny K) oIxD := r2_or r2_ixT (r2_or r2_ixS r2_ix)
def oNeg : A → Sto → Res A := fun a st => match a with
  | .int i => .ok (.int (-i)) st
  | _ => .no
theorem r1_neg : R1ok K w (rU fun i => .int (-i)) oNeg := fun ρ H st x a Q X rel ra p => by
  unfold oNeg at p
  split at p
  · cases ra
    exact ⟨_, rfl, p.give rel (.int _)⟩
  · exact p.elim
end

/-! ### mirrors: stores, more that is walked, more built-ins -/
section
variable {w : World} {W : WishX}
theorem rs_putL {ta to ti : TE} {f o i : ME} (hf : RE K w W ta f) (ho : RE K w W to o) (hi : RE K w W ti i) : RS K w W (tAsg ta (gSub to ti L2.rSetL)) (sPutL f o i) := fun ρ H st σ env D rel re p =>
  hf.useS rel re p fun a s1 ρ1 H1 x e1 r1 v1 p1 => ho.useS r1 (re.ext e1) p1 fun b s2 ρ2 H2 y e2 r2 v2 p2 => hi.useS r2 (re.ext (e1.trans e2)) p2 fun c s3 ρ3 H3 z e3 r3 v3 p3 => by
    split at p3
    · rename_i k n xs em
      cases v3
      obtain ⟨q, vs, ee, hq, h1, h2⟩ := getM_is r3 (rv_ext e3 v2) em
      cases ee
      split at p3
      · rename_i j ej
        have hv := rv_ext (e2.trans e3) v1
        obtain ⟨e4, r4⟩ := set_put r3 hq (h2.set hv j)
        exact ⟨q, vs, k, j, rfl, rfl, h1, by rw [h2.length]; exact ej, p3 ρ3 _ σ e4 r4 (re.ext (e1.trans (e2.trans (e3.trans e4))))⟩
      · exact p3.elim
    · exact p3.elim
/-- a text, sign by sign -/
def signs (z : Str) : List A := z.cps.toList.map fun c => A.str ⟨#[c]⟩
def miS (f : ME) : MI := fun env st => (f env st).bind fun a s => match a with
  | .str z => .ok (signs z, fun _ => True) s
  | _ => .no
theorem ri_str {t : TE} {f : ME} (hf : RE K w W t f) : RI K w W (iStr t) (miS f) := fun ρ H st σ env R rel re p =>
  hf.use rel re p fun a s1 ρ1 H1 x e1 r1 v1 p1 => by
    split at p1
    · rename_i z
      cases v1
      refine ⟨z, rfl, p1 ρ1 H1 (Ext.refl _ _) r1 _ ⟨fun i b ρ' H' st' e' r' _ eb => ?_, fun ρ' H' st' e' r' _ => ?_⟩⟩
      · unfold signs at eb
        rw [List.getElem?_map] at eb
        obtain ⟨c, ec, rfl⟩ := Option.map_eq_some_iff.mp eb
        have hi : i < z.cps.size := by
          have := (List.getElem?_eq_some_iff.mp ec).1
          simpa using this
        refine ⟨(walk_str (z := z)).goes i H' hi trivial, fun x H2 y => ?_⟩
        obtain ⟨rfl, c', ec', rfl⟩ := (walk_str (z := z)).yields i H' x H2 hi trivial y
        rw [Array.getElem?_toList] at ec
        rw [ec] at ec'
        cases ec'
        exact ⟨Same.refl _, .str _⟩
      · have := (walk_str (z := z)).stops H' trivial
        show (Its z).stop (signs z).length H'
        unfold signs
        rw [List.length_map]
        simpa using this
    · exact p1.elim
/-- isinstance(x, (S, T)) -/
def mIsiT (S T : String) (f : ME) : ME := fun env st => (f env st).bind fun a s => match tyA s a with
  | some t => if S ∈ ["int", "bool", "str", "tuple", "list"] ∧ T ∈ ["int", "bool", "str", "tuple", "list"] then .ok (.bl (isTy t S || isTy t T)) s else .no
  | none => .no
theorem kit_any2 {t S T : String} (ht : t ∈ ["NoneType", "bool", "int", "str", "list", "tuple", "dict"]) (hS : S ∈ ["int", "bool", "str", "tuple", "list"]) (hT : T ∈ ["int", "bool", "str", "tuple", "list"]) : PySem.W.kitAny K (.type t) [.type S, .type T] = some (isTy t S || isTy t T) := by
  have h1 := kit_ty (K := K) (kit_all t ht S hS)
  have h2 := kit_ty (K := K) (kit_all t ht T hT)
  unfold PySem.W.kitAny PySem.W.kitAny PySem.W.kitAny
  rw [h1, h2]
  cases isTy t S <;> cases isTy t T <;> rfl
theorem re_isiT {S T : String} {t : TE} {f : ME} (hf : RE K w W t f) : RE K w W (tCB (rIsiT K) (tCons t (tCons (tTup (tCons (tC (.ty S)) (tCons (tC (.ty T)) tNil))) tNil))) (mIsiT S T f) := fun ρ H st σ env Q rel re p =>
  hf.use rel re p fun a s1 ρ1 H1 x e1 r1 v1 p1 => by
    split at p1
    · rename_i ty et
      split at p1
      · rename_i hc
        refine ⟨by show 2 ≤ sizeLine; decide, fun q nq => ?_⟩
        have sm := same_upd (o := .tup [V.ty S, V.ty T]) nq
        obtain ⟨h1, h2⟩ := tyA_x (r1.same sm) (rv_ext (Ext.same sm) v1) et
        exact ⟨x, q, _, _, _, _, rfl, upd_same, .cons (.ty _) (.cons (.ty _) .nil), h1, kit_any2 h2 hc.1 hc.2, p1.giveAt (Ext.same sm) (r1.same sm) (.bl _)⟩
      · exact p1.elim
    · exact p1.elim
/-- all(..), any(..) of a list of truths -/
def bls : List A → Option (List Bool)
  | [] => some []
  | .bl b :: xs => (bls xs).map (b :: ·)
  | _ => none
theorem bls_is {ρ : List Addr} {H : Hp} : ∀ {vs : List V} {xs : List A} {bs : List Bool}, Rvs K H ρ vs xs → bls xs = some bs → vs = bs.map V.bl
  | _, _, _, .nil, e => by cases e; rfl
  | _, _, _, .cons h hs, e => by
    cases h with
    | bl b =>
      obtain ⟨cs, e1, rfl⟩ := Option.map_eq_some_iff.mp (show (bls _).map (b :: ·) = some _ from e)
      rw [bls_is hs e1]
      rfl
    | _ => cases e
def oAll (g : List Bool → Bool) : List A → Sto → Res A := fun as st => match as with
  | [a] => match getL st a with
    | some xs => lift ((bls xs).map fun bs => A.bl (g bs)) st
    | none => .no
  | _ => .no
theorem rl_all : RLok K w (rAll K) (oAll fun bs => bs.all id) := fun ρ H st vs as Q X rel rv p => by
  unfold oAll at p
  split at p
  · split at p
    · rename_i xs e
      obtain ⟨v, rfl, h⟩ := rvs1 rv
      obtain ⟨q, us, rfl, h1, h2⟩ := getL_sq rel h e
      cases eb : bls xs with
      | none => rw [eb] at p; exact p.elim
      | some bs =>
        rw [eb] at p
        have := bls_is h2 eb
        subst this
        exact ⟨q, bs, rfl, h1, p.give rel (.bl _)⟩
    · exact p.elim
  · exact p.elim
theorem rl_any : RLok K w (rAny K) (oAll fun bs => bs.any id) := fun ρ H st vs as Q X rel rv p => by
  unfold oAll at p
  split at p
  · split at p
    · rename_i xs e
      obtain ⟨v, rfl, h⟩ := rvs1 rv
      obtain ⟨q, us, rfl, h1, h2⟩ := getL_sq rel h e
      cases eb : bls xs with
      | none => rw [eb] at p; exact p.elim
      | some bs =>
        rw [eb] at p
        have := bls_is h2 eb
        subst this
        exact ⟨q, bs, rfl, h1, p.give rel (.bl _)⟩
    · exact p.elim
  · exact p.elim
/-- the truth of a value -/
def mTruth (f : ME) : MT := fun env st => (f env st).bind fun a s => match a with
  | .non => .ok false s
  | .bl b => .ok b s
  | .int i => .ok (i != 0) s
  | .str y => if y.length ≤ sizeLine then .ok ((y.length : Int) != 0) s else .no
  | .ref n => match s[n]? with
    | some (.lst xs) => .ok (!xs.isEmpty) s
    | some (.dK xs) => .ok (!xs.isEmpty) s
    | _ => .no
  | .tup xs => .ok (!xs.isEmpty) s
  | _ => .no
theorem rvs_empty {ρ : List Addr} {H : Hp} {vs : List V} {xs : List A} (h : Rvs K H ρ vs xs) : vs.isEmpty = xs.isEmpty := by cases h <;> rfl
theorem rkv_empty {κ : Type} {ρ : List Addr} {H : Hp} {vs : List (κ × V)} {xs : List (κ × A)} (h : Rkv K H ρ vs xs) : vs.isEmpty = xs.isEmpty := by cases h <;> rfl
theorem rt_truth {t : TE} {f : ME} (hf : RE K w W t f) : RT K w W (fun σ H Q => t σ H fun x H' => ∃ k, TruV K x H' k ∧ Q k H') (mTruth f) := fun ρ H st σ env Q rel re p =>
  hf.use rel re p fun a s1 ρ1 H1 x e1 r1 v1 p1 => by
    split at p1
    · cases v1; exact ⟨_, rfl, p1.giveB r1⟩
    · cases v1; exact ⟨_, rfl, p1.giveB r1⟩
    · cases v1; exact ⟨_, rfl, p1.giveB r1⟩
    · cases v1
      split at p1
      · rename_i hl
        exact ⟨_, ⟨hl, rfl⟩, p1.giveB r1⟩
      · exact p1.elim
    · cases v1 with
      | ref h =>
        split at p1
        · rename_i xs e
          obtain ⟨vs, h1, h2⟩ := r1.get h e
          exact ⟨_, .inl ⟨vs, SqL.of h1, rfl⟩, by rw [rvs_empty h2]; exact p1.giveB r1⟩
        · rename_i xs e
          obtain ⟨vs, h1, h2⟩ := r1.get h e
          exact ⟨_, .inr (.inr ⟨vs, h1, rfl⟩), by rw [rkv_empty h2]; exact p1.giveB r1⟩
        · exact p1.elim
    · obtain ⟨q, vs, rfl, h1, h2⟩ := getT_sq v1 rfl
      exact ⟨_, .inr (.inl ⟨vs, h1, rfl⟩), by rw [rvs_empty h2]; exact p1.giveB r1⟩
    · exact p1.elim
end

/-! ### mirrors: how they go, step by step -/
section
variable {α β : Type} {a b : A} {s st : Sto} {env e : AEnv}
theorem ev_bok {x : α} {k : α → Sto → Res β} : (Res.ok x s).bind k = k x s := rfl
theorem ev_bno {k : α → Sto → Res β} : (Res.no : Res α).bind k = .no := rfl
theorem ev_bex {c : Addr} {d : Option Nat} {k : α → Sto → Res β} : (Res.ex c d s : Res α).bind k = .ex c d s := rfl
theorem ev_tok {x : α} {k : α → Sto → RF} : (Res.ok x s).thenS e k = k x s := rfl
theorem ev_tno {k : α → Sto → RF} : (Res.no : Res α).thenS e k = .no := rfl
theorem ev_tex {c : Addr} {d : Option Nat} {k : α → Sto → RF} : (Res.ex c d s : Res α).thenS e k = .ex c d e s := rfl
theorem ev_nnx {k : MS} : (RF.fl (.nx e) s).next k = k e s := rfl
theorem ev_nrt {k : MS} : (RF.fl (.rt a) s).next k = .fl (.rt a) s := rfl
theorem ev_nbk {k : MS} : (RF.fl (.bk e) s).next k = .fl (.bk e) s := rfl
theorem ev_nct {k : MS} : (RF.fl (.ct e) s).next k = .fl (.ct e) s := rfl
theorem ev_nex {c : Addr} {d : Option Nat} {k : MS} : (RF.ex c d e s).next k = .ex c d e s := rfl
theorem ev_nno {k : MS} : RF.no.next k = .no := rfl
theorem ev_frt : fin (.fl (.rt a) s) = .ok a s := rfl
theorem ev_fnx : fin (.fl (.nx e) s) = .ok .non s := rfl
theorem ev_fex {c : Addr} {d : Option Nat} : fin (.ex c d e s) = .ex c d s := rfl
theorem ev_xok {x : α} : noX (Res.ok x s) = .ok x s := rfl
theorem ev_lsome {x : α} : lift (some x) st = .ok x st := rfl
theorem ev_lnone : lift (none : Option α) st = .no := rfl
theorem ev_seq {f g : MS} : sSeq f g env st = (f env st).next g := rfl
theorem ev_if {c : MT} {f g : MS} : sIf c f g env st = (c env st).thenS env fun b s => if b = true then f env s else g env s := rfl
theorem ev_ret {f : ME} : sRet f env st = (f env st).thenS env fun a s => .fl (.rt a) s := rfl
theorem ev_retN : sRetN env st = .fl (.rt .non) st := rfl
theorem ev_drop {f : ME} : sDrop f env st = (f env st).thenS env fun _ s => .fl (.nx env) s := rfl
theorem ev_nop : sNext env st = .fl (.nx env) st := rfl
theorem ev_brk : sBreak env st = .fl (.bk env) st := rfl
theorem ev_cont : sCont env st = .fl (.ct env) st := rfl
theorem ev_asgN {f : ME} {i : Nat} : sAsg f (mgName i) env st = (f env st).thenS env fun a s => .fl (.nx (env.set i (some a))) s := rfl
def asgO (o : Option AEnv) (s : Sto) : RF := match o with
  | some e => .fl (.nx e) s
  | none => .no
theorem ev_asgT {f : ME} {g : MGs} : sAsg f (mgTup g) env st = (f env st).thenS env fun a s => asgO (mgTup g a env) s := rfl
theorem ev_asgO : asgO (some e) s = .fl (.nx e) s := rfl
theorem ev_mgTup {g : MGs} {xs : List A} : mgTup g (.tup xs) env = g xs env := rfl
theorem ev_mgN {i : Nat} : mgName i a env = some (env.set i (some a)) := rfl
theorem ev_mgC {i : Nat} {g : MGs} {xs : List A} : mgCons (mgName i) g (a :: xs) env = g xs (env.set i (some a)) := rfl
theorem ev_mg0 : mgNil [] env = some env := rfl
def putO (y : A) (m : Option (Nat × List A)) (a : A) (env : AEnv) (s : Sto) : RF := match y, m with
  | .int k, some (n, xs) => match ixN xs.length k with
    | some j => .fl (.nx env) (s.set n (.lst (xs.set j a)))
    | none => .no
  | _, _ => .no
theorem ev_putL {f o i : ME} : sPutL f o i env st = (f env st).thenS env fun a s1 => (o env s1).thenS env fun x s2 => (i env s2).thenS env fun y s3 => putO y (getM s3 x) a env s3 := rfl
theorem ev_putO {k : Int} {n j : Nat} {xs : List A} (h : ixN xs.length k = some j) : putO (.int k) (some (n, xs)) a env s = .fl (.nx env) (s.set n (.lst (xs.set j a))) := by
  unfold putO
  simp only [h]
def vr (o : Option (Option A)) (st : Sto) : Res A := match o with
  | some (some a) => .ok a st
  | _ => .no
theorem ev_var {i : Nat} : mVar i env st = vr env[i]? st := rfl
theorem ev_vr : vr (some (some a)) st = .ok a st := rfl
theorem ev_c : mC a env st = .ok a st := rfl
theorem ev_op {op : A → A → Sto → Res A} {f g : ME} : mOp op f g env st = (f env st).bind fun x s1 => (g env s1).bind fun y s2 => op x y s2 := rfl
theorem ev_un {op : A → Sto → Res A} {f : ME} : mUn op f env st = (f env st).bind fun x s1 => op x s1 := rfl
def tb (a : A) (s : Sto) : Res Bool := match a with
  | .bl b => .ok b s
  | _ => .no
theorem ev_test {f : ME} : mTest f env st = (f env st).bind tb := rfl
theorem ev_tb {b : Bool} : tb (.bl b) s = .ok b s := rfl
theorem ev_notT {f : MT} : mNotT f env st = (f env st).bind fun b s => .ok (!b) s := rfl
theorem ev_andT {f g : MT} : mAndT f g env st = (f env st).bind fun b s => if b = true then g env s else .ok false s := rfl
theorem ev_orT {f g : MT} : mOrT f g env st = (f env st).bind fun b s => if b = true then .ok true s else g env s := rfl
theorem ev_ifE {c : MT} {f g : ME} : mIfE c f g env st = (c env st).bind fun b s => if b = true then f env s else g env s := rfl
def nb (a : A) (s : Sto) : Res A := match a with
  | .bl b => .ok (.bl (!b)) s
  | _ => .no
theorem ev_not {f : ME} : mNot f env st = (f env st).bind nb := rfl
theorem ev_nb {b : Bool} : nb (.bl b) s = .ok (.bl (!b)) s := rfl
def andK (g : ME) (env : AEnv) (a : A) (s : Sto) : Res A := match a with
  | .bl b => if b = true then g env s else .ok (.bl false) s
  | _ => .no
theorem ev_and {f g : ME} : mAnd f g env st = (f env st).bind (andK g env) := rfl
theorem ev_andK {g : ME} {b : Bool} : andK g env (.bl b) s = if b = true then g env s else .ok (.bl false) s := rfl
def orK (g : ME) (env : AEnv) (a : A) (s : Sto) : Res A := match a with
  | .bl b => if b = true then .ok (.bl true) s else g env s
  | _ => .no
theorem ev_or {f g : ME} : mOr f g env st = (f env st).bind (orK g env) := rfl
theorem ev_orK {g : ME} {b : Bool} : orK g env (.bl b) s = if b = true then .ok (.bl true) s else g env s := rfl
def chK (o' : A → A → Sto → Res A) (h : ME) (env : AEnv) (y z : A) (s : Sto) : Res A := match z with
  | .bl true => (h env s).bind fun u s4 => o' y u s4
  | .bl false => .ok (.bl false) s
  | _ => .no
theorem ev_chain {o o' : A → A → Sto → Res A} {f g h : ME} : mChain o o' f g h env st = (f env st).bind fun x s1 => (g env s1).bind fun y s2 => (o x y s2).bind fun z s3 => chK o' h env y z s3 := rfl
theorem ev_chK {o' : A → A → Sto → Res A} {h : ME} {y : A} {c : Bool} : chK o' h env y (.bl c) s = if c = true then (h env s).bind fun u s4 => o' y u s4 else .ok (.bl false) s := by cases c <;> rfl
theorem ev_nil : mNil env st = .ok [] st := rfl
theorem ev_cons {f : ME} {g : MA} : mCons f g env st = (f env st).bind fun x s1 => (g env s1).bind fun xs s2 => .ok (x :: xs) s2 := rfl
theorem ev_tup {f : MA} : mTup f env st = (f env st).bind fun xs s => if xs.length ≤ sizeLine then .ok (.tup xs) s else .no := rfl
theorem ev_lst {f : MA} : mLst f env st = (f env st).bind fun xs s => if xs.length ≤ sizeLine then newO (.lst xs) s else .no := rfl
theorem ev_new {o : AO} : newO o st = .ok (.ref st.length) (st ++ [o]) := rfl
theorem ev_call {n : Nat} {m : List A → Sto → Res A} {f : MA} : mCall n m f env st = (f env st).bind fun as s => if as.length = n then noX (m as s) else .no := rfl
theorem ev_cb {op : List A → Sto → Res A} {f : MA} : mCB op f env st = (f env st).bind op := rfl
theorem ev_size : sizeLine = 16777216 := sizeLine_eq
/-! operators -/
variable {i j : Int} {x y : Str} {xs ys : List A}
theorem ev_addI : oAdd (.int i) (.int j) st = .ok (.int (i + j)) st := rfl
theorem ev_addS : oAdd (.str x) (.str y) st = if decide (x.length + y.length ≤ sizeLine) = true then .ok (.str (x ++ y)) st else .no := rfl
theorem ev_addT : oAdd (.tup xs) (.tup ys) st = if xs.length + ys.length ≤ sizeLine then .ok (.tup (xs ++ ys)) st else .no := rfl
def catO (p q : Option (Nat × List A)) (st : Sto) : Res A := match p, q with
  | some (_, xs), some (_, ys) => if xs.length + ys.length ≤ sizeLine then newO (.lst (xs ++ ys)) st else .no
  | _, _ => .no
theorem ev_addL {n : Nat} : oAdd (.ref n) b st = catO (getM st (.ref n)) (getM st b) st := rfl
theorem ev_catO {n m : Nat} : catO (some (n, xs)) (some (m, ys)) st = if xs.length + ys.length ≤ sizeLine then newO (.lst (xs ++ ys)) st else .no := rfl
theorem ev_sub : oSub (.int i) (.int j) st = .ok (.int (i - j)) st := rfl
theorem ev_mul : oMul (.int i) (.int j) st = if cMul i j = true then .ok (.int (i * j)) st else .no := rfl
theorem ev_div : oDiv (.int i) (.int j) st = if decide (0 < j ∧ j.natAbs.log2 < 9000) = true then .ok (.int (i / j)) st else .no := rfl
theorem ev_mod : oMod (.int i) (.int j) st = if decide (0 < j) = true then .ok (.int (i % j)) st else .no := rfl
theorem pow_ev : oPow (.int i) (.int j) st = if decide (0 ≤ j ∧ j ≤ 1000000 ∧ i.natAbs < 2 ^ 64) = true then .ok (.int (i ^ j.toNat)) st else .no := rfl
theorem ev_p5 : oPow (.int 10) (.int 5) st = .ok (.int 100000) st := rfl
theorem ev_p6 : oPow (.int 10) (.int 6) st = .ok (.int 1000000) st := rfl
theorem ev_p12 : oPow (.int 10) (.int 12) st = .ok (.int 1000000000000) st := rfl
theorem ev_p18 : oPow (.int 10) (.int 18) st = .ok (.int 1000000000000000000) st := rfl
theorem ev_p30 : oPow (.int 10) (.int 30) st = .ok (.int 1000000000000000000000000000000) st := rfl
theorem ev_neg : oNeg (.int i) st = .ok (.int (-i)) st := rfl
theorem ev_ltI : oLt (.int i) (.int j) st = .ok (.bl (decide (i < j))) st := rfl
theorem ev_ltS : oLt (.str x) (.str y) st = .ok (.bl (decide (x.cps.toList < y.cps.toList))) st := rfl
theorem ev_leI : oLe (.int i) (.int j) st = .ok (.bl (decide (i ≤ j))) st := rfl
theorem ev_leS : oLe (.str x) (.str y) st = .ok (.bl (!decide (y.cps.toList < x.cps.toList))) st := rfl
theorem ev_gt : oGt (.int i) (.int j) st = .ok (.bl (decide (j < i))) st := rfl
theorem ev_ge : oGe (.int i) (.int j) st = .ok (.bl (decide (j ≤ i))) st := rfl
theorem ev_eqI : oEq (.int i) (.int j) st = .ok (.bl (decide (i = j))) st := rfl
theorem ev_eqS : oEq (.str x) (.str y) st = .ok (.bl (decide (x = y))) st := rfl
theorem ev_neI : oNe (.int i) (.int j) st = .ok (.bl (!decide (i = j))) st := rfl
theorem ev_neS : oNe (.str x) (.str y) st = .ok (.bl (!decide (x = y))) st := rfl
theorem ev_neB {c d : Bool} : oNe (.bl c) (.bl d) st = .ok (.bl (!decide (c = d))) st := rfl
theorem ev_eqB {c d : Bool} : oEq (.bl c) (.bl d) st = .ok (.bl (decide (c = d))) st := rfl
theorem ev_is : oIs a .non st = .ok (.bl (isNon a)) st := rfl
theorem ev_isnot : oIsNot a .non st = .ok (.bl (!isNon a)) st := rfl
theorem ev_ixT : oIxD (.tup xs) (.int i) st = lift (atI xs i) st := rfl
theorem ev_ixS : oIxD (.str x) (.int i) st = if x.length ≤ sizeLine then lift ((atI x.cps.toList i).map fun c => A.str ⟨#[c]⟩) st else .no := rfl
def ixK (o : Option (List A)) (i : Int) (st : Sto) : Res A := match o with
  | some xs => lift (atI xs i) st
  | none => .no
theorem ev_ixR {n : Nat} : oIxD (.ref n) (.int i) st = ixK (getL st (.ref n)) i st := rfl
theorem ev_ixL : oIxD (.lit xs) (.int i) st = lift (atI xs i) st := rfl
theorem ev_ixK : ixK (some xs) i st = lift (atI xs i) st := rfl
def gL (o : Option AO) : Option (List A) := match o with
  | some (.lst xs) => some xs
  | _ => none
def gM (n : Nat) (o : Option AO) : Option (Nat × List A) := match o with
  | some (.lst xs) => some (n, xs)
  | _ => none
theorem ev_getL {n : Nat} : getL st (.ref n) = gL st[n]? := rfl
theorem ev_getM {n : Nat} : getM st (.ref n) = gM n st[n]? := rfl
theorem ev_gL : gL (some (.lst xs)) = some xs := rfl
theorem ev_gM {n : Nat} : gM n (some (.lst xs)) = some (n, xs) := rfl
theorem ev_at0 {α : Type} {x : α} {l : List α} : atI (x :: l) 0 = some x := atI_nat (j := 0) rfl
theorem ev_at1 {α : Type} {x x1 : α} {l : List α} : atI (x :: x1 :: l) 1 = some x1 := atI_nat (j := 1) rfl
theorem ev_at2 {α : Type} {x x1 x2 : α} {l : List α} : atI (x :: x1 :: x2 :: l) 2 = some x2 := atI_nat (j := 2) rfl
theorem ev_at3 {α : Type} {x x1 x2 x3 : α} {l : List α} : atI (x :: x1 :: x2 :: x3 :: l) 3 = some x3 := atI_nat (j := 3) rfl
theorem ev_at4 {α : Type} {x x1 x2 x3 x4 : α} {l : List α} : atI (x :: x1 :: x2 :: x3 :: x4 :: l) 4 = some x4 := atI_nat (j := 4) rfl
def lenR (o : Option AO) (st : Sto) : Res A := match o with
  | some (.lst xs) => .ok (.int xs.length) st
  | some (.dK kvs) => .ok (.int kvs.length) st
  | _ => .no
theorem ev_lenS : oLen [.str x] st = if x.length ≤ sizeLine then .ok (.int x.length) st else .no := rfl
theorem ev_lenR {n : Nat} : oLen [.ref n] st = lenR st[n]? st := rfl
theorem ev_lenT : oLen [.tup xs] st = .ok (.int xs.length) st := rfl
theorem ev_lenL : oLen [.lit xs] st = .ok (.int xs.length) st := rfl
theorem ev_lenO : lenR (some (.lst xs)) st = .ok (.int xs.length) st := rfl
theorem ev_lenD {kvs : List (Key × A)} : lenR (some (.dK kvs)) st = .ok (.int kvs.length) st := rfl
theorem ev_abs : oAbs [.int i] st = .ok (.int (if i < 0 then -i else i)) st := rfl
theorem ev_min2 : oMin2 [.int i, .int j] st = .ok (.int (if j < i then j else i)) st := rfl
theorem ev_max2 : oMax2 [.int i, .int j] st = .ok (.int (if j > i then j else i)) st := rfl
theorem ev_intI : oInt [.int i] st = .ok (.int i) st := rfl
theorem ev_intB {c : Bool} : oInt [.bl c] st = .ok (.int (if c then 1 else 0)) st := rfl
theorem ev_set {n : Nat} {o : AO} : (st.set n o)[n]? = Function.const AO o <$> st[n]? := List.getElem?_set_self'
theorem ev_fc {o o' : AO} : Function.const AO o <$> some o' = some o := rfl
theorem ev_setset {n : Nat} {o o' : AO} : (st.set n o).set n o' = st.set n o' := List.set_set ..
theorem ev_last {st : Sto} {o : AO} : (st ++ [o])[st.length]? = some o := by simp
theorem ev_appk {st l : Sto} {k : Nat} : (st ++ l)[st.length + k]? = l[k]? := by
  rw [List.getElem?_append_right (by omega)]
  congr 1
  omega
theorem ev_app0 {st l : Sto} : (st ++ l)[st.length]? = l[0]? := by
  rw [List.getElem?_append_right (Nat.le_refl _), Nat.sub_self]
theorem ev_setk {st l : Sto} {k : Nat} {o : AO} : (st ++ l).set (st.length + k) o = st ++ l.set k o := by
  rw [List.set_append, if_neg (by omega)]
  congr 2
  omega
theorem ev_set0 {st l : Sto} {o : AO} : (st ++ l).set st.length o = st ++ l.set 0 o := by
  rw [List.set_append, if_neg (by omega), Nat.sub_self]
theorem ev_assoc {a b c : Sto} : (a ++ b) ++ c = a ++ (b ++ c) := List.append_assoc ..
theorem ev_lapp {a b : Sto} : (a ++ b).length = a.length + b.length := List.length_append
theorem ev_lappA {a b : List A} : (a ++ b).length = a.length + b.length := List.length_append
end

/-! ### mirrors: in of a tuple of any data, == of an empty list, len(set(..)), texts, swaps -/
section
variable {w : World} {W : WishX} {X : Cx}
def rInTD (K : PySem.W.Frag) : R2 := fun x y H Q => ∃ d ds, Dp K H x d ∧ Dp K H y (.tuple ds) ∧ SeqAt.shaped d = true ∧ SeqAt.shaped (.tuple ds) = true ∧ Q (.bl (ds.any fun z => PyData.eqv z d)) H
def rNotInTD (K : PySem.W.Frag) : R2 := fun x y H Q => ∃ d ds, Dp K H x d ∧ Dp K H y (.tuple ds) ∧ SeqAt.shaped d = true ∧ SeqAt.shaped (.tuple ds) = true ∧ Q (.bl (!ds.any fun z => PyData.eqv z d)) H
theorem op_inTD (hu : X.A.units + 65 < cLine) : OpR X (compareOp .In) (rInTD X.K) := by
  intro pins s σ H x y v u Q I rx ry h
  obtain ⟨d, ds, hd, he, sd, se, q⟩ := h
  obtain ⟨as, r1⟩ := Dp.reads I d x v hd rx
  obtain ⟨bs, r2⟩ := Dp.reads I (.tuple ds) y u he ry
  exact SeqAt.in_tuple_reads r2 r1 (SeqAt.canLay_of_shaped se) (SeqAt.canLay_of_shaped sd) (room_in_shaped sd hu) ⟨.bl _, H, I, rfl, q⟩
theorem op_notInTD (hu : X.A.units + 65 < cLine) : OpR X (compareOp .NotIn) (rNotInTD X.K) := by
  intro pins s σ H x y v u Q I rx ry h
  obtain ⟨d, ds, hd, he, sd, se, q⟩ := h
  obtain ⟨as, r1⟩ := Dp.reads I d x v hd rx
  obtain ⟨bs, r2⟩ := Dp.reads I (.tuple ds) y u he ry
  exact SeqAt.notIn_tuple_reads r2 r1 (SeqAt.canLay_of_shaped se) (SeqAt.canLay_of_shaped sd) (room_in_shaped sd hu) ⟨.bl _, H, I, rfl, q⟩
def inTD (st : Sto) (a b : A) : Option Bool := match dat st deep a, dat st deep b with
  | some d, some (.tuple ds) => if SeqAt.shaped d = true ∧ SeqAt.shaped (.tuple ds) = true then some (ds.any fun z => PyData.eqv z d) else none
  | _, _ => none
def oInTD : A → A → Sto → Res A := fun a b st => lift ((inTD st a b).map A.bl) st
def oNotInTD : A → A → Sto → Res A := fun a b st => lift ((inTD st a b).map fun c => A.bl (!c)) st
theorem r2_inTD : R2ok K w (rInTD K) oInTD := fun ρ H st x y a b Q X rel ra rb p => by
  unfold oInTD inTD at p
  split at p
  · rename_i d ds e1 e2
    split at p
    · rename_i hs
      exact ⟨_, _, dat_dp rel _ _ _ _ ra e1, dat_dp rel _ _ _ _ rb e2, hs.1, hs.2, p.give rel (.bl _)⟩
    · exact p.elim
  · exact p.elim
theorem r2_notInTD : R2ok K w (rNotInTD K) oNotInTD := fun ρ H st x y a b Q X rel ra rb p => by
  unfold oNotInTD inTD at p
  split at p
  · rename_i d ds e1 e2
    split at p
    · rename_i hs
      exact ⟨_, _, dat_dp rel _ _ _ _ ra e1, dat_dp rel _ _ _ _ rb e2, hs.1, hs.2, p.give rel (.bl _)⟩
    · exact p.elim
  · exact p.elim
def tupDeep (a b : A) : Bool := isTup b && !flatA a
def rInX (K : PySem.W.Frag) : R2 := rOr (rInTD K) (rInAny K)
theorem dInX (hu : X.A.units + 65 < cLine) : OpR X (compareOp .In) (rInX X.K) := OpR.or (op_inTD hu) (dIn hu)
def oInX : A → A → Sto → Res A := oOr tupDeep oInTD oIn
theorem r2_inX : R2ok K w (rInX K) oInX := r2_or r2_inTD r2_in
def rNotInX (K : PySem.W.Frag) : R2 := rOr (rNotInTD K) (rNotInAny K)
theorem dNotInX (hu : X.A.units + 65 < cLine) : OpR X (compareOp .NotIn) (rNotInX X.K) := OpR.or (op_notInTD hu) (dNotIn hu)
def oNotInX : A → A → Sto → Res A := oOr tupDeep oNotInTD oNotIn
theorem r2_notInX : R2ok K w (rNotInX K) oNotInX := r2_or r2_notInTD r2_notIn
/-! == [] -/
def rEqNil (K : PySem.W.Frag) : R2 := fun x y H Q => ∃ a b xs, x = .ref a ∧ y = .ref b ∧ SqL K H a xs ∧ SqL K H b [] ∧ Q (.bl xs.isEmpty) H
def rNeNil (K : PySem.W.Frag) : R2 := fun x y H Q => ∃ a b xs, x = .ref a ∧ y = .ref b ∧ SqL K H a xs ∧ SqL K H b [] ∧ Q (.bl (!xs.isEmpty)) H
/-- both lists, the second empty: else it is no -/
def nilA (st : Sto) (a b : A) : Option Bool := match getL st a, getL st b with
  | some xs, some [] => some xs.isEmpty
  | _, _ => none
def oEqX : A → A → Sto → Res A := fun a b st => match nilA st a b with
  | some c => .ok (.bl c) st
  | none => oEq a b st
def oNeX : A → A → Sto → Res A := fun a b st => match nilA st a b with
  | some c => .ok (.bl (!c)) st
  | none => oNe a b st
theorem nilA_is {ρ : List Addr} {H : Hp} {st : Sto} {x y : V} {a b : A} {c : Bool} (rel : Rel K w ρ H st) (ra : Rv K H ρ x a) (rb : Rv K H ρ y b) (e : nilA st a b = some c) : ∃ p q vs, x = .ref p ∧ y = .ref q ∧ SqL K H p vs ∧ SqL K H q [] ∧ vs.isEmpty = c := by
  unfold nilA at e
  split at e
  · rename_i xs e1 e2
    cases e
    obtain ⟨p, vs, rfl, h1, h2⟩ := getL_sq rel ra e1
    obtain ⟨q, us, rfl, h3, h4⟩ := getL_sq rel rb e2
    cases h4
    exact ⟨p, q, vs, rfl, rfl, h1, h3, rvs_empty h2⟩
  · cases e
def rEqX (K : PySem.W.Frag) : R2 := rOr (rEqNil K) (rEqAny K)
def rNeX (K : PySem.W.Frag) : R2 := rOr (rNeNil K) (rNeAny K)
theorem dEqX (hu : X.A.units + 64 < cLine) : OpR X (compareOp .Eq) (rEqX X.K) := OpR.or (op_eqNil (by omega)) (dEq hu)
theorem dNeX (hu : X.A.units + 64 < cLine) : OpR X (compareOp .NotEq) (rNeX X.K) := OpR.or (op_neNil (by omega)) (dNe hu)
theorem r2_eqX : R2ok K w (rEqX K) oEqX := fun ρ H st x y a b Q X rel ra rb p => by
  unfold oEqX at p
  split at p
  · rename_i c e
    obtain ⟨q, q', vs, e1, e2, h1, h2, h3⟩ := nilA_is rel ra rb e
    exact .inl ⟨q, q', vs, e1, e2, h1, h2, p.give rel (by rw [h3]; exact .bl _)⟩
  · exact .inr (r2_eqA ρ H st x y a b Q X rel ra rb p)
theorem r2_neX : R2ok K w (rNeX K) oNeX := fun ρ H st x y a b Q X rel ra rb p => by
  unfold oNeX at p
  split at p
  · rename_i c e
    obtain ⟨q, q', vs, e1, e2, h1, h2, h3⟩ := nilA_is rel ra rb e
    exact .inl ⟨q, q', vs, e1, e2, h1, h2, p.give rel (by rw [h3]; exact .bl _)⟩
  · exact .inr (r2_neA ρ H st x y a b Q X rel ra rb p)
/-! len(set(xs)), xs a list of whole numbers -/
def ddup (ns : List Int) : List Int := firstMet (fun i => ns.getD i 0) ns.length
def tLenSet (K : PySem.W.Frag) (ta : TE) : TE := fun σ H Q => ta σ H fun x H1 => ∃ (l : Addr) (ns : List Int), x = V.ref l ∧ SqL K H1 l (ns.map V.int) ∧ ns.length ≤ 4000 ∧ Q (.int ((ddup ns).length : Nat)) H1
theorem pe_lenSet {a : Expr} {ta : TE} {p p2 q pos : Pos} (hc : X.calm = true) (hg : Gl X "len") (hm : X.mg "len" = none) (hg2 : Gl X "set") (hm2 : X.mg "set" = none) (ha : PE X a ta)
    (na : starEach [a] X.env = (false, eval a X.env) :: starEach [] X.env := by rfl) : PE X (.Call (.Name "len" p) [.Call (.Name "set" p2) [a] [] q] [] pos) (tLenSet X.K ta) := by
  refine ⟨fun pins s σ H Q I h => ?_⟩
  refine Call_ (ld_blt I hg hm PySem.boot_len ?_)
  refine PyProof.Rows.callWith_builtin1 (PyProof.Rows.args_cons ?_ rfl) rfl rfl
  refine Call_ (ld_blt I hg2 hm2 PyProof.Rows.boot_set ?_)
  refine PyProof.Rows.callWith_type1 (PyProof.Rows.args_cons (thn (ha.run pins s σ H _ I h) fun v s1 ⟨x, H1, I1, r1, q1⟩ => PyProof.Rows.args_nil ?_) na) na rfl
  obtain ⟨l, ns, rfl, hq, h1, q1⟩ := q1
  cases r1
  obtain ⟨its, r, pl, hz⟩ := I1.list hq
  have hl : its.toArray.size = ns.length := by rw [List.size_toArray, ← r.length, List.length_map]
  have hle := firstMet_length_le (fun i => ns.getD i 0) ns.length
  refine call_set_list (I1.ok.hd hc) pl.isList (ns := ns) (by simpa using r.ints) (by unfold scanBound; omega) fun h' tk hS hk => ?_
  rw [hl] at hS
  refine PyProof.Rows.args_nil ?_
  obtain ⟨o, es, ep, t, ho, hex, hd, _, _, _, hf, hn⟩ := hS
  have I2 : Inv X pins σ H1 { s1 with heap := h', toks := tk } := I1.kept fun b o e => hk b o (Heap.lt_size e) e
  refine call_len_set ho hex hd hf (by rw [hn] <;> omega) ⟨.int ((ddup ns).length : Nat), H1, I2.tok _, ⟨_, by rw [hn]; rfl⟩, q1⟩
def intsOf : List A → Option (List Int)
  | [] => some []
  | .int i :: xs => (intsOf xs).map (i :: ·)
  | _ => none
theorem ints_is {ρ : List Addr} {H : Hp} : ∀ {vs : List V} {xs : List A} {ns : List Int}, Rvs K H ρ vs xs → intsOf xs = some ns → vs = ns.map V.int
  | _, _, _, .nil, e => by cases e; rfl
  | _, _, _, .cons h hs, e => by
    cases h with
    | int b =>
      obtain ⟨cs, e1, rfl⟩ := Option.map_eq_some_iff.mp (show (intsOf _).map (b :: ·) = some _ from e)
      rw [ints_is hs e1]
      rfl
    | _ => cases e
def lenSetK (o : Option (List Int)) (s : Sto) : Res A := match o with
  | some ns => if ns.length ≤ 4000 then .ok (.int ((ddup ns).length : Nat)) s else .no
  | none => .no
def mLenSet (f : ME) : ME := fun env st => (f env st).bind fun a s => lenSetK ((getL s a).bind intsOf) s
theorem re_lenSet {t : TE} {f : ME} (hf : RE K w W t f) : RE K w W (tLenSet K t) (mLenSet f) := fun ρ H st σ env Q rel re p =>
  hf.use rel re p fun a s1 ρ1 H1 x e1 r1 v1 p1 => by
    unfold lenSetK at p1
    split at p1
    · rename_i ns e
      split at p1
      · rename_i hl
        obtain ⟨xs, e2, e3⟩ := Option.bind_eq_some_iff.mp e
        obtain ⟨q, us, rfl, h1, h2⟩ := getL_sq r1 v1 e2
        have := ints_is h2 e3
        subst this
        exact ⟨q, ns, rfl, h1, hl, p1.give r1 (.int _)⟩
      · exact p1.elim
    · exact p1.elim
/-! methods of texts -/
def mM0 (g : Str → Option A) (f : ME) : ME := fun env st => (f env st).bind fun a s => match a with
  | .str z => lift (g z) s
  | _ => .no
theorem re_upper {t : TE} {f : ME} (hf : RE K w W t f) : RE K w W (tM0 (fun x xs H Q => ∃ a, x = .str a ∧ xs = [] ∧ a.length ≤ 5592405 ∧ Q (.str (Txt.upper a)) H) t) (mM0 (fun z => if z.length ≤ 5592405 then some (.str (Txt.upper z)) else none) f) := fun ρ H st σ env Q rel re p =>
  hf.use rel re p fun a s1 ρ1 H1 x e1 r1 v1 p1 => by
    split at p1
    · cases v1
      simp only at p1
      split at p1
      · rename_i hl
        exact ⟨⟨_, rfl⟩, _, rfl, rfl, hl, p1.give r1 (.str _)⟩
      · exact p1.elim
    · exact p1.elim
def strsOf : List A → Option (List Str)
  | [] => some []
  | .str i :: xs => (strsOf xs).map (i :: ·)
  | _ => none
theorem strs_is {ρ : List Addr} {H : Hp} : ∀ {vs : List V} {xs : List A} {ns : List Str}, Rvs K H ρ vs xs → strsOf xs = some ns → vs = ns.map V.str
  | _, _, _, .nil, e => by cases e; rfl
  | _, _, _, .cons h hs, e => by
    cases h with
    | str b =>
      obtain ⟨cs, e1, rfl⟩ := Option.map_eq_some_iff.mp (show (strsOf _).map (b :: ·) = some _ from e)
      rw [strs_is hs e1]
      rfl
    | _ => cases e
def joinK (z : Str) (o : Option (List Str)) (s : Sto) : Res A := match o with
  | some ys => if (ys.map (·.length)).sum + ys.length * z.length ≤ 16777216 then .ok (.str (Txt.join z ys)) s else .no
  | none => .no
def joinG (g : ME) (env : AEnv) (z : A) (s1 : Sto) : Res A := match z with
  | .str z => (g env s1).bind fun a s => joinK z ((getS s a).bind strsOf) s
  | _ => .no
def mJoin (f g : ME) : ME := fun env st => (f env st).bind (joinG g env)
theorem re_join {t u : TE} {f g : ME} (hf : RE K w W t f) (hg : RE K w W u g) : RE K w W (tM1 (fun x xs H Q => ∃ a p, ∃ ys : List Str, x = .str a ∧ xs = [.ref p] ∧ (SqL K H p (ys.map V.str) ∨ SqT K H p (ys.map V.str)) ∧ (ys.map (·.length)).sum + ys.length * a.length ≤ 16777216 ∧ Q (.str (Txt.join a ys)) H) t u) (mJoin f g) := fun ρ H st σ env Q rel re p =>
  hf.use rel re p fun z s1 ρ1 H1 x e1 r1 v1 p1 => by
    unfold joinG at p1
    split at p1
    · rename_i c
      cases v1
      refine ⟨⟨_, rfl⟩, hg.use r1 (re.ext e1) p1 fun a s2 ρ2 H2 y e2 r2 v2 p2 => ?_⟩
      unfold joinK at p2
      split at p2
      · rename_i ys e
        split at p2
        · rename_i hl
          obtain ⟨xs, e3, e4⟩ := Option.bind_eq_some_iff.mp e
          obtain ⟨q, us, rfl, h1, h2⟩ := getS_sq r2 v2 e3
          have := strs_is h2 e4
          subst this
          exact ⟨c, q, ys, rfl, rfl, h1, hl, p2.give r2 (.str _)⟩
        · exact p2.elim
      · exact p2.elim
    · exact p1.elim
/-! two items of a list put at once: xs[i], ys[j] = a pair -/
def put1 (x y a : A) (s : Sto) : Option Sto := match y, getM s x with
  | .int k, some (n, xs) => (ixN xs.length k).map fun j => s.set n (.lst (xs.set j a))
  | _, _ => none
def sPut2 (f o i o' i' : ME) : MS := fun env st => (f env st).thenS env fun a s0 => match a with
  | .tup [a1, a2] => (o env s0).thenS env fun x s1 => (i env s1).thenS env fun y s2 => match put1 x y a1 s2 with
    | some s3 => (o' env s3).thenS env fun x' s4 => (i' env s4).thenS env fun y' s5 => match put1 x' y' a2 s5 with
      | some s6 => .fl (.nx env) s6
      | none => .no
    | none => .no
  | _ => .no
theorem put1_is {ρ : List Addr} {H : Hp} {s s' : Sto} {x y a : A} {vx vy va : V} {Q : Hp → Prop} (rel : Rel K w ρ H s) (hx : Rv K H ρ vx x) (hy : Rv K H ρ vy y) (ha : Rv K H ρ va a) (e : put1 x y a s = some s') (q : ∀ H', Ext ρ ρ H H' → Rel K w ρ H' s' → Q H') : L2.rSetL vx vy va H Q := by
  unfold put1 at e
  split at e
  · rename_i k n xs em
    cases hy
    obtain ⟨p, vs, rfl, hq, h1, h2⟩ := getM_is rel hx em
    obtain ⟨j, ej, rfl⟩ := Option.map_eq_some_iff.mp e
    obtain ⟨e4, r4⟩ := set_put rel hq (h2.set ha j)
    exact ⟨p, vs, k, j, rfl, rfl, h1, by rw [h2.length]; exact ej, q _ e4 r4⟩
  · cases e
theorem rs_put2 {ta to ti to' ti' : TE} {f o i o' i' : ME} (hf : RE K w W ta f) (ho : RE K w W to o) (hi : RE K w W ti i) (ho' : RE K w W to' o') (hi' : RE K w W ti' i') : RS K w W (tAsg ta (gTup K 2 (gCons (gSub to ti L2.rSetL) (gCons (gSub to' ti' L2.rSetL) gNil)))) (sPut2 f o i o' i') := fun ρ H st σ env D rel re p =>
  hf.useS rel re p fun a s1 ρ1 H1 x e1 r1 v1 p1 => by
    split at p1
    · rename_i a1 a2
      obtain ⟨q, vs, rfl, h1, h2⟩ := getT_sq v1 rfl
      obtain ⟨u1, u2, rfl, h3, h4⟩ := rvs2 h2
      refine ⟨q, _, rfl, h1, rfl, _, _, rfl, ho.useS r1 (re.ext e1) p1 fun b s2 ρ2 H2 y e2 r2 v2 p2 => hi.useS r2 (re.ext (e1.trans e2)) p2 fun c s3 ρ3 H3 z e3 r3 v3 p3 => ?_⟩
      split at p3
      · rename_i s4 e4
        refine put1_is r3 (rv_ext e3 v2) v3 (rv_ext (e2.trans e3) h3) e4 fun H4 x4 r4 => ?_
        refine ⟨_, _, rfl, ho'.useS r4 (re.ext (e1.trans (e2.trans (e3.trans x4)))) (PostS.ext p3 x4) fun b' s5 ρ5 H5 y' e5 r5 v5 p5 => hi'.useS r5 (re.ext (e1.trans (e2.trans (e3.trans (x4.trans e5))))) p5 fun c' s6 ρ6 H6 z' e6 r6 v6 p6 => ?_⟩
        split at p6
        · rename_i s7 e7
          refine put1_is r6 (rv_ext e6 v5) v6 (rv_ext (e2.trans (e3.trans (x4.trans (e5.trans e6)))) h4) e7 fun H7 x7 r7 => ?_
          exact ⟨rfl, p6 ρ6 H7 σ x7 r7 (re.ext (e1.trans (e2.trans (e3.trans (x4.trans (e5.trans (e6.trans x7)))))))⟩
        · exact p6.elim
      · exact p3.elim
    · exact p1.elim
/-! list(range(n)) -/
def mListR (f : ME) : ME := fun env st => (f env st).bind fun a s => match a with
  | .int n => if 0 ≤ n ∧ n ≤ 1000 then newO (.lst (rngA 0 n.toNat)) s else .no
  | _ => .no
theorem rvs_map {α : Type} {ρ : List Addr} {H : Hp} {f : α → V} {g : α → A} (h : ∀ x, Rv K H ρ (f x) (g x)) : ∀ l : List α, Rvs K H ρ (l.map f) (l.map g)
  | [] => .nil
  | x :: l => .cons (h x) (rvs_map h l)
theorem rgV_is {ρ : List Addr} {H : Hp} {n : Int} : Rvs K H ρ (rgV 0 n) (rngA 0 n.toNat) := by
  unfold rgV rngA
  rw [Int.sub_zero]
  exact rvs_map (fun _ => .int _) _
theorem re_listR {t : TE} {f : ME} (hf : RE K w W t f) : RE K w W (tLstRg (tRg1 t)) (mListR f) := fun ρ H st σ env Q rel re p =>
  hf.use rel re p fun a s1 ρ1 H1 x e1 r1 v1 p1 => by
    split at p1
    · rename_i n
      cases v1
      split at p1
      · rename_i hn
        exact ⟨n, rfl, ⟨by decide, by decide, by omega, by omega, by omega⟩, fun q nq => post_newL r1 rgV_is p1 q nq⟩
      · exact p1.elim
    · exact p1.elim
def oInsert : List A → List A → Option (A × List A) := fun xs as => match as with
  | [.int i, a] => if xs.length < sizeLine ∧ 0 ≤ i ∧ i < 2 ^ 63 then some (.non, xs.take i.toNat ++ [a] ++ xs.drop i.toNat) else none
  | _ => none
theorem rm_insert : RMok K (fun x vs H Q => ∃ (l : Addr) (xs : List V) (i : Int) (y : V), x = .ref l ∧ vs = [.int i, y] ∧ H l = some (.lst xs) ∧ xs.length < sizeLine ∧ 0 ≤ i ∧ i < 2 ^ 63 ∧ Q .non (upd H l (.lst (xs.take i.toNat ++ [y] ++ xs.drop i.toNat)))) oInsert := fun ρ H l xs as vs us a ys Q h1 h2 h3 e q => by
  unfold oInsert at e
  split at e
  · split at e
    · rename_i hl
      cases e
      obtain ⟨u, v, rfl, h4, h5⟩ := rvs2 h3
      cases h4
      exact ⟨l, vs, _, v, rfl, rfl, h1, by rw [h2.length]; exact hl.1, hl.2.1, hl.2.2, q _ _ .non (((h2.take _).append (.cons h5 .nil)).append (h2.drop _))⟩
    · cases e
  · cases e
end

/-! ### mirrors: how they go, further -/
section
variable {α β : Type} {a b : A} {s st : Sto} {env e : AEnv} {i j : Int} {x y : Str} {xs ys : List A}
theorem ev_sl {op : A → Option Int → Option Int → Sto → Res A} {f : ME} {l h : MO} : mSl op f l h env st = (f env st).bind fun x s1 => (l env s1).bind fun lo s2 => (h env s2).bind fun hi s3 => op x lo hi s3 := rfl
theorem ev_nopart : mNoPart env st = .ok none st := rfl
def ptK (a : A) (s : Sto) : Res (Option Int) := match a with
  | .int i => .ok (some i) s
  | _ => .no
theorem ev_part {f : ME} : mPart f env st = (f env st).bind ptK := rfl
theorem ev_ptK : ptK (.int i) s = .ok (some i) s := rfl
theorem ev_slT {lo hi : Option Int} : oSl (.tup xs) lo hi st = .ok (.tup (cutA xs lo hi)) st := rfl
theorem ev_slS {lo hi : Option Int} : oSl (.str x) lo hi st = if x.length ≤ sizeLine then .ok (.str (cutS x lo hi)) st else .no := rfl
def slK (o : Option (List A)) (lo hi : Option Int) (st : Sto) : Res A := match o with
  | some xs => newO (.lst (cutA xs lo hi)) st
  | none => .no
theorem ev_slR {n : Nat} {lo hi : Option Int} : oSl (.ref n) lo hi st = slK (getL st (.ref n)) lo hi st := rfl
theorem ev_slK {lo hi : Option Int} : slK (some xs) lo hi st = newO (.lst (cutA xs lo hi)) st := rfl
theorem ev_tyN : tyA st .non = some "NoneType" := rfl
theorem ev_tyB {c : Bool} : tyA st (.bl c) = some "bool" := rfl
theorem ev_tyI : tyA st (.int i) = some "int" := rfl
theorem ev_tyS : tyA st (.str x) = some "str" := rfl
theorem ev_tyT : tyA st (.tup xs) = some "tuple" := rfl
theorem ev_tyL : tyA st (.lit xs) = some "list" := rfl
def tyR (o : Option AO) : Option String := match o with
  | some (.lst _) => some "list"
  | _ => none
theorem ev_tyR {n : Nat} : tyA st (.ref n) = tyR st[n]? := rfl
theorem ev_tyRL : tyR (some (.lst xs)) = some "list" := rfl
def isiK (o : Option String) (T : String) (st : Sto) : Res A := match o with
  | some t => if T ∈ ["int", "bool", "str", "tuple", "list"] then .ok (.bl (isTy t T)) st else .no
  | none => .no
theorem ev_isi {T : String} : oIsi [a, .ty T] st = isiK (tyA st a) T st := rfl
theorem ev_isi1 {t : String} : isiK (some t) "int" st = .ok (.bl (isTy t "int")) st := by
  unfold isiK
  exact if_pos (by decide)
theorem ev_isi2 {t : String} : isiK (some t) "bool" st = .ok (.bl (isTy t "bool")) st := by
  unfold isiK
  exact if_pos (by decide)
theorem ev_isi3 {t : String} : isiK (some t) "str" st = .ok (.bl (isTy t "str")) st := by
  unfold isiK
  exact if_pos (by decide)
theorem ev_isi4 {t : String} : isiK (some t) "tuple" st = .ok (.bl (isTy t "tuple")) st := by
  unfold isiK
  exact if_pos (by decide)
theorem ev_isi5 {t : String} : isiK (some t) "list" st = .ok (.bl (isTy t "list")) st := by
  unfold isiK
  exact if_pos (by decide)
def isi2K (S T : String) (o : Option String) (s : Sto) : Res A := match o with
  | some t => if S ∈ ["int", "bool", "str", "tuple", "list"] ∧ T ∈ ["int", "bool", "str", "tuple", "list"] then .ok (.bl (isTy t S || isTy t T)) s else .no
  | none => .no
theorem ev_isiT {S T : String} {f : ME} : mIsiT S T f env st = (f env st).bind fun a s => isi2K S T (tyA s a) s := rfl
theorem ev_isi2K {t : String} : isi2K "tuple" "list" (some t) s = .ok (.bl (isTy t "tuple" || isTy t "list")) s := by
  unfold isi2K
  exact if_pos (by decide)
theorem ev_isTy {t T : String} : isTy t T = (t == T || (T == "int" && t == "bool")) := rfl
def listK (o : Option (List A)) (st : Sto) : Res A := match o with
  | some xs => newO (.lst xs) st
  | none => .no
theorem ev_list : oList [a] st = listK (getS st a) st := rfl
theorem ev_listK : listK (some xs) st = newO (.lst xs) st := rfl
def tupK (o : Option (List A)) (st : Sto) : Res A := match o with
  | some xs => .ok (.tup xs) st
  | none => .no
theorem ev_tuple : oTuple [a] st = tupK (getS st a) st := rfl
theorem ev_tupK : tupK (some xs) st = .ok (.tup xs) st := rfl
theorem ev_getST : getS st (.tup xs) = some xs := rfl
theorem ev_getSR {n : Nat} : getS st (.ref n) = getL st (.ref n) := rfl
theorem ev_getSL : getS st (.lit xs) = some xs := rfl
def allK (g : List Bool → Bool) (o : Option (List A)) (st : Sto) : Res A := match o with
  | some xs => lift ((bls xs).map fun bs => A.bl (g bs)) st
  | none => .no
theorem ev_all {g : List Bool → Bool} : oAll g [a] st = allK g (getL st a) st := rfl
theorem ev_allK {g : List Bool → Bool} : allK g (some xs) st = lift ((bls xs).map fun bs => A.bl (g bs)) st := rfl
theorem ev_eqXI : oEqX (.int i) (.int j) st = .ok (.bl (decide (i = j))) st := rfl
theorem ev_eqXS : oEqX (.str x) (.str y) st = .ok (.bl (decide (x = y))) st := rfl
theorem ev_neXI : oNeX (.int i) (.int j) st = .ok (.bl (!decide (i = j))) st := rfl
theorem ev_neXS : oNeX (.str x) (.str y) st = .ok (.bl (!decide (x = y))) st := rfl
theorem ev_neXB {c d : Bool} : oNeX (.bl c) (.bl d) st = .ok (.bl (!decide (c = d))) st := rfl
theorem ev_eqXB {c d : Bool} : oEqX (.bl c) (.bl d) st = .ok (.bl (decide (c = d))) st := rfl
def nil2 (o o' : Option (List A)) : Option Bool := match o, o' with
  | some xs, some [] => some xs.isEmpty
  | _, _ => none
def eqK (o : Option Bool) (a b : A) (st : Sto) : Res A := match o with
  | some c => .ok (.bl c) st
  | none => oEq a b st
def neK (o : Option Bool) (a b : A) (st : Sto) : Res A := match o with
  | some c => .ok (.bl (!c)) st
  | none => oNe a b st
theorem ev_eqXR {n m : Nat} : oEqX (.ref n) (.ref m) st = eqK (nil2 (gL st[n]?) (gL st[m]?)) (.ref n) (.ref m) st := rfl
theorem ev_neXR {n m : Nat} : oNeX (.ref n) (.ref m) st = neK (nil2 (gL st[n]?) (gL st[m]?)) (.ref n) (.ref m) st := rfl
theorem ev_nil2 : nil2 (some xs) (some []) = some xs.isEmpty := rfl
theorem ev_eqK {c : Bool} : eqK (some c) a b st = .ok (.bl c) st := rfl
theorem ev_neK {c : Bool} : neK (some c) a b st = .ok (.bl (!c)) st := rfl
def mth1 (o : Option (Nat × List A)) (k : Res A) : Res A := match o with
  | some _ => k
  | none => .no
def mth3 (o : Option (A × List A)) (n : Nat) (s : Sto) : Res A := match o with
  | some (a, ys) => .ok a (s.set n (.lst ys))
  | none => .no
def mth2 (o : Option (Nat × List A)) (op : List A → List A → Option (A × List A)) (as : List A) (s : Sto) : Res A := match o with
  | some (n, xs) => mth3 (op xs as) n s
  | none => .no
theorem ev_meth {op : List A → List A → Option (A × List A)} {f : ME} {g : MA} : mMeth op f g env st = (f env st).bind fun x s1 => mth1 (getM s1 x) ((g env s1).bind fun as s2 => mth2 (getM s2 x) op as s2) := by
  unfold mMeth
  congr 1
  funext x s1
  unfold mth1
  split <;> rename_i h
  · rw [h]
  · rw [h]
    first | rfl | congr 1
theorem ev_meth0 {op : List A → List A → Option (A × List A)} {f : ME} : mMeth0 op f env st = (f env st).bind fun x s1 => mth1 (getM s1 x) (mth2 (getM s1 x) op [] s1) := by
  unfold mMeth0
  rw [ev_meth]
  rfl
theorem ev_mth1 {q : Nat × List A} {k : Res A} : mth1 (some q) k = k := rfl
theorem ev_mth2 {n : Nat} {op : List A → List A → Option (A × List A)} {as : List A} : mth2 (some (n, xs)) op as s = mth3 (op xs as) n s := rfl
theorem ev_mth3 {n : Nat} : mth3 (some (a, ys)) n s = .ok a (s.set n (.lst ys)) := rfl
theorem ev_append : oAppend xs [a] = if xs.length < sizeLine then some (.non, xs ++ [a]) else none := rfl
def m0K (g : Str → Option A) (a : A) (s : Sto) : Res A := match a with
  | .str z => lift (g z) s
  | _ => .no
theorem ev_m0 {g : Str → Option A} {f : ME} : mM0 g f env st = (f env st).bind (m0K g) := rfl
theorem ev_m0K {g : Str → Option A} : m0K g (.str x) s = lift (g x) s := rfl
theorem ev_str : oStr [.int i] st = if i.natAbs.log2 < 1920 then .ok (.str (toString i)) st else .no := rfl
theorem ev_for {mi : MI} {g : MG} {b : MS} : sFor mi g b env st = (mi env st).thenS env fun xo s => forL xo.2 g b xo.1 env s := rfl
def okT : Sto → Prop := fun _ => True
def rg1K (as : List A) (s : Sto) : Res (List A × (Sto → Prop)) := match as with
  | [.int j] => if -(2 ^ 62) ≤ j ∧ j < 2 ^ 62 then .ok (rngA 0 j.toNat, okT) s else .no
  | _ => .no
theorem ev_miR1 {f : MA} : miR1 f env st = (f env st).bind rg1K := rfl
theorem ev_rg1K : rg1K [.int j] s = if -(2 ^ 62) ≤ j ∧ j < 2 ^ 62 then .ok (rngA 0 j.toNat, okT) s else .no := rfl
def okL (a : A) (xs : List A) : Sto → Prop := fun s' => getL s' a = some xs
def liK (a : A) (o : Option (List A)) (s : Sto) : Res (List A × (Sto → Prop)) := match o with
  | some xs => .ok (xs, fun s' => getL s' a = some xs) s
  | none => .no
theorem ev_miL {f : ME} : miL f env st = (f env st).bind fun a s => liK a (getL s a) s := rfl
theorem ev_liK : liK a (some xs) s = .ok (xs, okL a xs) s := rfl
def tiK (a : A) (s : Sto) : Res (List A × (Sto → Prop)) := match a with
  | .tup xs => .ok (xs, fun _ => True) s
  | _ => .no
theorem ev_miT {f : ME} : miT f env st = (f env st).bind tiK := rfl
theorem ev_tiK : tiK (.tup xs) s = .ok (xs, okT) s := rfl
theorem ev_lc {mi : MI} {g : MG} {tt : MT} {te : ME} {vs : List Nat} : mLc mi g tt te vs env st = (mi env st).bind fun xo s => lcL s.length xo.2 g tt te (wipeA env vs) xo.1 (s ++ [.lst []]) := rfl
theorem ev_wipe0 : wipeA env [] = env := rfl
theorem ev_wipeS {v : Nat} {vs : List Nat} : wipeA env (v :: vs) = (wipeA env vs).set v none := rfl
theorem ev_yes : mYes env st = .ok true st := rfl
theorem ev_lenSet {f : ME} : mLenSet f env st = (f env st).bind fun a s => lenSetK ((getL s a).bind intsOf) s := rfl
theorem ev_lenSetK {ns : List Int} : lenSetK (some ns) s = if ns.length ≤ 4000 then .ok (.int ((ddup ns).length : Nat)) s else .no := rfl
def lrK (a : A) (s : Sto) : Res A := match a with
  | .int n => if 0 ≤ n ∧ n ≤ 1000 then newO (.lst (rngA 0 n.toNat)) s else .no
  | _ => .no
theorem ev_listR {f : ME} : mListR f env st = (f env st).bind lrK := rfl
theorem ev_lrK : lrK (.int i) s = if 0 ≤ i ∧ i ≤ 1000 then newO (.lst (rngA 0 i.toNat)) s else .no := rfl
def pt1 (y : A) (m : Option (Nat × List A)) (a : A) (s : Sto) : Option Sto := match y, m with
  | .int k, some (n, xs) => (ixN xs.length k).map fun j => s.set n (.lst (xs.set j a))
  | _, _ => none
def p2K (o' i' : ME) (env : AEnv) (a2 : A) (r : Option Sto) : RF := match r with
  | some s3 => (o' env s3).thenS env fun x' s4 => (i' env s4).thenS env fun y' s5 => match put1 x' y' a2 s5 with
    | some s6 => .fl (.nx env) s6
    | none => .no
  | none => .no
def p2A (o i o' i' : ME) (env : AEnv) (a : A) (s0 : Sto) : RF := match a with
  | .tup [a1, a2] => (o env s0).thenS env fun x s1 => (i env s1).thenS env fun y s2 => p2K o' i' env a2 (put1 x y a1 s2)
  | _ => .no
def p2E (r : Option Sto) (env : AEnv) : RF := match r with
  | some s6 => .fl (.nx env) s6
  | none => .no
theorem ev_put2 {f o i o' i' : ME} : sPut2 f o i o' i' env st = (f env st).thenS env fun a s0 => p2A o i o' i' env a s0 := rfl
theorem ev_p2A {o i o' i' : ME} {a1 a2 : A} : p2A o i o' i' env (.tup [a1, a2]) s = (o env s).thenS env fun x s1 => (i env s1).thenS env fun y s2 => p2K o' i' env a2 (put1 x y a1 s2) := rfl
theorem ev_p2K {o' i' : ME} {a2 : A} : p2K o' i' env a2 (some s) = (o' env s).thenS env fun x' s4 => (i' env s4).thenS env fun y' s5 => p2E (put1 x' y' a2 s5) env := rfl
theorem ev_p2E : p2E (some s) env = .fl (.nx env) s := rfl
theorem ev_put1 {n : Nat} : put1 (.ref n) (.int j) a s = pt1 (.int j) (gM n s[n]?) a s := rfl
theorem ev_pt1 {n k : Nat} (h : ixN xs.length j = some k) : pt1 (.int j) (some (n, xs)) a s = some (s.set n (.lst (xs.set k a))) := by
  unfold pt1
  simp only [h]
  rfl
end

def rTupOf (K : PySem.W.Frag) : RL := fun xs H Q => ∃ p ys, xs = [.ref p] ∧ ((SqL K H p ys ∧ ∀ l, H l = none → Q (.ref l) (upd H l (.tup ys))) ∨ SqT K H p ys ∧ Q (.ref p) H)
def rListOf (K : PySem.W.Frag) : RL := fun xs H Q => ∃ p ys, xs = [.ref p] ∧ (SqL K H p ys ∨ SqT K H p ys) ∧ ∀ l, H l = none → Q (.ref l) (upd H l (.lst ys))
/-! ### mirrors: truths among numbers -/
section
variable {w : World} {W : WishX} {X : Cx}
def isBl : A → Bool
  | .bl _ => true
  | _ => false
def rBI (g : Int → Int → Int) : R2 := fun x y H Q => ∃ k j, x = .bl k ∧ y = .int j ∧ Q (.int (g (b2i k) j)) H
def oBI (g : Int → Int → Int) : A → A → Sto → Res A := fun a b st => match a, b with
  | .bl k, .int j => .ok (.int (g (b2i k) j)) st
  | _, _ => .no
theorem r2_BI {g : Int → Int → Int} : R2ok K w (rBI g) (oBI g) := fun ρ H st x y a b Q X rel ra rb p => by
  unfold oBI at p
  split at p
  · cases ra
    cases rb
    exact ⟨_, _, rfl, rfl, p.give rel (.int _)⟩
  · exact p.elim
theorem opB_add : OpR X (binaryOp .Add) (rBI fun i j => i + j) := by
  intro pins s σ H x y v u Q I rx ry h
  obtain ⟨k, j, rfl, rfl, q⟩ := h
  obtain rfl : v = Value.bool k := rx
  obtain ⟨t, rfl⟩ := ry
  exact PySem.IntBool.add_bool_int ⟨.int (b2i k + j), H, I.tok _, ⟨_, rfl⟩, q⟩
theorem opB_sub : OpR X (binaryOp .Sub) (rBI fun i j => i - j) := by
  intro pins s σ H x y v u Q I rx ry h
  obtain ⟨k, j, rfl, rfl, q⟩ := h
  obtain rfl : v = Value.bool k := rx
  obtain ⟨t, rfl⟩ := ry
  exact PySem.IntBool.sub_bool_int ⟨.int (b2i k - j), H, I.tok _, ⟨_, rfl⟩, q⟩
theorem opB_mul : OpR X (binaryOp .Mult) (rBI fun i j => i * j) := by
  intro pins s σ H x y v u Q I rx ry h
  obtain ⟨k, j, rfl, rfl, q⟩ := h
  obtain rfl : v = Value.bool k := rx
  obtain ⟨t, rfl⟩ := ry
  exact PySem.IntBool.mul_bool_int ⟨.int (b2i k * j), H, I.tok _, ⟨_, rfl⟩, q⟩
def rAddX (K : PySem.W.Frag) : R2 := rOr (rBI fun i j => i + j) (rAddD K)
theorem dAddX : OpR X (binaryOp .Add) (rAddX X.K) := OpR.or opB_add dAdd
def oAddX : A → A → Sto → Res A := oOr (fun a _ => isBl a) (oBI fun i j => i + j) oAdd
theorem r2_addX : R2ok K w (rAddX K) oAddX := r2_or r2_BI r2_add
def rSubX : R2 := rOr (rBI fun i j => i - j) rSubD
theorem dSubX : OpR X (binaryOp .Sub) rSubX := OpR.or opB_sub dSub
def oSubX : A → A → Sto → Res A := oOr (fun a _ => isBl a) (oBI fun i j => i - j) oSub
theorem r2_subX : R2ok K w rSubX oSubX := r2_or r2_BI r2_sub
def rMulX : R2 := rOr (rBI fun i j => i * j) rMulD
theorem dMulX : OpR X (binaryOp .Mult) rMulX := OpR.or opB_mul dMul
def oMulX : A → A → Sto → Res A := oOr (fun a _ => isBl a) (oBI fun i j => i * j) oMul
theorem r2_mulX : R2ok K w rMulX oMulX := r2_or r2_BI r2_mul
def rNegX : V → Hp → VK → Prop := fun x H Q => (∃ i, x = .int i ∧ Q (.int (-i)) H) ∨ ∃ k, x = .bl k ∧ Q (.int (-(b2i k))) H
theorem un_negX : UnR X (unaryOp .USub) rNegX := by
  intro pins s σ H x v Q I rx h
  rcases h with ⟨i, rfl, q⟩ | ⟨k, rfl, q⟩
  · exact un_neg pins s σ H _ v Q I rx ⟨i, rfl, q⟩
  · obtain rfl : v = Value.bool k := rx
    exact unaryOp_gives (op := .USub) (typeIs_bool' s k) rfl F.slot_bool_neg F.entry_int_neg (F.args_int_neg_1 _) (show Gives (Builtin.«int.__neg__» ⟨[.bool k], []⟩) (.int (-(b2i k))) from .of_eq rfl) ⟨.int (-(b2i k)), H, I.tok _, ⟨_, rfl⟩, q⟩
def oNegX : A → Sto → Res A := fun a st => match a with
  | .int i => .ok (.int (-i)) st
  | .bl k => .ok (.int (-(b2i k))) st
  | _ => .no
theorem r1_negX : R1ok K w rNegX oNegX := fun ρ H st x a Q X rel ra p => by
  unfold oNegX at p
  split at p
  · cases ra
    exact .inl ⟨_, rfl, p.give rel (.int _)⟩
  · cases ra
    exact .inr ⟨_, rfl, p.give rel (.int _)⟩
  · exact p.elim
def blS (k : Bool) : Str := if k then "True" else "False"
def rStrX : RL := lOr (fun xs H Q => ∃ i, xs = [.int i] ∧ i.natAbs.log2 < 1920 ∧ Q (.str (toString i)) H) (fun xs H Q => ∃ k, xs = [.bl k] ∧ Q (.str (blS k)) H)
theorem call_strX : CallR X (.type "str") rStrX := CallR.or call_str_int (by
  intro pins s σ H xs us Q I r h
  obtain ⟨k, rfl, q⟩ := h
  obtain ⟨u, rfl, ru⟩ := vals1 r
  obtain rfl : u = Value.bool k := ru
  exact PySem.P.str_of_bool ⟨.str (blS k), H, I.tok _, ⟨_, by cases k <;> rfl⟩, q⟩)
def oStrX : List A → Sto → Res A := fun as st => match as with
  | [.int i] => if i.natAbs.log2 < 1920 then .ok (.str (toString i)) st else .no
  | [.bl k] => .ok (.str (blS k)) st
  | _ => .no
theorem rl_strX : RLok K w rStrX oStrX := fun ρ H st vs as Q X rel rv p => by
  unfold oStrX at p
  split at p
  · obtain ⟨v, rfl, h⟩ := rvs1 rv
    cases h
    split at p
    · rename_i hl
      exact .inl ⟨_, rfl, hl, p.give rel (.str _)⟩
    · exact p.elim
  · obtain ⟨v, rfl, h⟩ := rvs1 rv
    cases h
    exact .inr ⟨_, rfl, p.give rel (.str _)⟩
  · exact p.elim
end
section
variable {a b : A} {st : Sto} {i j : Int} {x y : Str} {xs ys : List A} {c : Bool}
theorem ev_addXI : oAddX (.int i) (.int j) st = .ok (.int (i + j)) st := rfl
theorem ev_addXB : oAddX (.bl c) (.int j) st = .ok (.int (b2i c + j)) st := rfl
theorem ev_addXS : oAddX (.str x) (.str y) st = if decide (x.length + y.length ≤ sizeLine) = true then .ok (.str (x ++ y)) st else .no := rfl
theorem ev_addXT : oAddX (.tup xs) (.tup ys) st = if xs.length + ys.length ≤ sizeLine then .ok (.tup (xs ++ ys)) st else .no := rfl
theorem ev_addXL {n : Nat} : oAddX (.ref n) b st = catO (getM st (.ref n)) (getM st b) st := rfl
theorem ev_subXI : oSubX (.int i) (.int j) st = .ok (.int (i - j)) st := rfl
theorem ev_subXB : oSubX (.bl c) (.int j) st = .ok (.int (b2i c - j)) st := rfl
theorem ev_mulXI : oMulX (.int i) (.int j) st = if cMul i j = true then .ok (.int (i * j)) st else .no := rfl
theorem ev_mulXB : oMulX (.bl c) (.int j) st = .ok (.int (b2i c * j)) st := rfl
def repK (m : Option (Nat × List A)) (b : A) (st : Sto) : Res A := match m, b with
  | some (_, xs), .int k => if -(2 ^ 63) ≤ k ∧ k < 2 ^ 63 ∧ xs.length * k.toNat ≤ sizeLine then newO (.lst (List.replicate k.toNat xs).flatten) st else .no
  | _, _ => .no
theorem ev_mulXL {n : Nat} : oMulX (.ref n) b st = repK (getM st (.ref n)) b st := rfl
theorem ev_negXI : oNegX (.int i) st = .ok (.int (-i)) st := rfl
theorem ev_negXB : oNegX (.bl c) st = .ok (.int (-(b2i c))) st := rfl
theorem ev_strXI : oStrX [.int i] st = if i.natAbs.log2 < 1920 then .ok (.str (toString i)) st else .no := rfl
theorem ev_strXB : oStrX [.bl c] st = .ok (.str (blS c)) st := rfl
end

theorem hu1 {A : Around} {k : Nat} (hr : Room k A) : A.units + 1 < cLine := by
  have := hu65 hr
  omega
/-! ### mirrors: dicts whose keys are texts or numbers -/
section
variable {w : World} {W : WishX} {X : Cx}
def keyA : A → Option Key
  | .int i => some (.inl i)
  | .str x => some (.inr x)
  | _ => none
theorem key_is {H : Hp} {ρ : List Addr} {v : V} {a : A} {k : Key} (h : Rv K H ρ v a) (e : keyA a = some k) : v = kV k := by
  cases h <;> cases e <;> rfl
variable {κ : Type} [DecidableEq κ]
def valA (kvs : List (κ × A)) (k : κ) : Option A := (kvs.find? fun kv => decide (kv.1 = k)).map (·.2)
def putA (kvs : List (κ × A)) (k : κ) (v : A) : List (κ × A) :=
  if (kvs.any fun kv => decide (kv.1 = k)) = true then kvs.map (fun kv => if kv.1 = k then (kv.1, v) else kv) else kvs ++ [(k, v)]
def dropA (kvs : List (κ × A)) (k : κ) : List (κ × A) := kvs.filter fun kv => decide (kv.1 ≠ k)
theorem valA_is {H : Hp} {ρ : List Addr} {k : κ} : ∀ {kv : List (κ × V)} {kvs : List (κ × A)}, Rkv K H ρ kv kvs → (valA kvs k = none → valV kv k = none) ∧ ∀ a, valA kvs k = some a → ∃ v, valV kv k = some v ∧ Rv K H ρ v a
  | _, _, .nil => ⟨fun _ => rfl, fun a e => by cases e⟩
  | (k1, v1) :: kv, (k2, a2) :: kvs, .cons h hs => by
    obtain ⟨e1, e2⟩ := h
    cases (e1 : k1 = k2)
    by_cases hk : k1 = k
    · have ea : valA ((k1, a2) :: kvs) k = some a2 := by simp [valA, List.find?_cons, hk]
      refine ⟨fun z => ?_, fun a z => ?_⟩
      · rw [ea] at z
        cases z
      · rw [ea] at z
        cases z
        exact ⟨v1, valV_pos hk, e2⟩
    · have ea : valA ((k1, a2) :: kvs) k = valA kvs k := by simp [valA, List.find?_cons, hk]
      rw [ea, valV_neg hk]
      exact valA_is hs
theorem any_is {H : Hp} {ρ : List Addr} {k : κ} : ∀ {kv : List (κ × V)} {kvs : List (κ × A)}, Rkv K H ρ kv kvs → (kv.any fun q => decide (q.1 = k)) = (kvs.any fun q => decide (q.1 = k))
  | _, _, .nil => rfl
  | _ :: _, _ :: _, .cons h hs => by rw [List.any_cons, List.any_cons, any_is hs, h.1]
theorem map_is {H : Hp} {ρ : List Addr} {k : κ} {v : V} {a : A} (r : Rv K H ρ v a) : ∀ {kv : List (κ × V)} {kvs : List (κ × A)}, Rkv K H ρ kv kvs → Rkv K H ρ (kv.map fun q => if q.1 = k then (q.1, v) else q) (kvs.map fun q => if q.1 = k then (q.1, a) else q)
  | _, _, .nil => .nil
  | p :: _, q :: _, .cons h hs => by
    refine .cons ?_ (map_is r hs)
    show (if p.1 = k then (p.1, v) else p).1 = (if q.1 = k then (q.1, a) else q).1 ∧ Rv K H ρ (if p.1 = k then (p.1, v) else p).2 (if q.1 = k then (q.1, a) else q).2
    by_cases hk : p.1 = k
    · rw [if_pos hk, if_pos (h.1 ▸ hk)]
      exact ⟨h.1, r⟩
    · rw [if_neg hk, if_neg (h.1 ▸ hk)]
      exact h
theorem app_is {H : Hp} {ρ : List Addr} {k : κ} {v : V} {a : A} (r : Rv K H ρ v a) : ∀ {kv : List (κ × V)} {kvs : List (κ × A)}, Rkv K H ρ kv kvs → Rkv K H ρ (kv ++ [(k, v)]) (kvs ++ [(k, a)])
  | _, _, .nil => .cons ⟨rfl, r⟩ .nil
  | _ :: _, _ :: _, .cons h hs => .cons h (app_is r hs)
theorem putA_is {H : Hp} {ρ : List Addr} {k : κ} {v : V} {a : A} {kv : List (κ × V)} {kvs : List (κ × A)} (r : Rv K H ρ v a) (h : Rkv K H ρ kv kvs) : Rkv K H ρ (putK kv k v) (putA kvs k a) := by
  unfold putK putA
  rw [any_is h]
  split
  · exact map_is r h
  · exact app_is r h
theorem dropA_is {H : Hp} {ρ : List Addr} {k : κ} : ∀ {kv : List (κ × V)} {kvs : List (κ × A)}, Rkv K H ρ kv kvs → Rkv K H ρ (dropK kv k) (dropA kvs k)
  | _, _, .nil => .nil
  | p :: kv, q :: kvs, .cons h hs => by
    have ih := dropA_is (k := k) hs
    unfold dropK dropA at ih ⊢
    rw [List.filter_cons, List.filter_cons, h.1]
    split
    · exact .cons h ih
    · exact ih
theorem kv_len {H : Hp} {ρ : List Addr} : ∀ {kv : List (κ × V)} {kvs : List (κ × A)}, Rkv K H ρ kv kvs → kv.length = kvs.length
  | _, _, .nil => rfl
  | _ :: _, _ :: _, .cons _ hs => by rw [List.length_cons, List.length_cons, kv_len hs]
/-- the dict that a value tells -/
def gD (n : Nat) (o : Option AO) : Option (Nat × List (Key × A)) := match o with
  | some (.dK kvs) => some (n, kvs)
  | _ => none
def getD (st : Sto) : A → Option (Nat × List (Key × A))
  | .ref n => gD n st[n]?
  | _ => none
theorem getD_is {ρ : List Addr} {H : Hp} {st : Sto} {v : V} {a : A} {n : Nat} {kvs : List (Key × A)} (rel : Rel K w ρ H st) (h : Rv K H ρ v a) (e : getD st a = some (n, kvs)) : ∃ p kv, v = .ref p ∧ ρ[n]? = some p ∧ H p = some (.dK kv) ∧ Rkv K H ρ kv kvs := by
  cases h with
  | ref h =>
    rename_i m p
    have e : gD m st[m]? = some (n, kvs) := e
    unfold gD at e
    split at e
    · rename_i kvs' e'
      cases e
      obtain ⟨kv, h1, h2⟩ := rel.get h e'
      exact ⟨_, kv, rfl, h, h1, h2⟩
    · cases e
  | _ => cases e
/-! {}, d[k], k in d, d[k] = v, d.get(k, x), d.pop(k, x) -/
def mDNew : ME := fun _ st => newO (.dK []) st
theorem re_dnew : RE K w W tDNewK mDNew := fun ρ H st σ env Q rel re p q nq => by
  obtain ⟨e, r⟩ := rel.new (o := .dK []) (u := .dK []) nq fun H' e' h' => ⟨[], h', .nil⟩
  exact p.giveAt e r (.ref (rel.last q))
def dgK (o : Option (Nat × List (Key × A))) (k : Option Key) (s : Sto) : Res A := match o, k with
  | some (_, kvs), some k => lift (valA kvs k) s
  | _, _ => .no
def mDGet (f g : ME) : ME := fun env st => (f env st).bind fun x s1 => (g env s1).bind fun y s2 => dgK (getD s2 x) (keyA y) s2
theorem re_dget {td ty : TE} {f g : ME} (hf : RE K w W td f) (hg : RE K w W ty g) : RE K w W (tDGet td ty) (mDGet f g) := fun ρ H st σ env Q rel re p =>
  hf.use rel re p fun a s1 ρ1 H1 x e1 r1 v1 p1 => hg.use r1 (re.ext e1) p1 fun b s2 ρ2 H2 y e2 r2 v2 p2 => by
    unfold dgK at p2
    split at p2
    · rename_i n kvs k em ek
      obtain ⟨q, kv, rfl, hq, h1, h2⟩ := getD_is r2 (rv_ext e2 v1) em
      cases ev : valA kvs k with
      | none =>
        rw [ev] at p2
        exact p2.elim
      | some c =>
        rw [ev] at p2
        obtain ⟨v, e3, r3⟩ := (valA_is h2).2 c ev
        cases key_is v2 ek
        exact ⟨q, v, rfl, e3 ▸ DGet.k h1, p2.give r2 r3⟩
    · exact p2.elim
def diK (neg : Bool) (o : Option (Nat × List (Key × A))) (k : Option Key) (s : Sto) : Res A := match o, k with
  | some (_, kvs), some k => .ok (.bl ((valA kvs k).isSome != neg)) s
  | _, _ => .no
def mDIn (neg : Bool) (f g : ME) : ME := fun env st => (f env st).bind fun y s1 => (g env s1).bind fun x s2 => diK neg (getD s2 x) (keyA y) s2
theorem isSome_is {H : Hp} {ρ : List Addr} {k : κ} {kv : List (κ × V)} {kvs : List (κ × A)} (h : Rkv K H ρ kv kvs) : (valV kv k).isSome = (valA kvs k).isSome := by
  cases e : valA kvs k with
  | none => rw [(valA_is h).1 e]; rfl
  | some c =>
    obtain ⟨v, e3, _⟩ := (valA_is h).2 c e
    rw [e3]
    rfl
theorem re_din {ty td : TE} {f g : ME} (hf : RE K w W ty f) (hg : RE K w W td g) : RE K w W (tDIn ty td) (mDIn false f g) := fun ρ H st σ env Q rel re p =>
  hf.use rel re p fun a s1 ρ1 H1 x e1 r1 v1 p1 => hg.use r1 (re.ext e1) p1 fun b s2 ρ2 H2 y e2 r2 v2 p2 => by
    unfold diK at p2
    split at p2
    · rename_i n kvs k em ek
      obtain ⟨q, kv, rfl, hq, h1, h2⟩ := getD_is r2 v2 em
      cases key_is v1 ek
      exact ⟨q, valV kv k, rfl, DGet.k h1, by
        rw [isSome_is h2]
        have := p2.give r2 (.bl _)
        rw [Bool.bne_false] at this
        exact this⟩
    · exact p2.elim
theorem re_dnotin {ty td : TE} {f g : ME} (hf : RE K w W ty f) (hg : RE K w W td g) : RE K w W (tDNotIn ty td) (mDIn true f g) := fun ρ H st σ env Q rel re p =>
  hf.use rel re p fun a s1 ρ1 H1 x e1 r1 v1 p1 => hg.use r1 (re.ext e1) p1 fun b s2 ρ2 H2 y e2 r2 v2 p2 => by
    unfold diK at p2
    split at p2
    · rename_i n kvs k em ek
      obtain ⟨q, kv, rfl, hq, h1, h2⟩ := getD_is r2 v2 em
      cases key_is v1 ek
      exact ⟨q, valV kv k, rfl, DGet.k h1, by
        rw [isSome_is h2]
        have := p2.give r2 (.bl _)
        rw [Bool.bne_true] at this
        exact this⟩
    · exact p2.elim
def dpK (o : Option (Nat × List (Key × A))) (k : Option Key) (v : A) (env : AEnv) (s : Sto) : RF := match o, k with
  | some (n, kvs), some k => if kvs.length < sizeLine then .fl (.nx env) (s.set n (.dK (putA kvs k v))) else .no
  | _, _ => .no
def sDPutM (f g h : ME) : MS := fun env st => (h env st).thenS env fun v s1 => (f env s1).thenS env fun x s2 => (g env s2).thenS env fun y s3 => dpK (getD s3 x) (keyA y) v env s3
theorem rs_dput {td ty tv : TE} {f g h : ME} (hf : RE K w W td f) (hg : RE K w W ty g) (hh : RE K w W tv h) : RS K w W (sDPut td ty tv) (sDPutM f g h) := fun ρ H st σ env D rel re p =>
  hh.useS rel re p fun a s1 ρ1 H1 x e1 r1 v1 p1 => hf.useS r1 (re.ext e1) p1 fun b s2 ρ2 H2 y e2 r2 v2 p2 => hg.useS r2 (re.ext (e1.trans e2)) p2 fun c s3 ρ3 H3 z e3 r3 v3 p3 => by
    unfold dpK at p3
    split at p3
    · rename_i n kvs k em ek
      obtain ⟨q, kv, rfl, hq, h1, h2⟩ := getD_is r3 (rv_ext e3 v2) em
      cases key_is v3 ek
      split at p3
      · rename_i hl
        have hv := rv_ext (e2.trans e3) v1
        obtain ⟨e4, r4⟩ := r3.put (o := .dK (putA kvs k a)) (u := .dK (putK kv k x)) hq fun H' e' h' => ⟨_, h', rkv_ext e' (putA_is hv h2)⟩
        exact ⟨q, _, rfl, DPut.k h1 (by rw [kv_len h2]; exact hl), p3 ρ3 _ σ e4 r4 (re.ext (e1.trans (e2.trans (e3.trans e4))))⟩
      · exact p3.elim
    · exact p3.elim
def oD : AO → Bool
  | .dK _ => true
  | _ => false
def isDA (st : Sto) (a : A) : Bool := (getD st a).isSome
theorem isD_is {ρ : List Addr} {H : Hp} {st : Sto} {v : V} {a : A} (rel : Rel K w ρ H st) (h : Rv K H ρ v a) (e : isDA st a = true) : ∃ p, v = .ref p ∧ IsD H p := by
  unfold isDA at e
  obtain ⟨⟨n, kvs⟩, e⟩ := Option.isSome_iff_exists.mp e
  obtain ⟨p, kv, rfl, _, h1, _⟩ := getD_is rel h e
  exact ⟨p, rfl, .inl ⟨kv, .inl h1⟩⟩
def dg2K (o : Option (Nat × List (Key × A))) (k : Option Key) (z : A) (s : Sto) : Res A := match o, k with
  | some (_, kvs), some k => .ok ((valA kvs k).getD z) s
  | _, _ => .no
/-- d.get(k, x); d.get(k) with None for x -/
def mDGet2 (f g h : ME) : ME := fun env st => (f env st).bind fun x s1 => if isDA s1 x = true then (g env s1).bind fun y s2 => (h env s2).bind fun z s3 => dg2K (getD s3 x) (keyA y) z s3 else .no
theorem re_dget2 {td ty tx : TE} {f g h : ME} (hf : RE K w W td f) (hg : RE K w W ty g) (hh : RE K w W tx h) : RE K w W (tDGet2 td ty tx) (mDGet2 f g h) := fun ρ H st σ env Q rel re p =>
  hf.use rel re p fun a s1 ρ1 H1 x e1 r1 v1 p1 => by
    split at p1
    · rename_i hd
      obtain ⟨q, rfl, hq⟩ := isD_is r1 v1 hd
      refine ⟨q, rfl, hq, hg.use r1 (re.ext e1) p1 fun b s2 ρ2 H2 y e2 r2 v2 p2 => hh.use r2 (re.ext (e1.trans e2)) p2 fun c s3 ρ3 H3 z e3 r3 v3 p3 => ?_⟩
      unfold dg2K at p3
      split at p3
      · rename_i n kvs k em ek
        obtain ⟨q', kv, eq, hq', h1, h2⟩ := getD_is r3 (rv_ext (e2.trans e3) v1) em
        cases eq
        cases key_is v2 ek
        refine ⟨valV kv k, DGet.k h1, ?_⟩
        cases ev : valA kvs k with
        | none =>
          rw [ev] at p3
          rw [(valA_is h2).1 ev]
          exact p3.give r3 v3
        | some d =>
          rw [ev] at p3
          obtain ⟨v, e4, r4⟩ := (valA_is h2).2 d ev
          rw [e4]
          exact p3.give r3 r4
      · exact p3.elim
    · exact p1.elim
theorem re_dget1 {td ty : TE} {f g : ME} (hf : RE K w W td f) (hg : RE K w W ty g) : RE K w W (tDGet1 td ty) (mDGet2 f g (mC .non)) := fun ρ H st σ env Q rel re p =>
  hf.use rel re p fun a s1 ρ1 H1 x e1 r1 v1 p1 => by
    split at p1
    · rename_i hd
      obtain ⟨q, rfl, hq⟩ := isD_is r1 v1 hd
      refine ⟨q, rfl, hq, hg.use r1 (re.ext e1) p1 fun b s2 ρ2 H2 y e2 r2 v2 p3 => ?_⟩
      have p3 : Post K w ρ2 H2 (dg2K (getD s2 a) (keyA b) .non s2) _ _ := p3
      unfold dg2K at p3
      split at p3
      · rename_i n kvs k em ek
        obtain ⟨q', kv, eq, hq', h1, h2⟩ := getD_is r2 (rv_ext e2 v1) em
        cases eq
        cases key_is v2 ek
        refine ⟨valV kv k, DGet.k h1, ?_⟩
        cases ev : valA kvs k with
        | none =>
          rw [ev] at p3
          rw [(valA_is h2).1 ev]
          exact p3.give r2 .non
        | some d =>
          rw [ev] at p3
          obtain ⟨v, e4, r4⟩ := (valA_is h2).2 d ev
          rw [e4]
          exact p3.give r2 r4
      · exact p3.elim
    · exact p1.elim
def dp2K (o : Option (Nat × List (Key × A))) (k : Option Key) (z : A) (s : Sto) : Res A := match o, k with
  | some (n, kvs), some k => match valA kvs k with
    | some v => .ok v (s.set n (.dK (dropA kvs k)))
    | none => .ok z s
  | _, _ => .no
/-- d.pop(k, x) -/
def mDPop2 (f g h : ME) : ME := fun env st => (f env st).bind fun x s1 => if isDA s1 x = true then (g env s1).bind fun y s2 => (h env s2).bind fun z s3 => dp2K (getD s3 x) (keyA y) z s3 else .no
theorem re_dpop2 {td ty tx : TE} {f g h : ME} (hf : RE K w W td f) (hg : RE K w W ty g) (hh : RE K w W tx h) : RE K w W (tDPop2 td ty tx) (mDPop2 f g h) := fun ρ H st σ env Q rel re p =>
  hf.use rel re p fun a s1 ρ1 H1 x e1 r1 v1 p1 => by
    split at p1
    · rename_i hd
      obtain ⟨q, rfl, hq⟩ := isD_is r1 v1 hd
      refine ⟨q, rfl, hq, hg.use r1 (re.ext e1) p1 fun b s2 ρ2 H2 y e2 r2 v2 p2 => hh.use r2 (re.ext (e1.trans e2)) p2 fun c s3 ρ3 H3 z e3 r3 v3 p3 => ?_⟩
      unfold dp2K at p3
      split at p3
      · rename_i n kvs k em ek
        obtain ⟨q', kv, eq, hq', h1, h2⟩ := getD_is r3 (rv_ext (e2.trans e3) v1) em
        cases eq
        cases key_is v2 ek
        refine ⟨kv, k, h1, rfl, fun v ev => ?_, fun ev => ?_⟩
        · cases ea : valA kvs k with
          | none =>
            rw [(valA_is h2).1 ea] at ev
            cases ev
          | some d =>
            rw [ea] at p3
            obtain ⟨v', e4, r4⟩ := (valA_is h2).2 d ea
            rw [e4] at ev
            cases ev
            obtain ⟨e5, r5⟩ := r3.put (o := .dK (dropA kvs k)) (u := .dK (dropK kv k)) hq' fun H' e' h' => ⟨_, h', rkv_ext e' (dropA_is h2)⟩
            exact p3.giveAt e5 r5 (rv_ext e5 r4)
        · cases ea : valA kvs k with
          | none =>
            rw [ea] at p3
            exact p3.give r3 v3
          | some d =>
            obtain ⟨v', e4, r4⟩ := (valA_is h2).2 d ea
            rw [e4] at ev
            cases ev
      · exact p3.elim
    · exact p1.elim
end

/-! ### mirrors: sorted() of texts or numbers, of a list or a dict's keys -/
section
variable {w : World} {W : WishX} {X : Cx}
def leS (x y : Str) : Bool := !decide (y.cps.toList < x.cps.toList)
theorem leS_iff {x y : Str} : leS x y = true ↔ x.cps.toList ≤ y.cps.toList := by
  unfold leS
  rw [Bool.not_eq_true', decide_eq_false_iff_not]
  exact Iff.rfl
theorem leS_trans (x y z : Str) (h : leS x y = true) (g : leS y z = true) : leS x z = true := leS_iff.mpr (List.le_trans (leS_iff.mp h) (leS_iff.mp g))
theorem leS_total (x y : Str) : (leS x y || leS y x) = true := by
  rw [Bool.or_eq_true, leS_iff, leS_iff]
  exact List.le_total ..
theorem leS_anti {x y : Str} (h : leS x y = true) (g : leS y x = true) : x = y := by
  have := List.le_antisymm (leS_iff.mp h) (leS_iff.mp g)
  cases x
  cases y
  simp only at this
  rw [Array.toList_inj.mp this]
theorem rising_all : ∀ {r : List Str} {p : Str}, risingS p r = true → (p :: r).Pairwise (fun x y => leS x y = true)
  | [], p, _ => List.pairwise_cons.mpr ⟨(fun _ h => nomatch h), List.Pairwise.nil⟩
  | x :: r, p, h => by
    unfold risingS at h
    rw [Bool.and_eq_true, ltCps_eq] at h
    have ih := rising_all h.2
    refine List.pairwise_cons.mpr ⟨fun y hy => ?_, ih⟩
    have h1 : leS p x = true := h.1
    rcases List.mem_cons.mp hy with rfl | hy
    · exact h1
    · exact leS_trans _ _ _ h1 ((List.pairwise_cons.mp ih).1 y hy)
def sortS (xs : List Str) : List Str := xs.mergeSort leS
theorem sortS_is {xs ys : List Str} (hp : ys.Perm xs) (h : sortedS ys = true) : ys = sortS xs := by
  refine List.Perm.eq_of_pairwise (le := fun x y => leS x y = true) (fun a b _ _ h g => leS_anti h g) ?_ (List.pairwise_mergeSort leS_trans leS_total xs) (hp.trans (List.mergeSort_perm xs leS).symm)
  cases ys with
  | nil => exact .nil
  | cons y r => exact rising_all h
def leI (i j : Int) : Bool := decide (i ≤ j)
def sortI (xs : List Int) : List Int := xs.mergeSort leI
theorem sortI_is {xs ys : List Int} (hp : ys.Perm xs) (h : ys.Pairwise (· ≤ ·)) : ys = sortI xs := by
  refine List.Perm.eq_of_pairwise (le := fun x y => leI x y = true) (fun a b _ _ h g => by unfold leI at h g; rw [decide_eq_true_eq] at h g; omega) (h.imp fun h => decide_eq_true h) (List.pairwise_mergeSort (fun a b c h g => by unfold leI at *; rw [decide_eq_true_eq] at *; omega) (fun a b => by unfold leI; rw [Bool.or_eq_true, decide_eq_true_eq, decide_eq_true_eq]; omega) xs) (hp.trans (List.mergeSort_perm xs leI).symm)
def keyI : List (Key × A) → Option (List Int)
  | [] => some []
  | (.inl i, _) :: xs => (keyI xs).map (i :: ·)
  | _ => none
def keyS : List (Key × A) → Option (List Str)
  | [] => some []
  | (.inr i, _) :: xs => (keyS xs).map (i :: ·)
  | _ => none
theorem keyS_is {ρ : List Addr} {H : Hp} : ∀ {kv : List (Key × V)} {kvs : List (Key × A)} {ns : List Str}, Rkv K H ρ kv kvs → keyS kvs = some ns → kv.map (·.1) = ns.map Sum.inr
  | _, _, _, .nil, e => by cases e; rfl
  | (k1, v1) :: kv, (k2, a2) :: kvs, _, .cons h hs, e => by
    obtain ⟨e1, _⟩ := h
    cases (e1 : k1 = k2)
    cases k1 with
    | inl i => cases e
    | inr x =>
      obtain ⟨cs, e1, rfl⟩ := Option.map_eq_some_iff.mp (show (keyS _).map (x :: ·) = some _ from e)
      rw [List.map_cons, keyS_is hs e1]
      rfl
theorem keyI_is {ρ : List Addr} {H : Hp} : ∀ {kv : List (Key × V)} {kvs : List (Key × A)} {ns : List Int}, Rkv K H ρ kv kvs → keyI kvs = some ns → kv.map (·.1) = ns.map Sum.inl
  | _, _, _, .nil, e => by cases e; rfl
  | (k1, v1) :: kv, (k2, a2) :: kvs, _, .cons h hs, e => by
    obtain ⟨e1, _⟩ := h
    cases (e1 : k1 = k2)
    cases k1 with
    | inr i => cases e
    | inl x =>
      obtain ⟨cs, e1, rfl⟩ := Option.map_eq_some_iff.mp (show (keyI _).map (x :: ·) = some _ from e)
      rw [List.map_cons, keyI_is hs e1]
      rfl
def srK (os : Option (List Str)) (oi : Option (List Int)) (st : Sto) : Res A := match os, oi with
  | some xs, _ => if xs.length < 64 then newO (.lst ((sortS xs).map A.str)) st else .no
  | none, some ns => if ns.length < 64 then newO (.lst ((sortI ns).map A.int)) st else .no
  | none, none => .no
def srO (o : Option (List A)) (d : Option (Nat × List (Key × A))) (st : Sto) : Res A := match o, d with
  | some xs, _ => srK (strsOf xs) (intsOf xs) st
  | none, some (_, kvs) => srK (keyS kvs) (keyI kvs) st
  | none, none => .no
def oSorted : List A → Sto → Res A := fun as st => match as with
  | [a] => srO (getL st a) (getD st a) st
  | _ => .no
def rSortDS : RL := fun xs H Q => ∃ (a : Addr) (kvs : List (Key × V)) (ks : List Str), xs = [.ref a] ∧ Rd H a (.dK kvs) ∧ kvs.map (·.1) = ks.map Sum.inr ∧ ks.length < 64 ∧
    ∀ ys p, ys.Perm ks → sortedS ys = true → H p = none → Q (.ref p) (upd H p (.lst (ys.map V.str)))
def rSortDI : RL := fun xs H Q => ∃ (a : Addr) (kvs : List (Key × V)) (ks : List Int), xs = [.ref a] ∧ Rd H a (.dK kvs) ∧ kvs.map (·.1) = ks.map Sum.inl ∧ ks.length < 64 ∧
    ∀ (ys : List Int) (p : Addr), ys.Perm ks → ys.Pairwise (· ≤ ·) → H p = none → Q (.ref p) (upd H p (.lst (ys.map V.int)))
def rSortX (K : PySem.W.Frag) : RL := lOr (rSortedS K) (lOr (rSorted K) (lOr rSortDS rSortDI))
theorem call_sortX (hc : X.calm = true) : CallR X (.builtin "sorted") (rSortX X.K) := CallR.or cr_sortedS (CallR.or cr_sorted (CallR.or (call_sortedD hc) (call_sortedDI hc)))
theorem rl_sorted : RLok K w (rSortX K) oSorted := fun ρ H st vs as Q X rel rv p => by
  unfold oSorted at p
  split at p
  · rename_i a
    obtain ⟨v, rfl, h⟩ := rvs1 rv
    unfold srO at p
    split at p
    · rename_i xs eo
      obtain ⟨q, us, rfl, hq, hr⟩ := getL_sq rel h eo
      unfold srK at p
      split at p
      · rename_i ii ss es
        cases strs_is hr es
        split at p
        · rename_i hl
          exact .inl ⟨q, ss, rfl, hq, hl, fun ys r hp hs nr => by
            rw [sortS_is hp hs]
            exact post_newL rel (Rvs.strs _) p r nr⟩
        · exact p.elim
      · rename_i ns es ei
        cases ints_is hr ei
        split at p
        · rename_i hl
          exact .inr (.inl ⟨q, ns, rfl, hq, hl, fun ys r hp hs nr => by
            rw [sortI_is hp hs]
            exact post_newL rel (Rvs.ints _) p r nr⟩)
        · exact p.elim
      · exact p.elim
    · rename_i n kvs eo ed
      obtain ⟨q, kv, rfl, hq, h1, h2⟩ := getD_is rel h ed
      unfold srK at p
      split at p
      · rename_i ii ss es
        split at p
        · rename_i hl
          exact .inr (.inr (.inl ⟨q, kv, ss, rfl, .inl h1, keyS_is h2 es, hl, fun ys r hp hs nr => by
            rw [sortS_is hp hs]
            exact post_newL rel (Rvs.strs _) p r nr⟩))
        · exact p.elim
      · rename_i ns es ei
        split at p
        · rename_i hl
          exact .inr (.inr (.inr ⟨q, kv, ns, rfl, .inl h1, keyI_is h2 ei, hl, fun ys r hp hs nr => by
            rw [sortI_is hp hs]
            exact post_newL rel (Rvs.ints _) p r nr⟩))
        · exact p.elim
      · exact p.elim
    · exact p.elim
  · exact p.elim
end

/-! ### mirrors: comprehensions of two clauses -/
section
variable {w : World} {W : WishX}
theorem wipe_wipe {σ : L2.St} {vs : List Nat} : L2.wipe (L2.wipe σ vs) vs = L2.wipe σ vs := by
  have : ∀ us : List Nat, (∀ u ∈ us, u ∈ vs) → L2.wipe (L2.wipe σ us) vs = L2.wipe σ vs := fun us => by
    induction us with
    | nil => intro _; rfl
    | cons u us ih =>
      intro hu
      show L2.wipe ((L2.wipe σ us).set u none) vs = L2.wipe σ vs
      rw [wipe_set (hu u List.mem_cons_self), ih fun z hz => hu z (List.mem_cons_of_mem _ hz)]
  exact this vs fun _ h => h
open Classical in
noncomputable def lcI (n : Nat) (ok : Sto → Prop) (g : MG) (tt : MT) (te : ME) (env : AEnv) (go : Sto → Res A) : List A → Sto → Res A
  | [], st => if ok st then go st else .no
  | x :: xs, st => if ok st then (match g x env with
    | some e1 => (noX (tt e1 st)).bind fun k s1 => if k = true then (noX (te e1 s1)).bind fun y s2 => (match s2[n]? with
      | some (.lst acc) => if acc.length < sizeLine then lcI n ok g tt te env go xs (s2.set n (.lst (acc ++ [y]))) else .no
      | _ => .no) else lcI n ok g tt te env go xs s1
    | none => .no) else .no
open Classical in
noncomputable def lc2L (n : Nat) (ok : Sto → Prop) (g : MG) (tt : MT) (mi1 : MI) (g1 : MG) (tt1 : MT) (te : ME) (env : AEnv) (vs1 : List Nat) : List A → Sto → Res A
  | [], st => if ok st then .ok (.ref n) st else .no
  | x :: xs, st => if ok st then (match g x env with
    | some e1 => (noX (tt e1 st)).bind fun k s1 => if k = true then (noX (mi1 e1 s1)).bind fun xo s2 => lcI n xo.2 g1 tt1 te (wipeA e1 vs1) (fun s => lc2L n ok g tt mi1 g1 tt1 te env vs1 xs s) xo.1 s2 else lc2L n ok g tt mi1 g1 tt1 te env vs1 xs s1
    | none => .no) else .no
noncomputable def mLc2 (mi : MI) (g : MG) (tt : MT) (mi1 : MI) (g1 : MG) (tt1 : MT) (te : ME) (vs vs1 : List Nat) : ME := fun env st => (mi env st).bind fun xo s => lc2L s.length xo.2 g tt mi1 g1 tt1 te (wipeA env vs) vs1 xo.1 (s ++ [.lst []])
theorem re_lc2 {wi wi1 : TI} {g g1 : TG} {tt tt1 : TT} {te : TE} {mi mi1 : MI} {m m1 : MG} {ft ft1 : MT} {fe : ME} {vs vs1 : List Nat} (hi : RI K w W wi mi) (hg : RGn K g m vs) (ht : RT K w WF tt ft) (hi1 : RI K w WF wi1 mi1) (hg1 : RGn K g1 m1 vs1) (ht1 : RT K w WF tt1 ft1) (he : RE K w WF te fe) :
    RE K w W (tLc2 wi g tt wi1 g1 tt1 te vs vs1) (mLc2 mi m ft mi1 m1 ft1 fe vs vs1) := fun ρ H st σ env Q rel re p => by
  have p : Post K w ρ H ((mi env st).bind fun xo s => lc2L s.length xo.2 m ft mi1 m1 ft1 fe (wipeA env vs) vs1 xo.1 (s ++ [.lst []])) (fun a _ ρ' H' => ∀ v, Rv K H' ρ' v a → Q v H') (W · · σ ·) := p
  refine hi ρ H st σ env _ rel re ?_
  cases e : mi env st with
  | no => rw [e] at p; exact p
  | ex c d s1 => rw [e] at p; exact p
  | ok xo s1 =>
    rw [e] at p
    obtain ⟨xs, ok⟩ := xo
    intro ρ1 H1 e1 r1 J hJ D nD
    obtain ⟨e2, r2⟩ := r1.new (o := .lst []) (u := .lst []) nD fun H' e' h' => ⟨[], h', .nil⟩
    have hD := r1.last D
    have p1 : Post K w (ρ1 ++ [D]) (upd H1 D (.lst [])) (lc2L s1.length ok m ft mi1 m1 ft1 fe (wipeA env vs) vs1 xs (s1 ++ [.lst []])) (fun a _ ρ' H' => ∀ v, Rv K H' ρ' v a → Q v H') (W · · σ ·) := Post.ext p (e1.trans e2)
    refine ⟨fun i n H2 => n = xs.length - i ∧ i ≤ xs.length ∧ ∃ ρ2 s2, Ext (ρ1 ++ [D]) ρ2 (upd H1 D (.lst [])) H2 ∧ Rel K w ρ2 H2 s2 ∧ Post K w ρ2 H2 (lc2L s1.length ok m ft mi1 m1 ft1 fe (wipeA env vs) vs1 (xs.drop i) s2) (fun a _ ρ' H' => ∀ v, Rv K H' ρ' v a → Q v H') (W · · σ ·), ⟨_, rfl, Nat.zero_le _, _, _, Ext.refl _ _, r2, by rw [List.drop_zero]; exact p1⟩, ?_⟩
    rintro i n H2 ⟨rfl, hi2, ρ2, s2, e3, r3, p2⟩
    have e13 := e2.trans e3
    by_cases lt : i < xs.length
    · have ea : xs[i]? = some xs[i] := List.getElem?_eq_getElem lt
      rw [List.drop_eq_getElem_cons lt] at p2
      unfold lc2L at p2
      split at p2
      · rename_i hok
        obtain ⟨hgo, hy⟩ := hJ.go i _ ρ2 H2 s2 e13 r3 hok ea
        refine .inr ⟨hgo, fun H' => ∃ ρ3 s3, Ext (ρ1 ++ [D]) ρ3 (upd H1 D (.lst [])) H' ∧ Rel K w ρ3 H' s3 ∧ Post K w ρ3 H' (lc2L s1.length ok m ft mi1 m1 ft1 fe (wipeA env vs) vs1 (xs.drop (i + 1)) s3) (fun a _ ρ' H' => ∀ v, Rv K H' ρ' v a → Q v H') (W · · σ ·), fun H' hN => ⟨xs.length - (i + 1), by omega, rfl, lt, hN⟩, fun x H' yl => ?_⟩
        obtain ⟨sm, hx⟩ := hy x H' yl
        have e4 : Ext ρ2 ρ2 H2 H' := Ext.same sm
        have r4 := r3.same sm
        refine hg H' ρ2 (L2.wipe σ vs) (wipeA env vs) x _ _ ((re.ext (e1.trans (e13.trans e4))).wipe vs) hx ?_
        cases em : m xs[i] (wipeA env vs) with
        | none => rw [em] at p2; exact p2
        | some env3 =>
          rw [em] at p2
          intro σ3 re3 wp
          refine ⟨wp.trans wipe_wipe, ht ρ2 H' s2 σ3 env3 _ r4 re3 (noX_use (Post.ext p2 e4) fun k s5 ρ5 H5 e5 r5 p5 => ?_)⟩
          cases k with
          | false =>
            refine iteF ⟨ρ5, s5, e3.trans (e4.trans e5), r5, p5⟩
          | true =>
            refine iteT (hi1 ρ5 H5 s5 σ3 env3 _ r5 (re3.ext e5) (noX_use p5 fun yo s6 ρ6 H6 e6 r6 p6 J1 hJ1 => ?_))
            obtain ⟨ys, ok1⟩ := yo
            have E6 := e3.trans (e4.trans (e5.trans e6))
            refine ⟨fun j k H7 => k = ys.length - j ∧ j ≤ ys.length ∧ ∃ ρ7 s7, Ext ρ6 ρ7 H6 H7 ∧ Rel K w ρ7 H7 s7 ∧ Post K w ρ7 H7 (lcI s1.length ok1 m1 ft1 fe (wipeA env3 vs1) (fun s => lc2L s1.length ok m ft mi1 m1 ft1 fe (wipeA env vs) vs1 (xs.drop (i + 1)) s) (ys.drop j) s7) (fun a _ ρ' H' => ∀ v, Rv K H' ρ' v a → Q v H') (W · · σ ·), ⟨_, rfl, Nat.zero_le _, ρ6, s6, Ext.refl _ _, r6, by rw [List.drop_zero]; exact p6⟩, ?_⟩
            rintro j k H7 ⟨rfl, hj2, ρ7, s7, e7, r7, p7⟩
            by_cases ltj : j < ys.length
            · have ey : ys[j]? = some ys[j] := List.getElem?_eq_getElem ltj
              rw [List.drop_eq_getElem_cons ltj] at p7
              unfold lcI at p7
              split at p7
              · rename_i hok1
                obtain ⟨hgo1, hy1⟩ := hJ1.go j _ ρ7 H7 s7 e7 r7 hok1 ey
                refine .inr ⟨hgo1, fun H' => ∃ ρ8 s8, Ext ρ6 ρ8 H6 H' ∧ Rel K w ρ8 H' s8 ∧ Post K w ρ8 H' (lcI s1.length ok1 m1 ft1 fe (wipeA env3 vs1) (fun s => lc2L s1.length ok m ft mi1 m1 ft1 fe (wipeA env vs) vs1 (xs.drop (i + 1)) s) (ys.drop (j + 1)) s8) (fun a _ ρ' H' => ∀ v, Rv K H' ρ' v a → Q v H') (W · · σ ·), fun H' hN => ⟨ys.length - (j + 1), by omega, rfl, ltj, hN⟩, fun x1 H8 yl1 => ?_⟩
                obtain ⟨sm1, hx1⟩ := hy1 x1 H8 yl1
                have e8 : Ext ρ7 ρ7 H7 H8 := Ext.same sm1
                have r8 := r7.same sm1
                refine hg1 H8 ρ7 (L2.wipe σ3 vs1) (wipeA env3 vs1) x1 _ _ ((re3.ext (e5.trans (e6.trans (e7.trans e8)))).wipe vs1) hx1 ?_
                cases em1 : m1 ys[j] (wipeA env3 vs1) with
                | none => rw [em1] at p7; exact p7
                | some env4 =>
                  rw [em1] at p7
                  intro σ4 re4 wp4
                  refine ⟨wp4.trans wipe_wipe, ht1 ρ7 H8 s7 σ4 env4 _ r8 re4 (noX_use (Post.ext p7 e8) fun k s9 ρ9 H9 e9 r9 p9 => ?_)⟩
                  cases k with
                  | false =>
                    refine iteF ⟨ρ9, s9, e7.trans (e8.trans e9), r9, p9⟩
                  | true =>
                    refine iteT (he ρ9 H9 s9 σ4 env4 _ r9 (re4.ext e9) (noX_use p9 fun y s10 ρ10 H10 e10 r10 p10 v hv => ?_))
                    have E10 := E6.trans (e7.trans (e8.trans (e9.trans e10)))
                    split at p10
                    · rename_i acc ea2
                      obtain ⟨us, h1, h2⟩ := r10.get (E10.get hD) ea2
                      split at p10
                      · rename_i hl
                        obtain ⟨e11, r11⟩ := set_put r10 (E10.get hD) (h2.append (.cons hv .nil))
                        exact ⟨us, h1, by rw [h2.length]; exact hl, ρ10, _, e7.trans (e8.trans (e9.trans (e10.trans e11))), r11, Post.ext p10 e11⟩
                      · exact p10.elim
                    · exact p10.elim
              · exact p7.elim
            · obtain rfl : j = ys.length := by omega
              rw [List.drop_length] at p7
              unfold lcI at p7
              split at p7
              · rename_i hok1
                exact .inl ⟨hJ1.stop ρ7 H7 s7 e7 r7 hok1, ρ7, s7, E6.trans e7, r7, p7⟩
              · exact p7.elim
      · exact p2.elim
    · obtain rfl : i = xs.length := by omega
      rw [List.drop_length] at p2
      unfold lc2L at p2
      split at p2
      · rename_i hok
        exact .inl ⟨hJ.stop ρ2 H2 s2 e13 r3 hok, p2.give r3 (.ref (e3.get hD))⟩
      · exact p2.elim
end

/-! ### mirrors: a tuple times a number -/
section
variable {w : World} {W : WishX} {X : Cx}
theorem tuple_mul1 (l : Addr) (items : Array Value) (n : Nat) (dd : Option Addr) (sl : Array (Option Value)) (u : Tok) (c1 : (items.isEmpty || (1 : Int) == 1) = true) :
    Meets (Builtin.«tuple.__mul__» ⟨[.ref l, .int 1 u], []⟩) (fun _ R s => s.heap.get? l = some { cls := .type "tuple", dict := dd, data := .seq items n, slots := sl } ∧ R (.ok (.ret (Value.ref l))) s) :=
  .of_wp fun prog w A R s h => by
    obtain ⟨hp, g, d, tk, os⟩ := s
    obtain ⟨hl, h⟩ := h
    have f1 := AutoSeq1.idx_int
    have c0 : (decide ((1 : Int) < -(2 ^ 63)) || decide ((1 : Int) ≥ 2 ^ 63)) = false := by decide
    wp_walk using wpAny_loadPart' hl
    repeat (first
      | (refine wpAny_ite_false (decide_eq_false (by rw [c0]; exact Bool.false_ne_true)) ?_; wp_walk using wpAny_loadPart' hl)
      | (refine wpAny_ite_true (decide_eq_true c1) ?_; wp_walk using wpAny_loadPart' hl))
    exact ⟨_, rfl, h⟩
theorem tuple_mul0 (l : Addr) (items : Array Value) (n : Nat) (dd : Option Addr) (sl : Array (Option Value)) (u : Tok) (c1 : (items.isEmpty || (0 : Int) == 1) = false) :
    Meets (Builtin.«tuple.__mul__» ⟨[.ref l, .int 0 u], []⟩) (fun _ R s => s.heap.get? l = some { cls := .type "tuple", dict := dd, data := .seq items n, slots := sl } ∧
      R (.ok (.ret (Value.ref s.heap.objs.size))) { s with heap := s.heap.push { cls := Value.type "tuple", data := Data.seq #[] }, toks := s.toks }) :=
  .of_wp fun prog w A R s h => by
    obtain ⟨hp, g, d, tk, os⟩ := s
    obtain ⟨hl, h⟩ := h
    have f1 := AutoSeq1.idx_int
    have c0 : (decide ((0 : Int) < -(2 ^ 63)) || decide ((0 : Int) ≥ 2 ^ 63)) = false := by decide
    have c2 : (decide ((0 : Int) ≤ 0) || items.isEmpty) = true := by simp
    have c3 : ¬ sizeLine < (#[] : Array Value).size := by simp
    wp_walk using wpAny_loadPart' hl
    repeat (first
      | (refine wpAny_ite_false (decide_eq_false (by rw [c0]; exact Bool.false_ne_true)) ?_; wp_walk using wpAny_loadPart' hl)
      | (refine wpAny_ite_false (decide_eq_false (by rw [c1]; exact Bool.false_ne_true)) ?_; wp_walk using wpAny_loadPart' hl)
      | (refine wpAny_ite_true (decide_eq_true c2) ?_; wp_walk using wpAny_loadPart' hl)
      | (refine wpAny_ite_false (decide_eq_false c3) ?_; wp_walk using wpAny_loadPart' hl))
    exact ⟨_, rfl, h⟩
def rRepS (K : PySem.W.Frag) : R2 := fun x y H Q => ∃ l k xs, x = .ref l ∧ y = .int k ∧ SqT K H l xs ∧ xs ≠ [] ∧ (k = 0 ∨ k = 1) ∧ (k = 0 → ∀ p, H p = none → Q (.ref p) (upd H p (.tup []))) ∧ (k = 1 → Q (.ref l) H)
theorem op_repS : OpR X (binaryOp .Mult) (rRepS X.K) := by
  intro pins s σ H x y v u Q I rx ry h
  obtain ⟨l, k, xs, rfl, rfl, hT, hne, hk, q0, q1⟩ := h
  cases rx
  obtain ⟨t, rfl⟩ := ry
  obtain ⟨its, r, ⟨⟨cls, dd, data, sl⟩, ho, hc, n, hd⟩, hs⟩ := I.tuple hT
  simp only at hc hd
  subst hc hd
  have hle : its.length = xs.length := r.length.symm
  have hn : its ≠ [] := fun e => hne (by
    rw [e] at hle
    exact List.eq_nil_of_length_eq_zero hle.symm)
  have hi : its.toArray.isEmpty = false := by
    cases its with
    | nil => exact absurd rfl hn
    | cons a b => rfl
  rcases hk with rfl | rfl
  · refine wpAny_binaryOp_repeat_ref (T := "tuple") (U := "int") (by decide) ⟨_, ho, rfl⟩ (fun s' => typeIs_int s' 0 t) noFill_tuple_mul F.fills_int_mul F.slot_int_rmul repeat_tuple F.slot_int_index.lookup
      (call_meets F.slot_int_rmul (typeIs_int s 0 t) F.entry_int_rmul (F.args_int_rmul_2 _ _) (int_rmul_tuple 0 t l its.toArray n dd sl)
        ⟨ho, rfl, ⟨_, ho, rfl⟩, call_meets F.slot_tuple_mul ⟨_, ho, rfl⟩ F.entry_tuple_mul (F.args_tuple_mul_2 _ _) (tuple_mul0 l its.toArray n dd sl t (by rw [hi]; rfl)) ⟨ho, ?_⟩⟩)
    refine ⟨.ref s.heap.objs.size, _, I.laid (t' := s.toks) (o := .tup []) (fun b ob q => Heap.get?_push_of_some _ q) (Nat.le_refl _) ?_, rfl, q0 rfl _ (I.hok.fresh (Nat.le_refl _))⟩
    exact ⟨Nat.zero_le _, [], .nil, IsTup.new _ _⟩
  · refine wpAny_binaryOp_repeat_ref (T := "tuple") (U := "int") (by decide) ⟨_, ho, rfl⟩ (fun s' => typeIs_int s' 1 t) noFill_tuple_mul F.fills_int_mul F.slot_int_rmul repeat_tuple F.slot_int_index.lookup
      (call_meets F.slot_int_rmul (typeIs_int s 1 t) F.entry_int_rmul (F.args_int_rmul_2 _ _) (int_rmul_tuple 1 t l its.toArray n dd sl)
        ⟨ho, rfl, ⟨_, ho, rfl⟩, call_meets F.slot_tuple_mul ⟨_, ho, rfl⟩ F.entry_tuple_mul (F.args_tuple_mul_2 _ _) (tuple_mul1 l its.toArray n dd sl t (by simp)) ⟨ho, ?_⟩⟩)
    exact ⟨.ref l, _, I, rfl, q1 rfl⟩
def oRepT : A → A → Sto → Res A := fun a b st => match a, b with
  | .tup xs, .int k => if xs.isEmpty = false ∧ 0 ≤ k ∧ k ≤ 1000 ∧ xs.length ≤ 1000 then .ok (.tup (List.replicate k.toNat xs).flatten) st else .no
  | _, _ => .no
def rRepTT (K : PySem.W.Frag) : R2 := rOr (rRepS K) (rRepT K)
theorem r2_repT : R2ok K w (rRepTT K) oRepT := fun ρ H st x y a b Q X rel ra rb p => by
  unfold oRepT at p
  split at p
  · rename_i xs k
    cases rb
    split at p
    · rename_i hc
      obtain ⟨h1, h2, h3, h4⟩ := hc
      cases ra with
      | @tup l vs _ hT hv =>
        have hne : vs ≠ [] := fun e => by
          subst e
          cases hv
          cases h1
        have hl := hv.length
        by_cases k2 : 2 ≤ k
        · refine .inr ⟨l, k, vs, rfl, rfl, hT, hne, k2, h3, by omega, fun q nq => ?_⟩
          have e : Ext ρ ρ H (upd H q (.tup (List.replicate k.toNat vs).flatten)) := Ext.same (same_upd nq)
          exact p.giveAt e (rel.same (same_upd nq)) (.tup (.inl (.inl upd_same)) (rvs_rep (rvs_ext e hv) k.toNat))
        · by_cases k0 : k = 0
          · subst k0
            refine .inl ⟨l, 0, vs, rfl, rfl, hT, hne, .inl rfl, fun _ q nq => ?_, (fun z => by cases z)⟩
            have e : Ext ρ ρ H (upd H q (.tup [])) := Ext.same (same_upd nq)
            exact p.giveAt e (rel.same (same_upd nq)) (.tup (.inl (.inl upd_same)) .nil)
          · have k1 : k = 1 := by omega
            subst k1
            refine .inl ⟨l, 1, vs, rfl, rfl, hT, hne, .inr rfl, (fun z => by cases z), fun _ => ?_⟩
            refine p.give rel ?_
            show Rv K H ρ (.ref l) (.tup (List.replicate 1 xs).flatten)
            simp only [List.replicate_one, List.flatten_cons, List.flatten_nil, List.append_nil]
            exact .tup hT hv
    · exact p.elim
  · exact p.elim
def rMulY (K : PySem.W.Frag) : R2 := rOr (rRepTT K) rMulX
theorem dMulY : OpR X (binaryOp .Mult) (rMulY X.K) := OpR.or (OpR.or op_repS op_repT) dMulX
def oMulY : A → A → Sto → Res A := oOr (fun a _ => isTup a) oRepT oMulX
theorem r2_mulY : R2ok K w (rMulY K) oMulY := r2_or r2_repT r2_mulX
end
section
variable {a b : A} {st : Sto} {i j : Int} {xs : List A} {c : Bool}
theorem ev_mulYI : oMulY (.int i) (.int j) st = if cMul i j = true then .ok (.int (i * j)) st else .no := rfl
theorem ev_mulYB : oMulY (.bl c) (.int j) st = .ok (.int (b2i c * j)) st := rfl
theorem ev_mulYL {n : Nat} : oMulY (.ref n) b st = repK (getM st (.ref n)) b st := rfl
theorem ev_mulYT : oMulY (.tup xs) (.int j) st = if xs.isEmpty = false ∧ 0 ≤ j ∧ j ≤ 1000 ∧ xs.length ≤ 1000 then .ok (.tup (List.replicate j.toNat xs).flatten) st else .no := rfl
end

/-! ### mirrors: dicts whose keys are tuples of texts and numbers -/
section
variable {w : World} {W : WishX} {X : Cx}
theorem key_ofT {pins : List (Addr × Obj)} {σ : L2.St} {H : Hp} {s : Shared} {b : Addr} {k : List Key} (I : Inv X pins σ H s) (h : SqT X.K H b (k.map kV)) : (tupleKind (mixKind X.prog X.w)).is s.heap k b := by
  obtain ⟨its, r, ⟨o, ho, hc, n, hd⟩, _⟩ := I.tuple h
  exact ⟨o, its.toArray, n, ho, hc, hd, by simpa using items_are r⟩
/-- a tuple in such a dict, or not -/
def tTIn (K : PySem.W.Frag) (neg : Bool) (ty td : TE) : TE := fun σ H Q => ty σ H fun y H1 => td σ H1 fun x H2 => ∃ a kvs k b, x = .ref a ∧ Rd H2 a (.dT kvs) ∧ y = .ref b ∧ SqT K H2 b (k.map kV) ∧ Q (.bl ((valV kvs k).isSome != neg)) H2
variable {i o : Expr} {ty td : TE}
theorem pc_tin (hu : X.A.units + 1 < cLine) (hi : PE X i ty) (ho : PE X o td) : PC X .In i o (tTIn X.K false ty td) := by
  refine ⟨fun pins s σ H Q I h => ?_⟩
  refine thn (hi.run pins s σ H _ I h) fun iv s1 ⟨y, H1, I1, ry, q1⟩ => thn (ho.run pins s1 σ H1 _ I1 q1) fun u s2 ⟨x, H2, I2, rx, a, kvs, k, b, ex, e, ey, eb, q2⟩ => ?_
  subst ex ey
  obtain rfl : u = Value.ref a := rx
  cases (show iv = Value.ref b from ry)
  obtain ⟨z, hd, xs, rel, dd⟩ := dt_rd I2.hok e
  refine wpAny_in_heap (tupleKind_room_in1 hu) (key_ofT I2 eb) hd dd ?_
  have q := (rel.val k).isSome_eq
  rw [Option.isSome_map] at q
  rw [← q]
  rw [Bool.bne_false] at q2
  exact ⟨.bl (valV kvs k).isSome, H2, I2.tok _, rfl, q2⟩
theorem pc_tnotin (hu : X.A.units + 1 < cLine) (hi : PE X i ty) (ho : PE X o td) : PC X .NotIn i o (tTIn X.K true ty td) := by
  refine ⟨fun pins s σ H Q I h => ?_⟩
  refine thn (hi.run pins s σ H _ I h) fun iv s1 ⟨y, H1, I1, ry, q1⟩ => thn (ho.run pins s1 σ H1 _ I1 q1) fun u s2 ⟨x, H2, I2, rx, a, kvs, k, b, ex, e, ey, eb, q2⟩ => ?_
  subst ex ey
  obtain rfl : u = Value.ref a := rx
  cases (show iv = Value.ref b from ry)
  obtain ⟨z, hd, xs, rel, dd⟩ := dt_rd I2.hok e
  refine wpAny_notIn_heap (tupleKind_room_in1 hu) (key_ofT I2 eb) hd dd ?_
  have q := (rel.val k).isSome_eq
  rw [Option.isSome_map] at q
  rw [← q]
  rw [Bool.bne_true] at q2
  exact ⟨.bl (!(valV kvs k).isSome), H2, I2.tok _, rfl, q2⟩
def keysL : List A → Option (List Key)
  | [] => some []
  | x :: xs => (keyA x).bind fun k => (keysL xs).map (k :: ·)
def keysA : A → Option (List Key)
  | .tup xs => keysL xs
  | _ => none
theorem keysL_is {H : Hp} {ρ : List Addr} : ∀ {vs : List V} {xs : List A} {ks : List Key}, Rvs K H ρ vs xs → keysL xs = some ks → vs = ks.map kV
  | _, _, _, .nil, e => by cases e; rfl
  | _, _, _, .cons h hs, e => by
    unfold keysL at e
    obtain ⟨k, e1, e2⟩ := Option.bind_eq_some_iff.mp e
    obtain ⟨cs, e3, rfl⟩ := Option.map_eq_some_iff.mp e2
    rw [keysL_is hs e3, key_is h e1]
    rfl
theorem keysA_is {H : Hp} {ρ : List Addr} {v : V} {a : A} {ks : List Key} (h : Rv K H ρ v a) (e : keysA a = some ks) : ∃ b, v = .ref b ∧ SqT K H b (ks.map kV) := by
  cases h with
  | tup h hs =>
    rw [← keysL_is hs e]
    exact ⟨_, rfl, h⟩
  | _ => cases e
def gT (n : Nat) (o : Option AO) : Option (Nat × List (List Key × A)) := match o with
  | some (.dT kvs) => some (n, kvs)
  | _ => none
def getDT (st : Sto) : A → Option (Nat × List (List Key × A))
  | .ref n => gT n st[n]?
  | _ => none
theorem getDT_is {ρ : List Addr} {H : Hp} {st : Sto} {v : V} {a : A} {n : Nat} {kvs : List (List Key × A)} (rel : Rel K w ρ H st) (h : Rv K H ρ v a) (e : getDT st a = some (n, kvs)) : ∃ p kv, v = .ref p ∧ ρ[n]? = some p ∧ H p = some (.dT kv) ∧ Rkv K H ρ kv kvs := by
  cases h with
  | ref h =>
    rename_i m p
    have e : gT m st[m]? = some (n, kvs) := e
    unfold gT at e
    split at e
    · rename_i kvs' e'
      cases e
      obtain ⟨kv, h1, h2⟩ := rel.get h e'
      exact ⟨_, kv, rfl, h, h1, h2⟩
    · cases e
  | _ => cases e
def mDNewT : ME := fun _ st => newO (.dT []) st
theorem re_dnewT : RE K w W tDNewT mDNewT := fun ρ H st σ env Q rel re p q nq => by
  obtain ⟨e, r⟩ := rel.new (o := .dT []) (u := .dT []) nq fun H' e' h' => ⟨[], h', .nil⟩
  exact p.giveAt e r (.ref (rel.last q))
def tiKK (neg : Bool) (o : Option (Nat × List (List Key × A))) (k : Option (List Key)) (s : Sto) : Res A := match o, k with
  | some (_, kvs), some k => .ok (.bl ((valA kvs k).isSome != neg)) s
  | _, _ => .no
def mTIn (neg : Bool) (f g : ME) : ME := fun env st => (f env st).bind fun y s1 => (g env s1).bind fun x s2 => tiKK neg (getDT s2 x) (keysA y) s2
theorem re_tin {neg : Bool} {f g : ME} (hf : RE K w W ty f) (hg : RE K w W td g) : RE K w W (tTIn K neg ty td) (mTIn neg f g) := fun ρ H st σ env Q rel re p =>
  hf.use rel re p fun a s1 ρ1 H1 x e1 r1 v1 p1 => hg.use r1 (re.ext e1) p1 fun b s2 ρ2 H2 y e2 r2 v2 p2 => by
    unfold tiKK at p2
    split at p2
    · rename_i n kvs k em ek
      obtain ⟨q, kv, rfl, hq, h1, h2⟩ := getDT_is r2 v2 em
      obtain ⟨b, rfl, hb⟩ := keysA_is (rv_ext e2 v1) ek
      exact ⟨q, kv, k, b, rfl, .inl h1, rfl, hb, by
        rw [isSome_is h2]
        exact p2.give r2 (.bl _)⟩
    · exact p2.elim
/-- d[x, y] = v -/
def dptK (o : Option (Nat × List (List Key × A))) (k : Option (List Key)) (v : A) (env : AEnv) (s : Sto) : RF := match o, k with
  | some (n, kvs), some k => if kvs.length < sizeLine ∧ k.length ≤ sizeLine then .fl (.nx env) (s.set n (.dT (putA kvs k v))) else .no
  | _, _ => .no
def sDPutT (f : ME) (g : MA) (h : ME) : MS := fun env st => (h env st).thenS env fun v s1 => (f env s1).thenS env fun x s2 => (g env s2).thenS env fun ys s3 => dptK (getDT s3 x) (keysL ys) v env s3
theorem RA.useS {ta : TA} {f : MA} {k : List A → Sto → RF} {ρ : List Addr} {H : Hp} {st : Sto} {σ : L2.St} {env : AEnv} {D : Ends} {Q : List V → Hp → Prop} (h : RA K w W ta f) (rel : Rel K w ρ H st) (re : Renv K H ρ σ env) (p : PostS K w ρ H ((f env st).thenS env k) D W)
    (go : ∀ a s1 ρ1 H1 v, Ext ρ ρ1 H H1 → Rel K w ρ1 H1 s1 → Rvs K H1 ρ1 v a → PostS K w ρ1 H1 (k a s1) D W → Q v H1) : ta σ H Q := by
  refine h ρ H st σ env Q rel re ?_
  cases e : f env st with
  | ok a s1 =>
    rw [e] at p
    exact fun ρ1 H1 e1 r1 vs hv => go a s1 ρ1 H1 vs e1 r1 hv (PostS.ext p e1)
  | ex c d s1 =>
    rw [e] at p
    exact fun ρ1 H1 dx e1 r1 hd => p ρ1 H1 σ dx e1 r1 (re.ext e1) hd
  | no => rw [e] at p; exact p
theorem rs_dputT {ta : TA} {tv : TE} {f : ME} {g : MA} {h : ME} (hf : RE K w W td f) (hg : RA K w W ta g) (hh : RE K w W tv h) : RS K w W (sDPut td (tTup ta) tv) (sDPutT f g h) := fun ρ H st σ env D rel re p =>
  hh.useS rel re p fun a s1 ρ1 H1 x e1 r1 v1 p1 => hf.useS r1 (re.ext e1) p1 fun b s2 ρ2 H2 y e2 r2 v2 p2 => hg.useS r2 (re.ext (e1.trans e2)) p2 fun c s3 ρ3 H3 z e3 r3 v3 p3 => by
    unfold dptK at p3
    split at p3
    · rename_i n kvs k em ek
      obtain ⟨q, kv, rfl, hq, h1, h2⟩ := getDT_is r3 (rv_ext e3 v2) em
      cases keysL_is v3 ek
      split at p3
      · rename_i hl
        refine ⟨by rw [List.length_map]; exact hl.2, fun t nt => ?_⟩
        have sm := same_upd (o := .tup (k.map kV)) nt
        have r4 := r3.same sm
        have e4 : Ext ρ3 ρ3 H3 (upd H3 t (.tup (k.map kV))) := Ext.same sm
        have hv := rv_ext (e2.trans (e3.trans e4)) v1
        obtain ⟨e5, r5⟩ := r4.put (o := .dT (putA kvs k a)) (u := .dT (putK kv k x)) hq fun H' e' h' => ⟨_, h', rkv_ext e' (putA_is hv (rkv_ext e4 h2))⟩
        exact ⟨q, _, rfl, DPut.t (sm _ _ h1) upd_same (by rw [kv_len h2]; exact hl.1), p3 ρ3 _ σ (e4.trans e5) r5 (re.ext (e1.trans (e2.trans (e3.trans (e4.trans e5)))))⟩
      · exact p3.elim
    · exact p3.elim
end

/-! ### mirrors: {k: v, ..} -/
section
variable {w : World} {W : WishX}
abbrev MP := AEnv → Sto → Res (List (Key × A))
def RP (K : PySem.W.Frag) (w : World) (W : WishX) (trs : List (TE × TE)) (f : MP) : Prop := ∀ ρ H st σ env Q, Rel K w ρ H st → Renv K H ρ σ env → Post K w ρ H (f env st) (fun kvs _ ρ' H' => ∀ kv, Rkv K H' ρ' kv kvs → Q (kv.map fun q => (kV q.1, q.2)) H') (W · · σ ·) → tPairs trs σ H Q
def mpNil : MP := fun _ st => .ok [] st
theorem rp_nil : RP K w W [] mpNil := fun ρ H st σ env Q rel re p => p ρ H (Ext.refl _ _) rel [] .nil
def pcK (r : MP) (env : AEnv) (y : A) (k : Option Key) (s : Sto) : Res (List (Key × A)) := match k with
  | some k => (r env s).bind fun kvs s1 => .ok ((k, y) :: kvs) s1
  | none => .no
def mpCons (f g : ME) (r : MP) : MP := fun env st => (f env st).bind fun x s1 => (g env s1).bind fun y s2 => pcK r env y (keyA x) s2
theorem rp_cons {tk tv : TE} {trs : List (TE × TE)} {f g : ME} {r : MP} (hf : RE K w W tk f) (hg : RE K w W tv g) (hr : RP K w W trs r) : RP K w W ((tk, tv) :: trs) (mpCons f g r) := fun ρ H st σ env Q rel re p =>
  hf.use rel re p fun a s1 ρ1 H1 x e1 r1 v1 p1 => hg.use r1 (re.ext e1) p1 fun b s2 ρ2 H2 y e2 r2 v2 p2 => by
    unfold pcK at p2
    split at p2
    · rename_i k ek
      cases key_is v1 ek
      refine hr ρ2 H2 s2 σ env _ r2 (re.ext (e1.trans e2)) ?_
      cases e : r env s2 with
      | ok kvs s3 =>
        rw [e] at p2
        intro ρ3 H3 e3 r3 kv hkv
        exact p2 ρ3 H3 e3 r3 ((k, y) :: kv) (.cons ⟨rfl, rv_ext e3 v2⟩ hkv)
      | ex c d s3 => rw [e] at p2; exact p2
      | no => rw [e] at p2; exact p2
    · exact p2.elim
def mergeA (kvs more : List (Key × A)) : List (Key × A) := more.foldl (fun acc kv => putA acc kv.1 kv.2) kvs
theorem mergeA_is {H : Hp} {ρ : List Addr} : ∀ {more : List (Key × V)} {moreA : List (Key × A)} {kv : List (Key × V)} {kvs : List (Key × A)}, Rkv K H ρ more moreA → Rkv K H ρ kv kvs → Rkv K H ρ (mergeK kv more) (mergeA kvs moreA)
  | _, _, _, _, .nil, h => h
  | (k1, v1) :: more, (k2, a2) :: moreA, kv, kvs, .cons h hs, g => by
    obtain ⟨e1, e2⟩ := h
    cases (e1 : k1 = k2)
    show Rkv K H ρ (mergeK (putK kv k1 v1) more) (mergeA (putA kvs k1 a2) moreA)
    exact mergeA_is hs (putA_is e2 g)
def dsK (n : Nat) (kvs : List (Key × A)) (s : Sto) : Res A := match s[n]? with
  | some (.dK []) => if kvs.length ≤ 15 then .ok (.ref n) (s.set n (.dK (mergeA [] kvs))) else .no
  | _ => .no
def mDisp (f : MP) : ME := fun env st => (f env (st ++ [.dK []])).bind fun kvs s => dsK st.length kvs s
theorem re_disp {trs : List (TE × TE)} {f : MP} (hf : RP K w W trs f) : RE K w W (tDisp trs) (mDisp f) := fun ρ H st σ env Q rel re p t nt => by
  obtain ⟨e1, r1⟩ := rel.new (o := .dK []) (u := .dK []) nt fun H' e' h' => ⟨[], h', .nil⟩
  have hD := rel.last t
  have p : Post K w ρ H ((f env (st ++ [.dK []])).bind fun kvs s => dsK st.length kvs s) _ _ := p
  refine hf (ρ ++ [t]) _ _ σ env _ r1 (re.ext e1) ?_
  cases e : f env (st ++ [.dK []]) with
  | no => rw [e] at p; exact p
  | ex c d s1 =>
    rw [e] at p
    exact fun ρ1 H1 dx e2 r2 hd => p ρ1 H1 dx (e1.trans e2) r2 hd
  | ok kvs s1 =>
    rw [e] at p
    intro ρ2 H2 e2 r2 kv hkv
    have p : Post K w ρ H (dsK st.length kvs s1) _ _ := p
    unfold dsK at p
    split at p
    · rename_i es
      obtain ⟨kv0, h1, h2⟩ := r2.get (e2.get hD) es
      cases h2
      split at p
      · rename_i hl
        obtain ⟨e3, r3⟩ := r2.put (o := .dK (mergeA [] kvs)) (u := .dK (mergeK [] kv)) (e2.get hD) fun H' e' h' => ⟨_, h', rkv_ext e' (mergeA_is hkv .nil)⟩
        exact ⟨h1, kv, rfl, by rw [kv_len hkv]; exact hl, p.giveAt (e1.trans (e2.trans e3)) r3 (.ref (e3.get (e2.get hD)))⟩
      · exact p.elim
    · exact p.elim
end

/-! ### mirrors: what the dicts' operations give -/
section
variable {env : AEnv} {st s : Sto} {a b : A} {i : Int} {x : Str} {n : Nat} {kvs : List (Key × A)} {tvs : List (List Key × A)} {k : Key} {ks : List Key} {xs : List A} {f g h : ME}
theorem ev_dnew : mDNew env st = newO (.dK []) st := rfl
theorem ev_dnewT : mDNewT env st = newO (.dT []) st := rfl
theorem ev_dgetE : mDGet f g env st = (f env st).bind fun x s1 => (g env s1).bind fun y s2 => dgK (getD s2 x) (keyA y) s2 := rfl
theorem ev_getD : getD st (.ref n) = gD n st[n]? := rfl
theorem ev_gD : gD n (some (.dK kvs)) = some (n, kvs) := rfl
theorem ev_keyI : keyA (.int i) = some (.inl i) := rfl
theorem ev_keyS : keyA (.str x) = some (.inr x) := rfl
theorem ev_dgK : dgK (some (n, kvs)) (some k) s = lift (valA kvs k) s := rfl
theorem ev_dinE {c : Bool} : mDIn c f g env st = (f env st).bind fun y s1 => (g env s1).bind fun x s2 => diK c (getD s2 x) (keyA y) s2 := rfl
theorem ev_diK {c : Bool} : diK c (some (n, kvs)) (some k) s = .ok (.bl ((valA kvs k).isSome != c)) s := rfl
theorem ev_dputE : sDPutM f g h env st = (h env st).thenS env fun v s1 => (f env s1).thenS env fun x s2 => (g env s2).thenS env fun y s3 => dpK (getD s3 x) (keyA y) v env s3 := rfl
theorem ev_dpK : dpK (some (n, kvs)) (some k) a env s = if kvs.length < sizeLine then .fl (.nx env) (s.set n (.dK (putA kvs k a))) else .no := rfl
theorem ev_dget2E : mDGet2 f g h env st = (f env st).bind fun x s1 => if isDA s1 x = true then (g env s1).bind fun y s2 => (h env s2).bind fun z s3 => dg2K (getD s3 x) (keyA y) z s3 else .no := rfl
theorem ev_isDA : isDA st (.ref n) = (gD n st[n]?).isSome := rfl
theorem ev_isSome {α : Type} {c : α} : (some c).isSome = true := rfl
theorem ev_isNone {α : Type} : (none : Option α).isSome = false := rfl
theorem ev_dg2K : dg2K (some (n, kvs)) (some k) a s = .ok ((valA kvs k).getD a) s := rfl
theorem ev_dpop2E : mDPop2 f g h env st = (f env st).bind fun x s1 => if isDA s1 x = true then (g env s1).bind fun y s2 => (h env s2).bind fun z s3 => dp2K (getD s3 x) (keyA y) z s3 else .no := rfl
def dp3 (o : Option A) (n : Nat) (kvs : List (Key × A)) (k : Key) (z : A) (s : Sto) : Res A := match o with
  | some v => .ok v (s.set n (.dK (dropA kvs k)))
  | none => .ok z s
theorem ev_dp2K : dp2K (some (n, kvs)) (some k) a s = dp3 (valA kvs k) n kvs k a s := by
  unfold dp2K dp3
  rfl
theorem ev_dp3S : dp3 (some b) n kvs k a s = .ok b (s.set n (.dK (dropA kvs k))) := rfl
theorem ev_dp3N : dp3 none n kvs k a s = .ok a s := rfl
theorem ev_sortedE : oSorted [a] st = srO (getL st a) (getD st a) st := rfl
theorem ev_srO1 {d : Option (Nat × List (Key × A))} : srO (some xs) d st = srK (strsOf xs) (intsOf xs) st := rfl
theorem ev_srO2 : srO none (some (n, kvs)) st = srK (keyS kvs) (keyI kvs) st := rfl
theorem ev_gLd : gL (some (.dK kvs)) = none := rfl
theorem ev_srKS {ss : List Str} {oi : Option (List Int)} : srK (some ss) oi st = if ss.length < 64 then newO (.lst ((sortS ss).map A.str)) st else .no := rfl
theorem ev_srKI {ns : List Int} : srK none (some ns) st = if ns.length < 64 then newO (.lst ((sortI ns).map A.int)) st else .no := rfl
theorem ev_gDT : getDT st (.ref n) = gT n st[n]? := rfl
theorem ev_gT : gT n (some (.dT tvs)) = some (n, tvs) := rfl
theorem ev_tinE {c : Bool} : mTIn c f g env st = (f env st).bind fun y s1 => (g env s1).bind fun x s2 => tiKK c (getDT s2 x) (keysA y) s2 := rfl
theorem ev_tiKK {c : Bool} : tiKK c (some (n, tvs)) (some ks) s = .ok (.bl ((valA tvs ks).isSome != c)) s := rfl
theorem ev_keysA : keysA (.tup xs) = keysL xs := rfl
theorem ev_keysN : keysL [] = some [] := rfl
theorem ev_keysC : keysL (a :: xs) = (keyA a).bind fun k => (keysL xs).map (k :: ·) := rfl
theorem ev_dputTE {m : MA} : sDPutT f m h env st = (h env st).thenS env fun v s1 => (f env s1).thenS env fun x s2 => (m env s2).thenS env fun ys s3 => dptK (getDT s3 x) (keysL ys) v env s3 := rfl
theorem ev_dptK : dptK (some (n, tvs)) (some ks) a env s = if tvs.length < sizeLine ∧ ks.length ≤ sizeLine then .fl (.nx env) (s.set n (.dT (putA tvs ks a))) else .no := rfl
theorem ev_dispE {m : MP} : mDisp m env st = (m env (st ++ [.dK []])).bind fun kvs s => dsK st.length kvs s := rfl
theorem ev_mpN : mpNil env st = .ok [] st := rfl
theorem ev_mpC {m : MP} : mpCons f g m env st = (f env st).bind fun x s1 => (g env s1).bind fun y s2 => pcK m env y (keyA x) s2 := rfl
theorem ev_pcK {m : MP} : pcK m env a (some k) s = (m env s).bind fun kvs s1 => .ok ((k, a) :: kvs) s1 := rfl
def dsK2 (o : Option AO) (n : Nat) (kvs : List (Key × A)) (s : Sto) : Res A := match o with
  | some (.dK []) => if kvs.length ≤ 15 then .ok (.ref n) (s.set n (.dK (mergeA [] kvs))) else .no
  | _ => .no
theorem ev_dsK : dsK n kvs s = dsK2 s[n]? n kvs s := rfl
theorem ev_dsK2 : dsK2 (some (.dK [])) n kvs s = if kvs.length ≤ 15 then .ok (.ref n) (s.set n (.dK (mergeA [] kvs))) else .no := rfl
theorem ev_lc2E {mi mi1 : MI} {m m1 : MG} {tt tt1 : MT} {vs vs1 : List Nat} : mLc2 mi m tt mi1 m1 tt1 f vs vs1 env st = (mi env st).bind fun xo s => lc2L s.length xo.2 m tt mi1 m1 tt1 f (wipeA env vs) vs1 xo.1 (s ++ [.lst []]) := rfl
end

/-! ### mirrors: what a run comes to, by what is asked behind it -/
def okR {α : Type} (r : Res α) (Q : α → Sto → Prop) : Prop := match r with
  | .ok a s => Q a s
  | _ => False
def okF (r : RF) (Q : Fl → Sto → Prop) : Prop := match r with
  | .fl f s => Q f s
  | _ => False
def fK (Q : A → Sto → Prop) : Fl → Sto → Prop
  | .rt a, s => Q a s
  | .nx _, s => Q .non s
  | _, _ => False
def nK (g : MS) (Q : Fl → Sto → Prop) : Fl → Sto → Prop
  | .nx e, s => okF (g e s) Q
  | f, s => Q f s
def tK {α : Type} (k : α → Sto → RF) (Q : Fl → Sto → Prop) : α → Sto → Prop := fun a s => okF (k a s) Q
def bK {α β : Type} (k : α → Sto → Res β) (Q : β → Sto → Prop) : α → Sto → Prop := fun a s => okR (k a s) Q
/-- behind a loop's body -/
def lK (J : AEnv → Sto → Prop) (Q : Fl → Sto → Prop) : Fl → Sto → Prop
  | .nx e, s => J e s
  | .ct e, s => J e s
  | .bk e, s => Q (.nx e) s
  | .rt a, s => Q (.rt a) s
/-- .. where nothing is left early -/
def jK (J : AEnv → Sto → Prop) : Fl → Sto → Prop
  | .nx e, s => J e s
  | .ct e, s => J e s
  | _, _ => False
section
variable {α β : Type} {r : Res α} {f : RF} {s : Sto} {a : α} {c : A} {e : AEnv}
theorem wp_okR {Q : α → Sto → Prop} : okR (.ok a s) Q = Q a s := rfl
theorem wp_okF {x : Fl} {Q : Fl → Sto → Prop} : okF (.fl x s) Q = Q x s := rfl
theorem wp_fin {Q : A → Sto → Prop} : okR (fin f) Q = okF f (fK Q) := by
  rcases f with ⟨_ | _ | _ | _, _⟩ | _ | _ <;> rfl
theorem wp_next {g : MS} {Q : Fl → Sto → Prop} : okF (f.next g) Q = okF f (nK g Q) := by
  rcases f with ⟨_ | _ | _ | _, _⟩ | _ | _ <;> rfl
theorem wp_then {k : α → Sto → RF} {Q : Fl → Sto → Prop} : okF (r.thenS e k) Q = okR r (tK k Q) := by
  cases r <;> rfl
theorem wp_bind {k : α → Sto → Res β} {Q : β → Sto → Prop} : okR (r.bind k) Q = okR r (bK k Q) := by
  cases r <;> rfl
theorem wp_nox {Q : α → Sto → Prop} : okR (noX r) Q = okR r Q := by
  cases r <;> rfl
theorem wp_tK {k : α → Sto → RF} {Q : Fl → Sto → Prop} : tK k Q a s = okF (k a s) Q := rfl
theorem wp_bK {k : α → Sto → Res β} {Q : β → Sto → Prop} : bK k Q a s = okR (k a s) Q := rfl
theorem wp_fr {Q : A → Sto → Prop} : fK Q (.rt c) s = Q c s := rfl
theorem wp_fn {Q : A → Sto → Prop} : fK Q (.nx e) s = Q .non s := rfl
theorem wp_nn {g : MS} {Q : Fl → Sto → Prop} : nK g Q (.nx e) s = okF (g e s) Q := rfl
theorem wp_nr {g : MS} {Q : Fl → Sto → Prop} : nK g Q (.rt c) s = Q (.rt c) s := rfl
theorem wp_nb {g : MS} {Q : Fl → Sto → Prop} : nK g Q (.bk e) s = Q (.bk e) s := rfl
theorem wp_nc {g : MS} {Q : Fl → Sto → Prop} : nK g Q (.ct e) s = Q (.ct e) s := rfl
theorem wp_ln {J : AEnv → Sto → Prop} {Q : Fl → Sto → Prop} : lK J Q (.nx e) s = J e s := rfl
theorem wp_lc {J : AEnv → Sto → Prop} {Q : Fl → Sto → Prop} : lK J Q (.ct e) s = J e s := rfl
theorem wp_lb {J : AEnv → Sto → Prop} {Q : Fl → Sto → Prop} : lK J Q (.bk e) s = Q (.nx e) s := rfl
theorem wp_lr {J : AEnv → Sto → Prop} {Q : Fl → Sto → Prop} : lK J Q (.rt c) s = Q (.rt c) s := rfl
theorem wp_jn {J : AEnv → Sto → Prop} : jK J (.nx e) s = J e s := rfl
theorem wp_jc {J : AEnv → Sto → Prop} : jK J (.ct e) s = J e s := rfl
theorem okR_use {P Q : α → Sto → Prop} (h : okR r P) (k : ∀ a s, P a s → Q a s) : okR r Q := by
  cases r with
  | ok a s => exact k a s h
  | _ => exact h
theorem okF_use {P Q : Fl → Sto → Prop} (h : okF f P) (k : ∀ a s, P a s → Q a s) : okF f Q := by
  cases f with
  | fl x s => exact k x s h
  | _ => exact h
theorem okR_of {P : α → Sto → Prop} (h : ∃ a s, r = .ok a s ∧ P a s) : okR r P := by
  obtain ⟨a, s, rfl, h⟩ := h
  exact h
theorem okR_out {P : α → Sto → Prop} (h : okR r P) : ∃ a s, r = .ok a s ∧ P a s := by
  cases r with
  | ok a s => exact ⟨a, s, rfl, h⟩
  | _ => exact h.elim
theorem okF_out {P : Fl → Sto → Prop} (h : okF f P) : ∃ a s, f = .fl a s ∧ P a s := by
  cases f with
  | fl a s => exact ⟨a, s, rfl, h⟩
  | _ => exact h.elim
theorem okF_ifB {c : Bool} {x y : RF} {Q : Fl → Sto → Prop} (h1 : c = true → okF x Q) (h2 : c = false → okF y Q) : okF (if c = true then x else y) Q := by
  cases c
  · exact h2 rfl
  · exact h1 rfl
theorem okR_ifB {c : Bool} {x y : Res α} {Q : α → Sto → Prop} (h1 : c = true → okR x Q) (h2 : c = false → okR y Q) : okR (if c = true then x else y) Q := by
  cases c
  · exact h2 rfl
  · exact h1 rfl
theorem okF_ifP {c : Prop} [Decidable c] {x y : RF} {Q : Fl → Sto → Prop} (h1 : c → okF x Q) (h2 : ¬ c → okF y Q) : okF (if c then x else y) Q := by
  split
  · exact h1 (by assumption)
  · exact h2 (by assumption)
theorem okR_ifP {c : Prop} [Decidable c] {x y : Res α} {Q : α → Sto → Prop} (h1 : c → okR x Q) (h2 : ¬ c → okR y Q) : okR (if c then x else y) Q := by
  split
  · exact h1 (by assumption)
  · exact h2 (by assumption)
end
theorem forL_wp {ok : Sto → Prop} {g : MG} {b : MS} {Q : Fl → Sto → Prop} (I : Nat → AEnv → Sto → Prop) (hok : ∀ i env s, I i env s → ok s) : ∀ {xs : List A} {j : Nat} {env : AEnv} {st : Sto}, I j env st →
    (∀ i x env s, xs[i]? = some x → I (j + i) env s → ∃ e1, g x env = some e1 ∧ okF (b e1 s) (lK (I (j + i + 1)) Q)) → (∀ env s, I (j + xs.length) env s → Q (.nx env) s) → okF (forL ok g b xs env st) Q
  | [], j, env, st, h0, _, he => by
    unfold forL
    rw [if_pos (hok _ _ _ h0)]
    exact he _ _ h0
  | x :: xs, j, env, st, h0, hs, he => by
    obtain ⟨e1, h1, h2⟩ := hs 0 x env st rfl h0
    obtain ⟨fl, s', h3, h4⟩ := okF_out h2
    have go : ∀ e s, I (j + 1) e s → okF (forL ok g b xs e s) Q := fun e s hI => forL_wp I hok (j := j + 1) hI (fun i y env s hy h => by
      have := hs (i + 1) y env s (by simpa using hy) (by rw [show j + (i + 1) = j + 1 + i by omega]; exact h)
      rw [show j + (i + 1) + 1 = j + 1 + i + 1 by omega] at this
      exact this) (fun env s h => he env s (by rw [List.length_cons, show j + (xs.length + 1) = j + 1 + xs.length by omega]; exact h))
    unfold forL
    rw [if_pos (hok _ _ _ h0), h1]
    simp only [h3]
    cases fl with
    | nx e => exact go e s' h4
    | ct e => exact go e s' h4
    | bk e => exact h4
    | rt a => exact h4
theorem lcL_wp {n : Nat} {ok : Sto → Prop} {g : MG} {tt : MT} {te : ME} {env : AEnv} {Q : A → Sto → Prop} (I : Nat → List A → Sto → Prop) (hok : ∀ i acc s, I i acc s → ok s) : ∀ {xs : List A} {j : Nat} {acc : List A} {st : Sto}, I j acc st →
    (∀ i x acc s, xs[i]? = some x → I (j + i) acc s → ∃ e1, g x env = some e1 ∧ okR (tt e1 s) fun c s1 => if c = true then okR (te e1 s1) (fun y s2 => s2[n]? = some (.lst acc) ∧ acc.length < 16777216 ∧ I (j + i + 1) (acc ++ [y]) (s2.set n (.lst (acc ++ [y])))) else I (j + i + 1) acc s1) →
    (∀ acc s, I (j + xs.length) acc s → Q (.ref n) s) → okR (lcL n ok g tt te env xs st) Q
  | [], j, acc, st, h0, _, he => by
    unfold lcL
    rw [if_pos (hok _ _ _ h0)]
    exact he _ _ h0
  | x :: xs, j, acc, st, h0, hs, he => by
    obtain ⟨e1, h1, h2⟩ := hs 0 x acc st rfl h0
    obtain ⟨c, s1, h3, h4⟩ := okR_out h2
    have go : ∀ acc s, I (j + 1) acc s → okR (lcL n ok g tt te env xs s) Q := fun acc s hI => lcL_wp I hok (j := j + 1) hI (fun i y acc s hy h => by
      have := hs (i + 1) y acc s (by simpa using hy) (by rw [show j + (i + 1) = j + 1 + i by omega]; exact h)
      rw [show j + (i + 1) + 1 = j + 1 + i + 1 by omega] at this
      exact this) (fun acc s h => he acc s (by rw [List.length_cons, show j + (xs.length + 1) = j + 1 + xs.length by omega]; exact h))
    unfold lcL
    rw [if_pos (hok _ _ _ h0), h1]
    simp only [h3, ev_xok, ev_bok]
    cases c with
    | false => exact go acc s1 h4
    | true =>
      obtain ⟨y, s2, h5, h6, h7, h8⟩ := okR_out h4
      simp only [if_true, h5, ev_xok, ev_bok, h6]
      rw [if_pos (by rw [sizeLine_eq]; exact h7)]
      exact go _ _ h8
theorem whileF_wp {c : MT} {b : MS} {Q : Fl → Sto → Prop} (I : Nat → AEnv → Sto → Prop)
    (step : ∀ k env s, I k env s → okR (c env s) fun t s1 => if t = true then ∃ k', k = k' + 1 ∧ okF (b env s1) (lK (I k') Q) else Q (.nx env) s1) : ∀ (k fuel : Nat) {env : AEnv} {st : Sto}, k < fuel → I k env st → okF (whileF c b fuel env st) Q
  | _, 0, _, _, hf, _ => absurd hf (Nat.not_lt_zero _)
  | k, fuel + 1, env, st, hf, h => by
    unfold whileF
    rw [wp_then]
    refine okR_use (step k env st h) fun t s1 ht => ?_
    rw [wp_tK]
    cases t with
    | false => exact ht
    | true =>
      obtain ⟨k', rfl, hb⟩ := ht
      obtain ⟨fl, s', h3, h4⟩ := okF_out hb
      simp only [if_true, h3]
      cases fl with
      | nx e => exact whileF_wp I step k' fuel (by omega) h4
      | ct e => exact whileF_wp I step k' fuel (by omega) h4
      | bk e => exact h4
      | rt a => exact h4
/-- a comprehension over what stays: its items leave at most new cells behind -/
theorem lc_W {ok : Sto → Prop} {g : MG} {tt : MT} {te : ME} {env : AEnv} {xs : List A} {S : Sto} {Q : A → Sto → Prop} (p : A → Bool) (F : A → A) (hok : ∀ l, ok (S ++ l)) (hl : xs.length < 16777216)
    (step : ∀ x ∈ xs, ∃ e1, g x env = some e1 ∧ (∀ l, okR (tt e1 (S ++ l)) fun c s => c = p x ∧ ∃ l', s = S ++ (l ++ l')) ∧ (p x = true → ∀ l, okR (te e1 (S ++ l)) fun y s => y = F x ∧ ∃ l', s = S ++ (l ++ l')))
    (h : ∀ l', Q (.ref S.length) (S ++ AO.lst ((xs.filter p).map F) :: l')) : okR (lcL S.length ok g tt te env xs (S ++ [.lst []])) Q := by
  refine lcL_wp (j := 0) (acc := []) (fun i acc s => acc = ((xs.take i).filter p).map F ∧ ∃ l', s = S ++ AO.lst acc :: l') (fun i acc s h => by obtain ⟨_, l', rfl⟩ := h; exact hok _) ⟨by simp, [], rfl⟩ (fun i x acc s hx hI => ?_) (fun acc s hI => ?_)
  · obtain ⟨ha, l', rfl⟩ := hI
    obtain ⟨e1, h1, h2, h3⟩ := step x (List.mem_of_getElem? hx)
    have hi := (List.getElem?_eq_some_iff.mp hx).1
    have tk : xs.take (0 + i + 1) = xs.take (0 + i) ++ [x] := by
      rw [Nat.zero_add, List.take_add_one, hx]
      rfl
    have hacc : acc.length ≤ xs.length := by
      rw [ha, List.length_map]
      exact Nat.le_trans (List.length_filter_le ..) (List.length_take_le' ..)
    refine ⟨e1, h1, okR_use (h2 _) fun c s1 hc => ?_⟩
    obtain ⟨rfl, l1, rfl⟩ := hc
    split
    · rename_i hp
      refine okR_use (h3 hp _) fun y s2 hy => ?_
      obtain ⟨rfl, l2, rfl⟩ := hy
      refine ⟨by simp only [List.cons_append]; rw [ev_app0]; rfl, by omega, ?_, l' ++ l1 ++ l2, ?_⟩
      · rw [tk, List.filter_append, List.map_append, ← ha]
        simp [hp]
      · simp only [List.cons_append]
        rw [ev_set0]
        rfl
    · rename_i hp
      refine ⟨?_, l' ++ l1, by simp⟩
      rw [tk, List.filter_append, List.map_append, ← ha]
      simp [hp]
  · obtain ⟨ha, l', rfl⟩ := hI
    rw [Nat.zero_add, List.take_length] at ha
    subst ha
    exact h l'
theorem lc_M {ok : Sto → Prop} {g : MG} {te : ME} {env : AEnv} {xs : List A} {S : Sto} {Q : A → Sto → Prop} (F : A → A) (hok : ∀ l, ok (S ++ l)) (hl : xs.length < 16777216)
    (step : ∀ x ∈ xs, ∃ e1, g x env = some e1 ∧ ∀ l, okR (te e1 (S ++ l)) fun y s => y = F x ∧ ∃ l', s = S ++ (l ++ l'))
    (h : ∀ l', Q (.ref S.length) (S ++ AO.lst (xs.map F) :: l')) : okR (lcL S.length ok g mYes te env xs (S ++ [.lst []])) Q :=
  lc_W (fun _ => true) F hok hl (fun x hx => by
    obtain ⟨e1, h1, h2⟩ := step x hx
    exact ⟨e1, h1, fun l => ⟨rfl, [], by simp⟩, fun _ => h2⟩) (fun l' => by
    rw [List.filter_eq_self.mpr (fun _ _ => rfl)]
    exact h l')

/-! ### mirrors: stores, the bag -/
structure Old (b : Nat) (st st' : Sto) : Prop where
  le : st.length ≤ st'.length
  eq : ∀ n, n < st.length → n ≠ b → st'[n]? = st[n]?
theorem Old.refl (b : Nat) (st : Sto) : Old b st st := ⟨Nat.le_refl _, fun _ _ _ => rfl⟩
theorem Old.trans {b : Nat} {s1 s2 s3 : Sto} (h : Old b s1 s2) (g : Old b s2 s3) : Old b s1 s3 := ⟨Nat.le_trans h.le g.le, fun n hn nb => (g.eq n (Nat.lt_of_lt_of_le hn h.le) nb).trans (h.eq n hn nb)⟩
theorem Old.get {b n : Nat} {st st' : Sto} {o : AO} (h : Old b st st') (e : st[n]? = some o) (nb : n ≠ b) : st'[n]? = some o := (h.eq n (List.getElem?_eq_some_iff.mp e).1 nb).trans e
theorem Old.app (b : Nat) (st : Sto) (o : AO) : Old b st (st ++ [o]) := ⟨by rw [List.length_append]; omega, fun n hn _ => List.getElem?_append_left hn⟩
theorem Old.put (b : Nat) (st : Sto) (o : AO) : Old b st (st.set b o) := ⟨by rw [List.length_set]; omega, fun n _ nb => List.getElem?_set_ne (fun z => nb z.symm)⟩
/-- what is new is changed -/
theorem Old.putNew {b n : Nat} {st st' : Sto} {o : AO} (h : Old b st st') (hn : st.length ≤ n) : Old b st (st'.set n o) := ⟨by rw [List.length_set]; exact h.le, fun m hm nb => by rw [List.getElem?_set_ne (by omega)]; exact h.eq m hm nb⟩
def BagAt (st : Sto) (b : Nat) : Prop := ∃ x y : Int, st[b]? = some (.lst [.int x, .int y]) ∧ 0 ≤ x ∧ 0 ≤ y ∧ y < 2147483647
theorem BagAt.lt {st : Sto} {b : Nat} (h : BagAt st b) : b < st.length := by
  obtain ⟨x, y, e, _⟩ := h
  exact (List.getElem?_eq_some_iff.mp e).1
theorem BagAt.app {st : Sto} {b : Nat} (h : BagAt st b) (o : AO) : BagAt (st ++ [o]) b := by
  have hl := h.lt
  obtain ⟨x, y, e, r⟩ := h
  exact ⟨x, y, by rw [List.getElem?_append_left hl]; exact e, r⟩
theorem BagAt.put {st : Sto} {b n : Nat} (h : BagAt st b) (o : AO) (ne : n ≠ b) : BagAt (st.set n o) b := by
  obtain ⟨x, y, e, r⟩ := h
  exact ⟨x, y, by rw [List.getElem?_set_ne ne]; exact e, r⟩
theorem ix20 : ixN 2 0 = some 0 := by decide
theorem ix21 : ixN 2 1 = some 1 := by decide
theorem cMul_r {i j : Int} (h : -(2 ^ 64) < j ∧ j < 2 ^ 64) : cMul i j = true := decide_eq_true (.inr h)
theorem cMul_l {i j : Int} (h : -(2 ^ 64) < i ∧ i < 2 ^ 64) : cMul i j = true := decide_eq_true (.inl h)
theorem log_lt {m : Int} (h0 : 0 < m) (h : m < 2 ^ 200) : m.natAbs.log2 < 9000 := by
  have h1 : m.natAbs < 2 ^ 200 := by omega
  have h2 : m.natAbs ≠ 0 := by omega
  have := (Nat.log2_lt h2).mpr h1
  omega
theorem putO_is {k : Int} {n j : Nat} {xs : List A} {a : A} {env : AEnv} {s : Sto} (h : ixN xs.length k = some j) : putO (.int k) (some (n, xs)) a env s = .fl (.nx env) (s.set n (.lst (xs.set j a))) := ev_putO h
/-! ### _law_take -/
abbrev s__law_take : Stmt := topS 28
theorem sc__law_take : FnScope ["bag", "many", "found"] ["bag", "many"] (defScope s__law_take) := ⟨rfl, rfl, rfl, by decide +kernel, rfl, by decide +kernel, by decide +kernel⟩

noncomputable def b__law_take : MS := (sSeq (sIf (mTest (mOp oGt (mOp oIxD (mVar 0) (mC (.int 0))) (mC (.int 0))))
 (sSeq (sAsg (mOp oMod (mOp oIxD (mVar 0) (mC (.int 0))) (mVar 1)) (mgName 2))
 (sSeq (sPutL (mOp oDiv (mOp oIxD (mVar 0) (mC (.int 0))) (mVar 1)) (mVar 0) (mC (.int 0)))
 (sRet (mVar 2))))
 sNext)
 (sSeq (sPutL (mOp oMod (mOp oMulX (mOp oIxD (mVar 0) (mC (.int 1))) (mC (.int 48271))) (mC (.int 2147483647))) (mVar 0) (mC (.int 1)))
 (sRet (mOp oMod (mOp oDiv (mOp oMod (mOp oMulX (mOp oIxD (mVar 0) (mC (.int 1))) (mOp oIxD (mVar 0) (mC (.int 1)))) (mC (.int 2147483629))) (mC (.int 64))) (mVar 1)))))
noncomputable def m__law_take : List A → Sto → Res A := runB 3 b__law_take
theorem ok__law_take {f : Addr} {fd : FuncData} (F : Fun K "_law_take" "_law_take" s__law_take f fd) (gm : mg "_law_take" = some (.ref f)) (N : Fre K mg)  : C8.Cal P w K mg base 1 "_law_take" (spN K w 2 m__law_take) [] := by
  refine mkCal F gm sc__law_take (F.binds (ps := ["bag", "many"]) fun _ _ _ _ _ _ us hl => match us, hl with | [_, _], _ => rfl) (fun vs H Q E h => ?_) (fun cdv A outer s H vs Q E hr h => ?_)
  · obtain ⟨_, _, _, hl, _⟩ := h
    exact hl
  · refine ⟨_, (pss_cons (ps_if (pt_cmpR (show OpR _ _ rGtD from dGt) (pe_ix (show IxR _ (rIxAny K) from dIx) (pv 0) pe_int (fun _ _ => rfl)) pe_int (nomark _))
 (pss_cons (ps_set (i := 2) sc__law_take.nd rfl (.inl rfl) (pe_op (show OpR _ _ rModD from dMod) (pe_ix (show IxR _ (rIxAny K) from dIx) (pv 0) pe_int (fun _ _ => rfl)) (pv 1)))
 (pss_cons (ps_asg (pe_op (show OpR _ _ rDivD from dDiv) (pe_ix (show IxR _ (rIxAny K) from dIx) (pv 0) pe_int (fun _ _ => rfl)) (pv 1)) (pg_sub (pv 0) pe_int set_list))
 (pss_one (ps_ret (pv 2)))))
 pss_nil)
 (pss_cons (ps_asg (pe_op (show OpR _ _ rModD from dMod) (pe_op (show OpR _ _ rMulX from dMulX) (pe_ix (show IxR _ (rIxAny K) from dIx) (pv 0) pe_int (fun _ _ => rfl)) pe_int) pe_int) (pg_sub (pv 0) pe_int set_list))
 (pss_one (ps_ret (pe_op (show OpR _ _ rModD from dMod) (pe_op (show OpR _ _ rDivD from dDiv) (pe_op (show OpR _ _ rModD from dMod) (pe_op (show OpR _ _ rMulX from dMulX) (pe_ix (show IxR _ (rIxAny K) from dIx) (pv 0) pe_int (fun _ _ => rfl)) (pe_ix (show IxR _ (rIxAny K) from dIx) (pv 0) pe_int (fun _ _ => rfl))) pe_int) pe_int) (pv 1)))))), ?_⟩
    exact spN_body (b := b__law_take) (show RS K w WF _ b__law_take from (rs_seq (rs_if (rt_test (re_op r2_gt (re_op r2_ixD (re_var (i := 0)) re_int) re_int))
 (rs_seq (rs_asg (re_op r2_mod (re_op r2_ixD (re_var (i := 0)) re_int) (re_var (i := 1))) (rg_name (i := 2) (vs := [2]) (by decide)))
 (rs_seq (rs_putL (re_op r2_div (re_op r2_ixD (re_var (i := 0)) re_int) (re_var (i := 1))) (re_var (i := 0)) re_int)
 (rs_ret (re_var (i := 2)))))
 rs_next)
 (rs_seq (rs_putL (re_op r2_mod (re_op r2_mulX (re_op r2_ixD (re_var (i := 0)) re_int) re_int) re_int) (re_var (i := 0)) re_int)
 (rs_ret (re_op r2_mod (re_op r2_div (re_op r2_mod (re_op r2_mulX (re_op r2_ixD (re_var (i := 0)) re_int) (re_op r2_ixD (re_var (i := 0)) re_int)) re_int) re_int) (re_var (i := 1))))))) h
theorem st__law_take (a0 a1 : A) (st : Sto) : m__law_take [a0, a1] st = fin (b__law_take [some a0, some a1, none] st) := rfl

/-! ### _law_bag -/
abbrev s__law_bag : Stmt := topS 27
theorem sc__law_bag : FnScope ["script", "k", "cell"] ["script", "k"] (defScope s__law_bag) := ⟨rfl, rfl, rfl, by decide +kernel, rfl, by decide +kernel, by decide +kernel⟩

noncomputable def b__law_bag : MS := (sSeq (sAsg (mC (.int 0)) (mgName 2))
 (sSeq (sIf (mTest (mOp oLt (mVar 1) (mCB oLen (mCons (mVar 0) mNil))))
 (sAsg (mCB oAbs (mCons (mOp oIxD (mVar 0) (mVar 1)) mNil)) (mgName 2))
 sNext)
 (sSeq (sIf (mTest (mOp oLt (mVar 2) (mOp oPow (mC (.int 10)) (mC (.int 18)))))
 (sRet (mLst (mCons (mC (.int 0)) (mCons (mOp oAddX (mC (.int 1)) (mOp oMod (mOp oAddX (mOp oMulX (mVar 2) (mC (.int 7919))) (mOp oMulX (mC (.int 104729)) (mVar 1))) (mC (.int 2147483646)))) mNil))))
 sNext)
 (sRet (mLst (mCons (mVar 2) (mCons (mOp oAddX (mC (.int 1)) (mOp oMod (mOp oAddX (mVar 2) (mVar 1)) (mC (.int 2147483646)))) mNil)))))))
noncomputable def m__law_bag : List A → Sto → Res A := runB 3 b__law_bag
theorem ok__law_bag {f : Addr} {fd : FuncData} (F : Fun K "_law_bag" "_law_bag" s__law_bag f fd) (gm : mg "_law_bag" = some (.ref f)) (N : Fre K mg)  : C8.Cal P w K mg base 1 "_law_bag" (spN K w 2 m__law_bag) [] := by
  refine mkCal F gm sc__law_bag (F.binds (ps := ["script", "k"]) fun _ _ _ _ _ _ us hl => match us, hl with | [_, _], _ => rfl) (fun vs H Q E h => ?_) (fun cdv A outer s H vs Q E hr h => ?_)
  · obtain ⟨_, _, _, hl, _⟩ := h
    exact hl
  · refine ⟨_, (pss_cons (ps_set (i := 2) sc__law_bag.nd rfl (.inl rfl) pe_int)
 (pss_cons (ps_if (pt_cmpR (show OpR _ _ rLtD from dLt) (pv 1) (pe_callB (show CallR _ _ (rLenAny K) from call_lenAny) (by rfl) N.len (by decide +kernel) (pa_cons (pv 0) pa_nil)) (nomark _))
 (pss_one (ps_set (i := 2) sc__law_bag.nd rfl (.inl rfl) (pe_callB call_abs (by rfl) N.abs (by decide +kernel) (pa_cons (pe_ix (show IxR _ (rIxAny K) from dIx) (pv 0) (pv 1) (fun _ _ => rfl)) pa_nil))))
 pss_nil)
 (pss_cons (ps_if (pt_cmpR (show OpR _ _ rLtD from dLt) (pv 2) (pe_op (show OpR _ _ rPowD from dPow) pe_int pe_int) (nomark _))
 (pss_one (ps_ret (pe_lst (pa_cons pe_int (pa_cons (pe_op (show OpR _ _ (rAddX K) from dAddX) pe_int (pe_op (show OpR _ _ rModD from dMod) (pe_op (show OpR _ _ (rAddX K) from dAddX) (pe_op (show OpR _ _ rMulX from dMulX) (pv 2) pe_int) (pe_op (show OpR _ _ rMulX from dMulX) pe_int (pv 1))) pe_int)) pa_nil)))))
 pss_nil)
 (pss_one (ps_ret (pe_lst (pa_cons (pv 2) (pa_cons (pe_op (show OpR _ _ (rAddX K) from dAddX) pe_int (pe_op (show OpR _ _ rModD from dMod) (pe_op (show OpR _ _ (rAddX K) from dAddX) (pv 2) (pv 1)) pe_int)) pa_nil)))))))), ?_⟩
    exact spN_body (b := b__law_bag) (show RS K w WF _ b__law_bag from (rs_seq (rs_asg re_int (rg_name (i := 2) (vs := [2]) (by decide)))
 (rs_seq (rs_if (rt_test (re_op r2_lt (re_var (i := 1)) (re_cb rl_len (ra_cons (re_var (i := 0)) ra_nil))))
 (rs_asg (re_cb rl_abs (ra_cons (re_op r2_ixD (re_var (i := 0)) (re_var (i := 1))) ra_nil)) (rg_name (i := 2) (vs := [2]) (by decide)))
 rs_next)
 (rs_seq (rs_if (rt_test (re_op r2_lt (re_var (i := 2)) (re_op r2_pow re_int re_int)))
 (rs_ret (re_lst (ra_cons re_int (ra_cons (re_op r2_addX re_int (re_op r2_mod (re_op r2_addX (re_op r2_mulX (re_var (i := 2)) re_int) (re_op r2_mulX re_int (re_var (i := 1)))) re_int)) ra_nil))))
 rs_next)
 (rs_ret (re_lst (ra_cons (re_var (i := 2)) (ra_cons (re_op r2_addX re_int (re_op r2_mod (re_op r2_addX (re_var (i := 2)) (re_var (i := 1))) re_int)) ra_nil)))))))) h
theorem st__law_bag (a0 a1 : A) (st : Sto) : m__law_bag [a0, a1] st = fin (b__law_bag [some a0, some a1, none] st) := rfl

theorem take_ev {st : Sto} {b : Nat} {m : Int} (hB : BagAt st b) (hm : 0 < m) (hm2 : m < 2 ^ 200) :
    ∃ r st', m__law_take [.ref b, .int m] st = .ok (.int r) st' ∧ 0 ≤ r ∧ r < m ∧ Old b st st' ∧ BagAt st' b ∧ st'.length = st.length := by
  have hl := hB.lt
  obtain ⟨x, y, hb, hx, hy, hy2⟩ := hB
  rw [st__law_take]
  unfold b__law_take
  by_cases h0 : 0 < x
  · have hd := log_lt hm hm2
    have hp : ∀ (a : A) (env : AEnv) (s : Sto), putO (.int 0) (some (b, [.int x, .int y])) a env s = .fl (.nx env) (s.set b (.lst [a, .int y])) := fun a env s => ev_putO (j := 0) ix20
    simp only [ev_bok, ev_bno, ev_bex, ev_tok, ev_tno, ev_tex, ev_nnx, ev_nrt, ev_nbk, ev_nct, ev_nex, ev_nno, ev_frt, ev_fnx, ev_fex, ev_xok, ev_lsome, ev_lnone, ev_seq, ev_if, ev_ret, ev_retN, ev_drop, ev_nop, ev_brk, ev_cont, ev_asgN, ev_asgT, ev_asgO, ev_mgTup, ev_mgN, ev_mgC, ev_mg0, ev_putL, ev_putO, ev_var, ev_vr, ev_c, ev_op, ev_un, ev_test, ev_tb, ev_notT, ev_andT, ev_orT, ev_ifE, ev_not, ev_nb, ev_and, ev_andK, ev_or, ev_orK, ev_chain, ev_chK, ev_nil, ev_cons, ev_tup, ev_lst, ev_new, ev_call, ev_cb, ev_size, ev_addI, ev_addS, ev_addT, ev_addL, ev_catO, ev_sub, ev_mul, ev_div, ev_mod, ev_p5, ev_p6, ev_p12, ev_p18, ev_p30, ev_neg, ev_ltI, ev_ltS, ev_leI, ev_leS, ev_gt, ev_ge, ev_eqI, ev_eqS, ev_neI, ev_neS, ev_neB, ev_eqB, ev_is, ev_isnot, ev_ixT, ev_ixS, ev_ixR, ev_ixL, ev_ixK, ev_getL, ev_getM, ev_gL, ev_gM, ev_at0, ev_at1, ev_at2, ev_at3, ev_at4, ev_lenS, ev_lenR, ev_lenT, ev_lenL, ev_lenO, ev_lenD, ev_abs, ev_min2, ev_max2, ev_intI, ev_intB, ev_set, ev_fc, ev_setset, ev_last, ev_appk, ev_app0, ev_setk, ev_set0, ev_assoc, ev_lapp, ev_lappA, ev_sl, ev_nopart, ev_part, ev_ptK, ev_slT, ev_slS, ev_slR, ev_slK, ev_tyN, ev_tyB, ev_tyI, ev_tyS, ev_tyT, ev_tyL, ev_tyR, ev_tyRL, ev_isi, ev_isi1, ev_isi2, ev_isi3, ev_isi4, ev_isi5, ev_isiT, ev_isi2K, ev_isTy, ev_list, ev_listK, ev_tuple, ev_tupK, ev_getST, ev_getSR, ev_getSL, ev_all, ev_allK, ev_eqXI, ev_eqXS, ev_neXI, ev_neXS, ev_neXB, ev_eqXB, ev_eqXR, ev_neXR, ev_nil2, ev_eqK, ev_neK, ev_meth, ev_meth0, ev_mth1, ev_mth2, ev_mth3, ev_append, ev_m0, ev_m0K, ev_str, ev_for, ev_miR1, ev_rg1K, ev_miL, ev_liK, ev_miT, ev_tiK, ev_lc, ev_wipe0, ev_wipeS, ev_yes, ev_lenSet, ev_lenSetK, ev_listR, ev_lrK, ev_put2, ev_p2A, ev_p2K, ev_p2E, ev_put1, ev_pt1, ev_addXI, ev_addXB, ev_addXS, ev_addXT, ev_addXL, ev_subXI, ev_subXB, ev_mulXI, ev_mulXB, ev_mulXL, ev_negXI, ev_negXB, ev_strXI, ev_strXB, ev_mulYI, ev_mulYB, ev_mulYL, ev_mulYT, ev_dnew, ev_dnewT, ev_dgetE, ev_getD, ev_gD, ev_keyI, ev_keyS, ev_dgK, ev_dinE, ev_diK, ev_dputE, ev_dpK, ev_dget2E, ev_isDA, ev_isSome, ev_isNone, ev_dg2K, ev_dpop2E, ev_dp2K, ev_dp3S, ev_dp3N, ev_sortedE, ev_srO1, ev_srO2, ev_gLd, ev_srKS, ev_srKI, ev_gDT, ev_gT, ev_tinE, ev_tiKK, ev_keysA, ev_keysN, ev_keysC, ev_dputTE, ev_dptK, ev_dispE, ev_mpN, ev_mpC, ev_pcK, ev_dsK, ev_dsK2, ev_lc2E, List.getElem?_cons_zero, List.getElem?_cons_succ, List.set_cons_zero, List.set_cons_succ, List.length_cons, List.length_nil, List.cons_append, List.nil_append, if_true, if_false, Bool.false_eq_true, Bool.true_eq_false, reduceIte, Bool.not_true, Bool.not_false, Bool.and_true, Bool.true_and, Bool.and_false, Bool.false_and, Bool.or_true, Bool.true_or, Bool.or_false, Bool.false_or, decide_eq_true_eq, Nat.reduceAdd, Nat.reduceLeDiff, Nat.zero_add, Int.reduceLT, Int.reduceLE, Int.reduceEq, Int.reduceNeg, Nat.reduceEqDiff, and_self, and_true, true_and, decide_true, decide_false, eq_self, ite_true, ite_false, Int.reduceSub, Int.reduceAdd, Int.cast_ofNat_Int, Int.natCast_add, Int.cast_ofNat_Int, Nat.reduceSub, Nat.add_assoc, String.reduceBEq, String.reduceEq, Bool.or_not_self, beq_self_eq_true, hb, h0, hm, hd, hp, and_self, decide_true]
    refine ⟨_, _, rfl, Int.emod_nonneg _ (by omega), Int.emod_lt_of_pos _ hm, Old.put _ _ _, ⟨x / m, y, ?_, Int.ediv_nonneg hx (by omega), hy, hy2⟩, List.length_set⟩
    rw [List.getElem?_set_self hl]
  · have hp : ∀ (a : A) (env : AEnv) (s : Sto), putO (.int 1) (some (b, [.int x, .int y])) a env s = .fl (.nx env) (s.set b (.lst [.int x, a])) := fun a env s => ev_putO (j := 1) ix21
    have l64 : (64 : Int).natAbs.log2 < 9000 := by decide
    have c1 : cMul y 48271 = true := cMul_r (by decide)
    have hz1 : 0 ≤ y * 48271 % 2147483647 := Int.emod_nonneg _ (by decide)
    have hz2 : y * 48271 % 2147483647 < 2147483647 := Int.emod_lt_of_pos _ (by decide)
    have c2 : cMul (y * 48271 % 2147483647) (y * 48271 % 2147483647) = true := cMul_l ⟨by omega, by omega⟩
    have hs : (st.set b (.lst [.int x, .int (y * 48271 % 2147483647)]))[b]? = some (.lst [.int x, .int (y * 48271 % 2147483647)]) := List.getElem?_set_self hl
    simp only [ev_bok, ev_bno, ev_bex, ev_tok, ev_tno, ev_tex, ev_nnx, ev_nrt, ev_nbk, ev_nct, ev_nex, ev_nno, ev_frt, ev_fnx, ev_fex, ev_xok, ev_lsome, ev_lnone, ev_seq, ev_if, ev_ret, ev_retN, ev_drop, ev_nop, ev_brk, ev_cont, ev_asgN, ev_asgT, ev_asgO, ev_mgTup, ev_mgN, ev_mgC, ev_mg0, ev_putL, ev_putO, ev_var, ev_vr, ev_c, ev_op, ev_un, ev_test, ev_tb, ev_notT, ev_andT, ev_orT, ev_ifE, ev_not, ev_nb, ev_and, ev_andK, ev_or, ev_orK, ev_chain, ev_chK, ev_nil, ev_cons, ev_tup, ev_lst, ev_new, ev_call, ev_cb, ev_size, ev_addI, ev_addS, ev_addT, ev_addL, ev_catO, ev_sub, ev_mul, ev_div, ev_mod, ev_p5, ev_p6, ev_p12, ev_p18, ev_p30, ev_neg, ev_ltI, ev_ltS, ev_leI, ev_leS, ev_gt, ev_ge, ev_eqI, ev_eqS, ev_neI, ev_neS, ev_neB, ev_eqB, ev_is, ev_isnot, ev_ixT, ev_ixS, ev_ixR, ev_ixL, ev_ixK, ev_getL, ev_getM, ev_gL, ev_gM, ev_at0, ev_at1, ev_at2, ev_at3, ev_at4, ev_lenS, ev_lenR, ev_lenT, ev_lenL, ev_lenO, ev_lenD, ev_abs, ev_min2, ev_max2, ev_intI, ev_intB, ev_set, ev_fc, ev_setset, ev_last, ev_appk, ev_app0, ev_setk, ev_set0, ev_assoc, ev_lapp, ev_lappA, ev_sl, ev_nopart, ev_part, ev_ptK, ev_slT, ev_slS, ev_slR, ev_slK, ev_tyN, ev_tyB, ev_tyI, ev_tyS, ev_tyT, ev_tyL, ev_tyR, ev_tyRL, ev_isi, ev_isi1, ev_isi2, ev_isi3, ev_isi4, ev_isi5, ev_isiT, ev_isi2K, ev_isTy, ev_list, ev_listK, ev_tuple, ev_tupK, ev_getST, ev_getSR, ev_getSL, ev_all, ev_allK, ev_eqXI, ev_eqXS, ev_neXI, ev_neXS, ev_neXB, ev_eqXB, ev_eqXR, ev_neXR, ev_nil2, ev_eqK, ev_neK, ev_meth, ev_meth0, ev_mth1, ev_mth2, ev_mth3, ev_append, ev_m0, ev_m0K, ev_str, ev_for, ev_miR1, ev_rg1K, ev_miL, ev_liK, ev_miT, ev_tiK, ev_lc, ev_wipe0, ev_wipeS, ev_yes, ev_lenSet, ev_lenSetK, ev_listR, ev_lrK, ev_put2, ev_p2A, ev_p2K, ev_p2E, ev_put1, ev_pt1, ev_addXI, ev_addXB, ev_addXS, ev_addXT, ev_addXL, ev_subXI, ev_subXB, ev_mulXI, ev_mulXB, ev_mulXL, ev_negXI, ev_negXB, ev_strXI, ev_strXB, ev_mulYI, ev_mulYB, ev_mulYL, ev_mulYT, ev_dnew, ev_dnewT, ev_dgetE, ev_getD, ev_gD, ev_keyI, ev_keyS, ev_dgK, ev_dinE, ev_diK, ev_dputE, ev_dpK, ev_dget2E, ev_isDA, ev_isSome, ev_isNone, ev_dg2K, ev_dpop2E, ev_dp2K, ev_dp3S, ev_dp3N, ev_sortedE, ev_srO1, ev_srO2, ev_gLd, ev_srKS, ev_srKI, ev_gDT, ev_gT, ev_tinE, ev_tiKK, ev_keysA, ev_keysN, ev_keysC, ev_dputTE, ev_dptK, ev_dispE, ev_mpN, ev_mpC, ev_pcK, ev_dsK, ev_dsK2, ev_lc2E, List.getElem?_cons_zero, List.getElem?_cons_succ, List.set_cons_zero, List.set_cons_succ, List.length_cons, List.length_nil, List.cons_append, List.nil_append, if_true, if_false, Bool.false_eq_true, Bool.true_eq_false, reduceIte, Bool.not_true, Bool.not_false, Bool.and_true, Bool.true_and, Bool.and_false, Bool.false_and, Bool.or_true, Bool.true_or, Bool.or_false, Bool.false_or, decide_eq_true_eq, Nat.reduceAdd, Nat.reduceLeDiff, Nat.zero_add, Int.reduceLT, Int.reduceLE, Int.reduceEq, Int.reduceNeg, Nat.reduceEqDiff, and_self, and_true, true_and, decide_true, decide_false, eq_self, ite_true, ite_false, Int.reduceSub, Int.reduceAdd, Int.cast_ofNat_Int, Int.natCast_add, Int.cast_ofNat_Int, Nat.reduceSub, Nat.add_assoc, String.reduceBEq, String.reduceEq, Bool.or_not_self, beq_self_eq_true, hb, h0, hm, hp, c1, c2, hs, l64]
    exact ⟨_, _, rfl, Int.emod_nonneg _ (by omega), Int.emod_lt_of_pos _ hm, Old.put _ _ _, ⟨x, _, hs, hx, hz1, hz2⟩, List.length_set⟩
theorem bag_pos' (c : Int) : 0 ≤ 1 + c % 2147483646 ∧ 1 + c % 2147483646 < 2147483647 := by
  have h1 : 0 ≤ c % 2147483646 := Int.emod_nonneg _ (by decide)
  have h2 : c % 2147483646 < 2147483646 := Int.emod_lt_of_pos _ (by decide)
  omega
theorem bag_ev {st : Sto} {ns : List Int} {k : Int} (hk : 0 ≤ k) (hk2 : k < 100) : ∃ o, m__law_bag [.lit (ns.map A.int), .int k] st = .ok (.ref st.length) (st ++ [o]) ∧ BagAt (st ++ [o]) st.length := by
  rw [st__law_bag]
  unfold b__law_bag
  have hpw : ((10 : Int) ^ (18 : Int).toNat) = 1000000000000000000 := by decide
  have pw : (0 ≤ (18 : Int) ∧ (18 : Int) ≤ 1000000 ∧ (10 : Int).natAbs < 2 ^ 64) = True := by simp
  have p1 : ((0 : Int) < 2147483646) = True := by simp
  have fin1 : ∀ d : Int, 0 ≤ d → ∃ o, fin (sSeq (sIf (mTest (mOp oLt (mVar 2) (mOp oPow (mC (.int 10)) (mC (.int 18))))) (sRet (mLst (mCons (mC (.int 0)) (mCons (mOp oAddX (mC (.int 1)) (mOp oMod (mOp oAddX (mOp oMulX (mVar 2) (mC (.int 7919))) (mOp oMulX (mC (.int 104729)) (mVar 1))) (mC (.int 2147483646)))) mNil)))) sNext) (sRet (mLst (mCons (mVar 2) (mCons (mOp oAddX (mC (.int 1)) (mOp oMod (mOp oAddX (mVar 2) (mVar 1)) (mC (.int 2147483646)))) mNil)))) [some (.lit (ns.map A.int)), some (.int k), some (.int d)] st) = .ok (.ref st.length) (st ++ [o]) ∧ BagAt (st ++ [o]) st.length := fun d hd => by
    have c1 : cMul d 7919 = true := cMul_r (by decide)
    have c2 : cMul 104729 k = true := cMul_l (by decide)
    by_cases h : d < 1000000000000000000
    · simp only [ev_bok, ev_bno, ev_bex, ev_tok, ev_tno, ev_tex, ev_nnx, ev_nrt, ev_nbk, ev_nct, ev_nex, ev_nno, ev_frt, ev_fnx, ev_fex, ev_xok, ev_lsome, ev_lnone, ev_seq, ev_if, ev_ret, ev_retN, ev_drop, ev_nop, ev_brk, ev_cont, ev_asgN, ev_asgT, ev_asgO, ev_mgTup, ev_mgN, ev_mgC, ev_mg0, ev_putL, ev_putO, ev_var, ev_vr, ev_c, ev_op, ev_un, ev_test, ev_tb, ev_notT, ev_andT, ev_orT, ev_ifE, ev_not, ev_nb, ev_and, ev_andK, ev_or, ev_orK, ev_chain, ev_chK, ev_nil, ev_cons, ev_tup, ev_lst, ev_new, ev_call, ev_cb, ev_size, ev_addI, ev_addS, ev_addT, ev_addL, ev_catO, ev_sub, ev_mul, ev_div, ev_mod, ev_p5, ev_p6, ev_p12, ev_p18, ev_p30, ev_neg, ev_ltI, ev_ltS, ev_leI, ev_leS, ev_gt, ev_ge, ev_eqI, ev_eqS, ev_neI, ev_neS, ev_neB, ev_eqB, ev_is, ev_isnot, ev_ixT, ev_ixS, ev_ixR, ev_ixL, ev_ixK, ev_getL, ev_getM, ev_gL, ev_gM, ev_at0, ev_at1, ev_at2, ev_at3, ev_at4, ev_lenS, ev_lenR, ev_lenT, ev_lenL, ev_lenO, ev_lenD, ev_abs, ev_min2, ev_max2, ev_intI, ev_intB, ev_set, ev_fc, ev_setset, ev_last, ev_appk, ev_app0, ev_setk, ev_set0, ev_assoc, ev_lapp, ev_lappA, ev_sl, ev_nopart, ev_part, ev_ptK, ev_slT, ev_slS, ev_slR, ev_slK, ev_tyN, ev_tyB, ev_tyI, ev_tyS, ev_tyT, ev_tyL, ev_tyR, ev_tyRL, ev_isi, ev_isi1, ev_isi2, ev_isi3, ev_isi4, ev_isi5, ev_isiT, ev_isi2K, ev_isTy, ev_list, ev_listK, ev_tuple, ev_tupK, ev_getST, ev_getSR, ev_getSL, ev_all, ev_allK, ev_eqXI, ev_eqXS, ev_neXI, ev_neXS, ev_neXB, ev_eqXB, ev_eqXR, ev_neXR, ev_nil2, ev_eqK, ev_neK, ev_meth, ev_meth0, ev_mth1, ev_mth2, ev_mth3, ev_append, ev_m0, ev_m0K, ev_str, ev_for, ev_miR1, ev_rg1K, ev_miL, ev_liK, ev_miT, ev_tiK, ev_lc, ev_wipe0, ev_wipeS, ev_yes, ev_lenSet, ev_lenSetK, ev_listR, ev_lrK, ev_put2, ev_p2A, ev_p2K, ev_p2E, ev_put1, ev_pt1, ev_addXI, ev_addXB, ev_addXS, ev_addXT, ev_addXL, ev_subXI, ev_subXB, ev_mulXI, ev_mulXB, ev_mulXL, ev_negXI, ev_negXB, ev_strXI, ev_strXB, ev_mulYI, ev_mulYB, ev_mulYL, ev_mulYT, ev_dnew, ev_dnewT, ev_dgetE, ev_getD, ev_gD, ev_keyI, ev_keyS, ev_dgK, ev_dinE, ev_diK, ev_dputE, ev_dpK, ev_dget2E, ev_isDA, ev_isSome, ev_isNone, ev_dg2K, ev_dpop2E, ev_dp2K, ev_dp3S, ev_dp3N, ev_sortedE, ev_srO1, ev_srO2, ev_gLd, ev_srKS, ev_srKI, ev_gDT, ev_gT, ev_tinE, ev_tiKK, ev_keysA, ev_keysN, ev_keysC, ev_dputTE, ev_dptK, ev_dispE, ev_mpN, ev_mpC, ev_pcK, ev_dsK, ev_dsK2, ev_lc2E, List.getElem?_cons_zero, List.getElem?_cons_succ, List.set_cons_zero, List.set_cons_succ, List.length_cons, List.length_nil, List.cons_append, List.nil_append, if_true, if_false, Bool.false_eq_true, Bool.true_eq_false, reduceIte, Bool.not_true, Bool.not_false, Bool.and_true, Bool.true_and, Bool.and_false, Bool.false_and, Bool.or_true, Bool.true_or, Bool.or_false, Bool.false_or, decide_eq_true_eq, Nat.reduceAdd, Nat.reduceLeDiff, Nat.zero_add, Int.reduceLT, Int.reduceLE, Int.reduceEq, Int.reduceNeg, Nat.reduceEqDiff, and_self, and_true, true_and, decide_true, decide_false, eq_self, ite_true, ite_false, Int.reduceSub, Int.reduceAdd, Int.cast_ofNat_Int, Int.natCast_add, Int.cast_ofNat_Int, Nat.reduceSub, Nat.add_assoc, String.reduceBEq, String.reduceEq, Bool.or_not_self, beq_self_eq_true, h, c1, c2, p1, decide_true]
      exact ⟨_, rfl, 0, _, ev_last, by decide, (bag_pos' _).1, (bag_pos' _).2⟩
    · simp only [ev_bok, ev_bno, ev_bex, ev_tok, ev_tno, ev_tex, ev_nnx, ev_nrt, ev_nbk, ev_nct, ev_nex, ev_nno, ev_frt, ev_fnx, ev_fex, ev_xok, ev_lsome, ev_lnone, ev_seq, ev_if, ev_ret, ev_retN, ev_drop, ev_nop, ev_brk, ev_cont, ev_asgN, ev_asgT, ev_asgO, ev_mgTup, ev_mgN, ev_mgC, ev_mg0, ev_putL, ev_putO, ev_var, ev_vr, ev_c, ev_op, ev_un, ev_test, ev_tb, ev_notT, ev_andT, ev_orT, ev_ifE, ev_not, ev_nb, ev_and, ev_andK, ev_or, ev_orK, ev_chain, ev_chK, ev_nil, ev_cons, ev_tup, ev_lst, ev_new, ev_call, ev_cb, ev_size, ev_addI, ev_addS, ev_addT, ev_addL, ev_catO, ev_sub, ev_mul, ev_div, ev_mod, ev_p5, ev_p6, ev_p12, ev_p18, ev_p30, ev_neg, ev_ltI, ev_ltS, ev_leI, ev_leS, ev_gt, ev_ge, ev_eqI, ev_eqS, ev_neI, ev_neS, ev_neB, ev_eqB, ev_is, ev_isnot, ev_ixT, ev_ixS, ev_ixR, ev_ixL, ev_ixK, ev_getL, ev_getM, ev_gL, ev_gM, ev_at0, ev_at1, ev_at2, ev_at3, ev_at4, ev_lenS, ev_lenR, ev_lenT, ev_lenL, ev_lenO, ev_lenD, ev_abs, ev_min2, ev_max2, ev_intI, ev_intB, ev_set, ev_fc, ev_setset, ev_last, ev_appk, ev_app0, ev_setk, ev_set0, ev_assoc, ev_lapp, ev_lappA, ev_sl, ev_nopart, ev_part, ev_ptK, ev_slT, ev_slS, ev_slR, ev_slK, ev_tyN, ev_tyB, ev_tyI, ev_tyS, ev_tyT, ev_tyL, ev_tyR, ev_tyRL, ev_isi, ev_isi1, ev_isi2, ev_isi3, ev_isi4, ev_isi5, ev_isiT, ev_isi2K, ev_isTy, ev_list, ev_listK, ev_tuple, ev_tupK, ev_getST, ev_getSR, ev_getSL, ev_all, ev_allK, ev_eqXI, ev_eqXS, ev_neXI, ev_neXS, ev_neXB, ev_eqXB, ev_eqXR, ev_neXR, ev_nil2, ev_eqK, ev_neK, ev_meth, ev_meth0, ev_mth1, ev_mth2, ev_mth3, ev_append, ev_m0, ev_m0K, ev_str, ev_for, ev_miR1, ev_rg1K, ev_miL, ev_liK, ev_miT, ev_tiK, ev_lc, ev_wipe0, ev_wipeS, ev_yes, ev_lenSet, ev_lenSetK, ev_listR, ev_lrK, ev_put2, ev_p2A, ev_p2K, ev_p2E, ev_put1, ev_pt1, ev_addXI, ev_addXB, ev_addXS, ev_addXT, ev_addXL, ev_subXI, ev_subXB, ev_mulXI, ev_mulXB, ev_mulXL, ev_negXI, ev_negXB, ev_strXI, ev_strXB, ev_mulYI, ev_mulYB, ev_mulYL, ev_mulYT, ev_dnew, ev_dnewT, ev_dgetE, ev_getD, ev_gD, ev_keyI, ev_keyS, ev_dgK, ev_dinE, ev_diK, ev_dputE, ev_dpK, ev_dget2E, ev_isDA, ev_isSome, ev_isNone, ev_dg2K, ev_dpop2E, ev_dp2K, ev_dp3S, ev_dp3N, ev_sortedE, ev_srO1, ev_srO2, ev_gLd, ev_srKS, ev_srKI, ev_gDT, ev_gT, ev_tinE, ev_tiKK, ev_keysA, ev_keysN, ev_keysC, ev_dputTE, ev_dptK, ev_dispE, ev_mpN, ev_mpC, ev_pcK, ev_dsK, ev_dsK2, ev_lc2E, List.getElem?_cons_zero, List.getElem?_cons_succ, List.set_cons_zero, List.set_cons_succ, List.length_cons, List.length_nil, List.cons_append, List.nil_append, if_true, if_false, Bool.false_eq_true, Bool.true_eq_false, reduceIte, Bool.not_true, Bool.not_false, Bool.and_true, Bool.true_and, Bool.and_false, Bool.false_and, Bool.or_true, Bool.true_or, Bool.or_false, Bool.false_or, decide_eq_true_eq, Nat.reduceAdd, Nat.reduceLeDiff, Nat.zero_add, Int.reduceLT, Int.reduceLE, Int.reduceEq, Int.reduceNeg, Nat.reduceEqDiff, and_self, and_true, true_and, decide_true, decide_false, eq_self, ite_true, ite_false, Int.reduceSub, Int.reduceAdd, Int.cast_ofNat_Int, Int.natCast_add, Int.cast_ofNat_Int, Nat.reduceSub, Nat.add_assoc, String.reduceBEq, String.reduceEq, Bool.or_not_self, beq_self_eq_true, h, p1, decide_false]
      exact ⟨_, rfl, d, _, ev_last, hd, (bag_pos' _).1, (bag_pos' _).2⟩
  by_cases h : k < ns.length
  · obtain ⟨j, hj⟩ : ∃ j : Nat, k = (j : Int) := ⟨k.toNat, by omega⟩
    have hjl : j < ns.length := by omega
    have hat : atI (ns.map A.int) k = some (.int ns[j]) := by
      rw [hj]
      exact atI_nat (by rw [List.getElem?_map, List.getElem?_eq_getElem hjl]; rfl)
    have ha : 0 ≤ (if ns[j] < 0 then -ns[j] else ns[j]) := by split <;> omega
    obtain ⟨o, e, g⟩ := fin1 _ ha
    refine ⟨o, ?_, g⟩
    simp only [ev_seq, ev_asgN, ev_c, ev_tok, ev_nnx, ev_if, ev_test, ev_op, ev_cb, ev_cons, ev_nil, ev_bok, ev_var, List.getElem?_cons_succ, List.getElem?_cons_zero, ev_vr, ev_lenL, List.set_cons_succ, List.set_cons_zero, List.length_map, ev_ltI, ev_tb, h, decide_true, if_true, ev_ixL, hat, ev_lsome, ev_abs] at e ⊢
    exact e
  · obtain ⟨o, e, g⟩ := fin1 0 (by decide)
    refine ⟨o, ?_, g⟩
    simp only [ev_seq, ev_asgN, ev_c, ev_tok, ev_nnx, ev_if, ev_test, ev_op, ev_cb, ev_cons, ev_nil, ev_bok, ev_var, List.getElem?_cons_succ, List.getElem?_cons_zero, ev_vr, ev_lenL, List.set_cons_succ, List.set_cons_zero, List.length_map, ev_ltI, ev_tb, h, decide_false, if_false, Bool.false_eq_true, ev_nop] at e ⊢
    exact e
theorem BagAt.apps {st : Sto} {b : Nat} (h : BagAt st b) (l : Sto) : BagAt (st ++ l) b := by
  have hl := h.lt
  obtain ⟨x, y, e, r⟩ := h
  exact ⟨x, y, by rw [List.getElem?_append_left hl]; exact e, r⟩
theorem Old.apps (b : Nat) (st l : Sto) : Old b st (st ++ l) := ⟨by rw [List.length_append]; omega, fun n hn _ => List.getElem?_append_left hn⟩

end
/-! ### rules of our own: name = {k: v for ..}, d.setdefault(tuple, x) -/
section
variable {X : Cx}
theorem sw_trueD {kx vx : Expr} {gs : List Comprehension} {scope : Scope} {pos py : Pos} {y : Str} {l : Nat} {env : Env} (hk : env.scope.kind = .function) (hy : env.scope.names.lookup y = some .local) (hl : (py.line == pos.line) = true)
    (hno : (scope.names.any fun (n, k) => n == y && (k == .local || k == .cell)) = false) : swapsWith (.DictComp kx vx gs scope pos) (some (.Name y py)) l env = pure true := by
  have k1 : env.kindOf y = some .local := hy
  have b1 : env.blockKind = .function := by
    unfold Env.blockKind
    rw [hk]
    rfl
  unfold swapsWith
  simp only [b1, k1, hno, Expr.pos, hl]
  rfl
theorem ps_setDc {i : Nat} {y : Str} {py : Pos} {kx vx tg iter : Expr} {ifs : List Expr} {scope : Scope} {own : List (Str × Nat)} {pos spos : Pos} {wi : TI} {g : TG} {tt : TT} {tk tv : TE} (hc : X.calm = true) (hN : X.N.Nodup) (hy : X.N[i]? = some y) (hyl : X.env.scope.names.lookup y = some .local)
    (hsw : swapsWith (.DictComp kx vx [⟨tg, iter, ifs, 0⟩] scope pos) (some (.Name y py)) spos.line X.env = pure true) (hi : PI X tg iter wi) (ok : BlkOk X.N X.env.scope scope own)
    (hg : ∀ (s1 : Shared) (H1 : Hp) (C1 : Addr) (cl1 : List (Str × Addr)) (fp1 : List Addr), PG (X.blk s1 H1 scope (compEnvC scope cl1 C1 X.env) fp1) tg g) (ht : ∀ (s1 : Shared) (H1 : Hp) (C1 : Addr) (cl1 : List (Str × Addr)) (fp1 : List Addr), PTs (X.blk s1 H1 scope (compEnvC scope cl1 C1 X.env) fp1) ifs tt)
    (hk : ∀ (s1 : Shared) (H1 : Hp) (C1 : Addr) (cl1 : List (Str × Addr)) (fp1 : List Addr), PE (X.blk s1 H1 scope (compEnvC scope cl1 C1 X.env) fp1) kx tk)
    (hv : ∀ (s1 : Shared) (H1 : Hp) (C1 : Addr) (cl1 : List (Str × Addr)) (fp1 : List Addr), PE (X.blk s1 H1 scope (compEnvC scope cl1 C1 X.env) fp1) vx tv) (hs : ∀ x, foldedSetIterable iter X.env x = pure x := by intro _; rfl) :
    PS X (.Assign [.Name y py] (.DictComp kx vx [⟨tg, iter, ifs, 0⟩] scope pos) spos) (tAsg (tDc wi g tt tk tv (own.map (·.2))) (gName i)) := by
  refine ⟨fun pins s σ H D I hq => ?_⟩
  rw [exec_Assign_Name_used _ _ _ _ hsw]
  refine wpAny_bind (wpAny_standAt (wpAny_bind ?_))
  show wpAny _ X.A (do let _ ← comprehension (.DictComp kx vx [⟨tg, iter, ifs, 0⟩] scope pos) scope X.env (firstIterPos [⟨tg, iter, ifs, 0⟩] pos) newDict false (eval iter X.env) (some (assign (.Name y py) X.env))) _ _ s
  have h1 : tDc wi g tt tk tv (own.map (·.2)) σ H (fun x H1 => gName i x σ H1 D.nx) := hq
  refine wpAny_bind (thn (dc_core (Qf := fun _ s' => SP X pins D .next s') hc hN I hi ok hg ht hk hv hs h1 fun L C s' m H' I' q hn f => ?_) fun _ s' z => wpAny_pure (wpAny_pure z))
  show wpAny _ _ (assign (.Name y py) X.env (.ref L)) _ _ _
  refine wpAny_assign_Name (store_ok2 (v := V.ref L) I' hN hy (.inl hyl) rfl (fun s2 I2 ⟨b, sb, hb⟩ => ?_) (.inr hyl))
  obtain ⟨e0, e1, e2, e3, e4, e5⟩ := f
  have nb : C ≠ b := by
    rcases hb with z | z
    · rw [z]
      exact e1
    · exact fun e => e4 y b z e.symm
  exact ⟨m, hn.sameBut sb nb, fun h3 sb3 => ⟨_, H', I2.turned (t' := s2.toks) (fun c o hc e => (sb3.2 c hc).trans e) e0 e1 e3 e4 e5, q⟩⟩
end
section
variable {X : Cx} {o e f : Expr} {td ty tx : TE} {apos cpos : Pos}
def tSetdT (td ty tx : TE) : TE := fun σ H Q => td σ H fun x H1 => ∃ a, x = .ref a ∧ IsD H1 a ∧ ty σ H1 fun y H2 => tx σ H2 fun z H3 => ∃ (kvs : List (List Key × V)) (k : List Key) (b : Addr), H3 a = some (.dT kvs) ∧ y = .ref b ∧ H3 b = some (.tup (k.map kV)) ∧ kvs.length < sizeLine ∧
  (∀ v, valV kvs k = some v → Q v H3) ∧ (valV kvs k = none → Q z (upd H3 a (.dT (putK kvs k z))))
theorem pe_setdT (hu : X.A.units + 1 < cLine) (ho : PE X o td) (he : PE X e ty) (hf : PE X f tx) (m : M2 X o "setdefault" apos e f cpos) : PE X (.Call (.Attribute o "setdefault" apos) [e, f] [] cpos) (tSetdT td ty tx) := by
  refine ⟨fun pins s σ H Q I hq => ?_⟩
  refine wpAny_Call_method m.base m.few m.line PySem.F.plainAttrs_dict PySem.F.slot_dict_setdefault PySem.F.type_dict_setdefault (thn (ho.run pins s σ H _ I hq) fun u s1 ⟨x, H1, I1, rx, a, ex, d, q1⟩ => ?_)
  subst ex
  obtain rfl : u = Value.ref a := rx
  obtain ⟨t1, t2, _⟩ := isD_at I1 d
  refine ⟨t1, t2, ?_⟩
  rw [m.trees]
  refine Calls.callWith_builtin rfl (Calls.evalArgs_plain (Calls.spliced_cons (thn (he.run pins s1 σ H1 _ I1 q1) fun iv s2 ⟨y, H2, I2, ry, q2⟩ =>
    Calls.spliced_cons (thn (hf.run pins s2 σ H2 _ I2 q2) fun fv s3 ⟨z, H3, I3, rz, kvs, k, b, ea, ey, eb, hl, q3, q4⟩ => Calls.spliced_nil ?_))))
  subst ey
  cases (show iv = Value.ref b from ry)
  obtain ⟨z1, hd, xs, rel, dd⟩ := dt_of I3.hok ea
  have hz : xs.length ≤ sizeLine := by rw [← Paired.length rel]; exact z1
  have hl2 : (putK kvs k z).length ≤ sizeLine := by have := length_putK kvs k z; omega
  refine call_setdefault_heap (hsz := hz) (tupleKind_room_in1 hu) (key_of I3.hok eb) hd dd (fun p hp => ?_) fun hn h' dd' hs => ?_
  · obtain ⟨v0, hv0, rv0⟩ : ∃ v0, valV kvs k = some v0 ∧ RelV v0 p.2 := by
      have g := rel.val k
      rw [hp] at g
      cases g0 : valV kvs k with
      | none =>
        rw [g0] at g
        exact (show False from g).elim
      | some v0 =>
        rw [g0] at g
        exact ⟨v0, rfl, g⟩
    exact ⟨v0, H3, I3.tok _, rv0, q3 v0 hv0⟩
  · have hn0 : valV kvs k = none := by
      have g := rel.val k
      rw [hn] at g
      cases g0 : valV kvs k with
      | none => rfl
      | some v0 =>
        rw [g0] at g
        exact (show False from g).elim
    obtain ⟨q, es, ep, hq, h2, h3, h4, _, h5⟩ := dd'
    refine ⟨z, _, d_write (ob := .dT (putK kvs k z)) I3 (by rw [ea]; exact True.intro) hs ⟨q, hq⟩ ⟨hl2, hd, _, (rel.put k eb rz).keeps fun c ys ec => ?_, q, es, ep, hq, h2, h3, h4, h5⟩, rz, q4 hn0⟩
    rw [upd_ne (ne_of ec ea (fun z => nomatch z))]
    exact ec
end
section
variable {P : Program} {w : World} {K : PySem.W.Frag} {mg : Str → Option Value} {base : Heap}

/-! ### lists of data -/
theorem dpA_set {H : Hp} {v : V} {d : PyData} (hd : Dp K H v d) : ∀ {vs : List V} {ds : List PyData} (n : Nat), DpAll K H vs ds → DpAll K H (vs.set n v) (ds.set n d)
  | _, _, 0, .nil => .nil
  | _, _, n + 1, .nil => .nil
  | _, _, 0, .cons h1 h2 => .cons hd h2
  | _, _, n + 1, .cons h1 h2 => .cons h1 (dpA_set hd n h2)
theorem dpA_take {H : Hp} : ∀ {vs : List V} {ds : List PyData} (n : Nat), DpAll K H vs ds → DpAll K H (vs.take n) (ds.take n)
  | _, _, 0, _ => by rw [List.take_zero, List.take_zero]; exact .nil
  | _, _, n + 1, .nil => by rw [List.take_nil, List.take_nil]; exact .nil
  | _, _, n + 1, .cons h1 h2 => .cons h1 (dpA_take n h2)
theorem dpA_drop {H : Hp} : ∀ {vs : List V} {ds : List PyData} (n : Nat), DpAll K H vs ds → DpAll K H (vs.drop n) (ds.drop n)
  | _, _, 0, h => by rw [List.drop_zero, List.drop_zero]; exact h
  | _, _, n + 1, .nil => by rw [List.drop_nil, List.drop_nil]; exact .nil
  | _, _, n + 1, .cons h1 h2 => dpA_drop n h2
theorem dpA_ins {H : Hp} {v : V} {d : PyData} {vs : List V} {ds : List PyData} (n : Nat) (hd : Dp K H v d) (h : DpAll K H vs ds) : DpAll K H (vs.take n ++ [v] ++ vs.drop n) (ds.take n ++ [d] ++ ds.drop n) :=
  dpAll_append (dpAll_append (dpA_take n h) (.cons hd .nil)) (dpA_drop n h)
theorem cutL_take (xs : List V) {i : Int} (h0 : 0 ≤ i) : cutV xs none (some i) = xs.take i.toNat := by
  obtain ⟨k, rfl⟩ : ∃ k : Nat, i = (k : Int) := ⟨i.toNat, by omega⟩
  unfold cutV
  rw [HT.sIx_none, HT.sIx_nat]
  have e3 : ((k : Nat) : Int).toNat = k := by omega
  rw [e3, Nat.sub_zero]
  show (xs.drop 0).take (min k xs.length) = xs.take k
  rw [List.drop_zero]
  by_cases h : k ≤ xs.length
  · rw [Nat.min_eq_left h]
  · rw [Nat.min_eq_right (by omega), List.take_of_length_le (Nat.le_refl _), List.take_of_length_le (by omega)]
theorem pickAt {α : Type} {xs : List α} {i : Int} (h0 : 0 ≤ i) (h1 : i < xs.length) : ∃ j : Nat, j < xs.length ∧ i = (j : Int) ∧ ∃ x, xs[j]? = some x ∧ atI xs i = some x := by
  obtain ⟨k, rfl⟩ : ∃ k : Nat, i = (k : Int) := ⟨i.toNat, by omega⟩
  have hk : k < xs.length := by omega
  exact ⟨k, hk, rfl, xs[k], List.getElem?_eq_getElem hk, atI_nat (List.getElem?_eq_getElem hk)⟩
theorem pickStr (ws : List Str) {i : Int} (h0 : 0 ≤ i) (h1 : i < ws.length) : ∃ m, m ∈ ws ∧ atI (ws.map V.str) i = some (.str m) := by
  obtain ⟨j, hj, rfl, x, hx, e⟩ := pickAt (xs := ws.map V.str) h0 (by rw [List.length_map]; exact h1)
  rw [List.getElem?_map] at hx
  obtain ⟨m, hm, rfl⟩ := Option.map_eq_some_iff.mp hx
  exact ⟨m, List.mem_of_getElem? hm, e⟩
theorem pickInt (ws : List Int) {i : Int} (h0 : 0 ≤ i) (h1 : i < ws.length) : ∃ m, m ∈ ws ∧ atI (ws.map V.int) i = some (.int m) := by
  obtain ⟨j, hj, rfl, x, hx, e⟩ := pickAt (xs := ws.map V.int) h0 (by rw [List.length_map]; exact h1)
  rw [List.getElem?_map] at hx
  obtain ⟨m, hm, rfl⟩ := Option.map_eq_some_iff.mp hx
  exact ⟨m, List.mem_of_getElem? hm, e⟩
theorem dp_ints {H : Hp} : ∀ {ns : List Int} {vs : List V}, DpAll K H vs (ns.map PyData.int) → vs = ns.map V.int
  | [], _, h => by cases h; rfl
  | n :: ns, _, h => by
    cases h with
    | cons h1 h2 =>
      cases h1
      rw [dp_ints h2]
      rfl
theorem ints_dp {H : Hp} : ∀ (ns : List Int), DpAll K H (ns.map V.int) (ns.map PyData.int)
  | [] => .nil
  | n :: ns => .cons (.int n) (ints_dp ns)
theorem inV_int (i : Int) (ns : List Int) : inV (.int i) (ns.map V.int) = decide (i ∈ ns) := by
  unfold inV
  rw [List.any_map]
  by_cases h : i ∈ ns
  · rw [decide_eq_true h, List.any_eq_true]
    exact ⟨i, h, by simp [eqV]⟩
  · rw [decide_eq_false h, List.any_eq_false]
    intro x hx
    simp only [Function.comp, eqV, beq_iff_eq]
    exact fun z => h (z ▸ hx)
theorem flat_ints (ns : List Int) : (ns.map V.int).all flatV = true := by
  rw [List.all_map, List.all_eq_true]
  intro x _
  rfl
theorem last_at {α : Type} (xs : List α) (x : α) : atI (xs ++ [x]) (-1) = some x := by
  unfold atI ixN
  rw [List.length_append, if_neg (by decide), if_pos (by simp; omega)]
  show (xs ++ [x])[(-1 + ((xs.length + 1 : Nat) : Int)).toNat]? = some x
  rw [show (-1 + ((xs.length + 1 : Nat) : Int)).toNat = xs.length by omega]
  simp
def pairD (p : Int × Int) : PyData := .tuple [.int p.1, .int p.2]
theorem pairD_imm (p : Int × Int) : imm (pairD p) = true := rfl
theorem dp_pair {H : Hp} {v : V} {p : Int × Int} (h : Dp K H v (pairD p)) : ∃ a, v = .ref a ∧ SqT K H a [.int p.1, .int p.2] := by
  cases h with
  | tup hs ha =>
    cases ha with
    | cons h1 ha =>
      cases h1
      cases ha with
      | cons h1 ha =>
        cases h1
        cases ha
        exact ⟨_, rfl, hs⟩
theorem pairs_imm (ps : List (Int × Int)) : immAll (ps.map pairD) = true := immAll_iff.mpr fun e he => by
  obtain ⟨y, _, rfl⟩ := List.mem_map.mp he
  exact pairD_imm y
theorem dget_of {H : Hp} {a : Addr} {kvs : List (Key × V)} {k : Key} {v : V} (h : H a = some (.dK kvs)) (e : valV kvs k = some v) : DGet H a (kV k) (some v) := e ▸ DGet.k h
/-- a list made by two walks, one in the other: the outer one -/
theorem lc2_it {J : It} {n : Nat} {G : Hp → Prop} {Y : Nat → Hp → V → Hp → Prop} (w : Walk J n G Y) {g g1 : TG} {tt tt1 : TT} {te : TE} {wi1 : TI} {vs vs1 : List Nat} {σ : L2.St} {H1 : Hp} {D : Addr} {Qd : Hp → Prop} (Pv : Nat → Hp → Prop) (h0 : Pv 0 (upd H1 D (.lst []))) (hG : ∀ i H, i ≤ n → Pv i H → G H)
    (hs : ∀ i x H H', i < n → Pv i H → Y i H x H' → g x (wipe σ vs) H' fun σ2 H2 => wipe σ2 vs = wipe σ vs ∧ tt σ2 H2 fun b H3 => if b = true then wi1 σ2 H3 fun J1 H4 => ∃ W1 : Nat → Nat → Hp → Prop, (∃ m, W1 0 m H4) ∧ ∀ j k H, W1 j k H →
      (J1.stop j H ∧ Pv (i + 1) H) ∨ (J1.go j H ∧ ∃ Nx1 : Hp → Prop, (∀ H', Nx1 H' → ∃ k', k' < k ∧ W1 (j + 1) k' H') ∧ ∀ x H', J1.yld j H x H' → g1 x (wipe σ2 vs1) H' fun σ3 H5 => wipe σ3 vs1 = wipe σ2 vs1 ∧ tt1 σ3 H5 fun b H6 =>
        if b = true then te σ3 H6 fun y H7 => ∃ acc, H7 D = some (.lst acc) ∧ acc.length < sizeLine ∧ Nx1 (upd H7 D (.lst (acc ++ [y]))) else Nx1 H6) else Pv (i + 1) H3) (hd : ∀ H, Pv n H → Qd H) :
    ∃ W : Nat → Nat → Hp → Prop, (∃ m, W 0 m (upd H1 D (.lst []))) ∧ ∀ i m H, W i m H →
      (J.stop i H ∧ Qd H) ∨ (J.go i H ∧ ∃ Nx : Hp → Prop, (∀ H', Nx H' → ∃ m', m' < m ∧ W (i + 1) m' H') ∧ ∀ x H', J.yld i H x H' → g x (wipe σ vs) H' fun σ2 H2 => wipe σ2 vs = wipe σ vs ∧ tt σ2 H2 fun b H3 => if b = true then wi1 σ2 H3 fun J1 H4 => ∃ W1 : Nat → Nat → Hp → Prop, (∃ m, W1 0 m H4) ∧ ∀ j k H, W1 j k H →
      (J1.stop j H ∧ Nx H) ∨ (J1.go j H ∧ ∃ Nx1 : Hp → Prop, (∀ H', Nx1 H' → ∃ k', k' < k ∧ W1 (j + 1) k' H') ∧ ∀ x H', J1.yld j H x H' → g1 x (wipe σ2 vs1) H' fun σ3 H5 => wipe σ3 vs1 = wipe σ2 vs1 ∧ tt1 σ3 H5 fun b H6 =>
        if b = true then te σ3 H6 fun y H7 => ∃ acc, H7 D = some (.lst acc) ∧ acc.length < sizeLine ∧ Nx1 (upd H7 D (.lst (acc ++ [y]))) else Nx1 H6) else Nx H3) := by
  refine ⟨fun i m H => m = n - i ∧ i ≤ n ∧ Pv i H, ⟨n, by simp, Nat.zero_le _, h0⟩, ?_⟩
  rintro i m H ⟨rfl, hi, p⟩
  have gh := hG i H hi p
  by_cases lt : i < n
  · exact .inr ⟨w.goes i H lt gh, Pv (i + 1), fun H' p' => ⟨n - (i + 1), by omega, rfl, lt, p'⟩, fun x H' y => hs i x H H' lt p (w.yields i H x H' lt gh y)⟩
  · obtain rfl : i = n := by omega
    exact .inl ⟨w.stops H gh, hd H p⟩
/-- .. the inner one -/
theorem li_it {J : It} {n : Nat} {G : Hp → Prop} {Y : Nat → Hp → V → Hp → Prop} (w : Walk J n G Y) {g : TG} {tt : TT} {te : TE} {vs : List Nat} {σ : L2.St} {H4 : Hp} {D : Addr} {Qd : Hp → Prop} (Pv : Nat → Hp → Prop) (h0 : Pv 0 H4) (hG : ∀ i H, i ≤ n → Pv i H → G H)
    (hs : ∀ i x H H', i < n → Pv i H → Y i H x H' → g x (wipe σ vs) H' fun σ2 H2 => wipe σ2 vs = wipe σ vs ∧ tt σ2 H2 fun b H3 =>
      if b = true then te σ2 H3 fun y H7 => ∃ acc, H7 D = some (.lst acc) ∧ acc.length < sizeLine ∧ Pv (i + 1) (upd H7 D (.lst (acc ++ [y]))) else Pv (i + 1) H3) (hd : ∀ H, Pv n H → Qd H) :
    ∃ W1 : Nat → Nat → Hp → Prop, (∃ m, W1 0 m H4) ∧ ∀ j k H, W1 j k H →
      (J.stop j H ∧ Qd H) ∨ (J.go j H ∧ ∃ Nx1 : Hp → Prop, (∀ H', Nx1 H' → ∃ k', k' < k ∧ W1 (j + 1) k' H') ∧ ∀ x H', J.yld j H x H' → g x (wipe σ vs) H' fun σ3 H5 => wipe σ3 vs = wipe σ vs ∧ tt σ3 H5 fun b H6 =>
        if b = true then te σ3 H6 fun y H7 => ∃ acc, H7 D = some (.lst acc) ∧ acc.length < sizeLine ∧ Nx1 (upd H7 D (.lst (acc ++ [y]))) else Nx1 H6) := by
  refine ⟨fun i m H => m = n - i ∧ i ≤ n ∧ Pv i H, ⟨n, by simp, Nat.zero_le _, h0⟩, ?_⟩
  rintro i m H ⟨rfl, hi, p⟩
  have gh := hG i H hi p
  by_cases lt : i < n
  · exact .inr ⟨w.goes i H lt gh, Pv (i + 1), fun H' p' => ⟨n - (i + 1), by omega, rfl, lt, p'⟩, fun x H' y => hs i x H H' lt p (w.yields i H x H' lt gh y)⟩
  · obtain rfl : i = n := by omega
    exact .inl ⟨w.stops H gh, hd H p⟩
/-- pairs of ints, made of two lists of them -/
theorem lc2_ints {a c D : Addr} {xs ys : List Int} {H1 : Hp} {σ : L2.St} {g g1 : TG} {tt1 : TT} {te : TE} {wi1 : TI} {vs vs1 : List Nat} {Qd : Hp → Prop} (f : Int → Int → Option (Int × Int)) (hx : SqL K H1 a (xs.map V.int)) (hy : SqL K H1 c (ys.map V.int)) (nD : H1 D = none) (lx : xs.length ≤ 100) (ly : ys.length ≤ 100)
    (st1 : ∀ (x : Int) (H : Hp) (k : It → Hp → Prop), Same H1 H → k (Itl K c) H → ∀ (kk : L2.St → Hp → Prop), (∀ σ2, wipe σ2 vs = wipe σ vs → (∀ R, wi1 σ2 H R ↔ R (Itl K c) H) → (∀ (y : Int) (H2 : Hp) (kt : V → Hp → Prop) (kf : Hp → Prop), Same H1 H2 → (∀ p, f x y = some p → ∀ v H3, Same H2 H3 → Dp K H3 v (pairD p) → kt v H3) → (f x y = none → kf H2) → g1 (.int y) (wipe σ2 vs1) H2 fun σ3 H5 => wipe σ3 vs1 = wipe σ2 vs1 ∧ tt1 σ3 H5 fun b H6 => if b = true then te σ3 H6 kt else kf H6) → kk σ2 H) → g (.int x) (wipe σ vs) H kk)
    (hd : ∀ H zs, Same H1 H → H D = some (.lst zs) → DpAll K H zs ((xs.flatMap fun x => ys.filterMap (f x)).map pairD) → Qd H) :
    ∃ W : Nat → Nat → Hp → Prop, (∃ m, W 0 m (upd H1 D (.lst []))) ∧ ∀ i m H, W i m H →
      ((Itl K a).stop i H ∧ Qd H) ∨ ((Itl K a).go i H ∧ ∃ Nx : Hp → Prop, (∀ H', Nx H' → ∃ m', m' < m ∧ W (i + 1) m' H') ∧ ∀ x H', (Itl K a).yld i H x H' → g x (wipe σ vs) H' fun σ2 H2 => wipe σ2 vs = wipe σ vs ∧ tYes σ2 H2 fun b H3 => if b = true then wi1 σ2 H3 fun J1 H4 => ∃ W1 : Nat → Nat → Hp → Prop, (∃ m, W1 0 m H4) ∧ ∀ j k H, W1 j k H →
      (J1.stop j H ∧ Nx H) ∨ (J1.go j H ∧ ∃ Nx1 : Hp → Prop, (∀ H', Nx1 H' → ∃ k', k' < k ∧ W1 (j + 1) k' H') ∧ ∀ x H', J1.yld j H x H' → g1 x (wipe σ2 vs1) H' fun σ3 H5 => wipe σ3 vs1 = wipe σ2 vs1 ∧ tt1 σ3 H5 fun b H6 =>
        if b = true then te σ3 H6 fun y H7 => ∃ acc, H7 D = some (.lst acc) ∧ acc.length < sizeLine ∧ Nx1 (upd H7 D (.lst (acc ++ [y]))) else Nx1 H6) else Nx H3) := by
  have small : ∀ i, i ≤ xs.length → ((xs.take i).flatMap fun x => ys.filterMap (f x)).length ≤ i * 100 := by
    intro i
    induction i with
    | zero => intro _; simp
    | succ i ih =>
      intro hi
      have e : xs[i]? = some xs[i] := List.getElem?_eq_getElem (by omega)
      rw [List.take_add_one, e, List.flatMap_append, List.length_append]
      have h1 := ih (by omega)
      have h2 : (ys.filterMap (f xs[i])).length ≤ 100 := Nat.le_trans (List.length_filterMap_le _ _) ly
      have h3 : ((some xs[i]).toList.flatMap fun x => ys.filterMap (f x)) = ys.filterMap (f xs[i]) := by simp
      rw [h3]
      omega
  refine lc2_it (walk_list (K := K) (a := a) (xs := xs.map V.int)) (fun i H => Same H1 H ∧ ∃ acc, H D = some (.lst acc) ∧ DpAll K H acc (((xs.take i).flatMap fun x => ys.filterMap (f x)).map pairD)) ⟨same_upd nD, [], upd_same, .nil⟩ (fun i H _ z => z.1.seq hx) ?_ ?_
  · rintro i v H H' hi ⟨s1, acc, hD, hacc⟩ ⟨rfl, hv⟩
    rw [List.length_map] at hi
    rw [List.getElem?_map] at hv
    obtain ⟨x, ex, rfl⟩ := Option.map_eq_some_iff.mp hv
    refine st1 x H' (fun _ _ => True) s1 trivial _ fun σ2 hw hwi inner => ⟨hw, ?_⟩
    simp only [tYes, if_true]
    refine (hwi _).mpr ?_
    refine li_it (walk_list (K := K) (a := c) (xs := ys.map V.int)) (fun j H => Same H1 H ∧ ∃ acc, H D = some (.lst acc) ∧ DpAll K H acc ((((xs.take i).flatMap fun x => ys.filterMap (f x)) ++ (ys.take j).filterMap (f x)).map pairD)) ⟨s1, acc, hD, by simpa using hacc⟩ (fun j H _ z => z.1.seq hy) ?_ ?_
    · rintro j v H2 H3 hj ⟨s2, acc2, hD2, hacc2⟩ ⟨rfl, hv2⟩
      rw [List.getElem?_map] at hv2
      obtain ⟨y, ey, rfl⟩ := Option.map_eq_some_iff.mp hv2
      have hl2 := dpAll_len hacc2
      rw [List.length_map, List.length_append] at hl2
      have b1 := small i (by omega)
      have b2 := fm_take_le (f x) ys j
      rw [List.length_map] at hj
      refine inner y H3 _ _ s2 ?_ ?_
      · intro p fp v' H4 s4 pv
        have hD4 := s4 _ _ hD2
        have ku := Kt.upd (o' := .lst (acc2 ++ [v'])) hD4 (fun z => z)
        refine ⟨acc2, hD4, by rw [sizeLine_eq]; omega, ?_, acc2 ++ [v'], upd_same, ?_⟩
        · intro z o e
          rw [upd_ne (ne_of_none e nD)]
          exact s4 _ _ (s2 _ _ e)
        · rw [take_fm (f x) ys j y ey, fp, ← List.append_assoc, List.map_append]
          exact dpAll_append (dp_ktAll ((Kt.same s4).trans ku) _ _ (pairs_imm _) hacc2) (.cons (dp_kt ku _ _ (pairD_imm p) pv) .nil)
      · intro fn
        refine ⟨s2, acc2, hD2, ?_⟩
        rw [take_fm (f x) ys j y ey, fn]
        simpa using hacc2
    · rintro H2 ⟨s2, acc2, hD2, hacc2⟩
      rw [List.length_map, List.take_of_length_le (Nat.le_refl _)] at hacc2
      refine ⟨s2, acc2, hD2, ?_⟩
      rw [List.take_add_one, ex, List.flatMap_append]
      simpa using hacc2
  · rintro H ⟨s1, acc, hD, hacc⟩
    rw [List.length_map, List.take_of_length_le (Nat.le_refl _)] at hacc
    exact hd H acc s1 hD hacc

end
/-! ### rules of our own: sorted(keys), a key ((m, o), v, w, b, t) -/
theorem lex_asym : ∀ (xs ys : List Int), HT.lexLt xs ys = true → HT.lexLt ys xs = false
  | [], [], h => by cases h
  | [], _ :: _, _ => rfl
  | _ :: _, [], h => by cases h
  | x :: xs, y :: ys, h => by
    unfold HT.lexLt at h ⊢
    by_cases e : x = y
    · rw [if_pos e] at h
      rw [if_pos e.symm]
      exact lex_asym xs ys h
    · rw [if_neg e] at h
      rw [if_neg (fun z => e z.symm)]
      have := of_decide_eq_true h
      exact decide_eq_false (by omega)
theorem lex_tr : ∀ (xs ys zs : List Int), HT.lexLt ys xs = false → HT.lexLt zs ys = false → HT.lexLt zs xs = false
  | [], [], zs, _, h2 => h2
  | [], y :: ys, [], _, h2 => by cases h2
  | [], _ :: _, _ :: _, _, _ => rfl
  | x :: xs, [], _, h1, _ => by cases h1
  | x :: xs, y :: ys, [], _, h2 => by cases h2
  | x :: xs, y :: ys, z :: zs, h1, h2 => by
    unfold HT.lexLt at h1 h2 ⊢
    by_cases e1 : y = x
    · rw [if_pos e1] at h1
      by_cases e2 : z = y
      · rw [if_pos e2] at h2
        rw [if_pos (e2.trans e1)]
        exact lex_tr xs ys zs h1 h2
      · rw [if_neg e2] at h2
        have := of_decide_eq_false h2
        rw [if_neg (by omega)]
        exact decide_eq_false (by omega)
    · rw [if_neg e1] at h1
      have a := of_decide_eq_false h1
      by_cases e2 : z = y
      · rw [if_neg (by omega)]
        exact decide_eq_false (by omega)
      · rw [if_neg e2] at h2
        have c := of_decide_eq_false h2
        rw [if_neg (by omega)]
        exact decide_eq_false (by omega)
section
variable {prog : Program} {w : World} {A : Around} {E : Value → Shared → Prop} {s : Shared}
open Srt SrtO
theorem swo_keys {α : Type} (k : α → List Int) : Swo fun v u => HT.lexLt (k v) (k u) := ⟨fun x y h => lex_asym _ _ h, fun x y z h1 h2 => lex_tr _ _ _ h1 h2⟩
def IsKey (h : Heap) (v : Value) (k : List Int) : Prop := ∃ (a p : Addr) (oa op : Obj) (m o v1 v2 v3 v4 : Int) (t1 t2 t3 t4 u1 u2 : Tok) (n n' : Nat), v = .ref a ∧ h.get? a = some oa ∧ oa.cls = .type "tuple" ∧ oa.data = .seq #[.ref p, .int v1 t1, .int v2 t2, .int v3 t3, .int v4 t4] n ∧
  h.get? p = some op ∧ op.cls = .type "tuple" ∧ op.data = .seq #[.int m u1, .int o u2] n' ∧ k = [m, o, v1, v2, v3, v4]
theorem IsKey.keeps {h h' : Heap} {v : Value} {k : List Int} (z : IsKey h v k) (kp : ∀ b o, h.get? b = some o → o.cls = .type "tuple" → h'.get? b = some o) : IsKey h' v k := by
  obtain ⟨a, p, oa, op, m, o, v1, v2, v3, v4, t1, t2, t3, t4, u1, u2, n, n', e1, e2, e3, e4, e5, e6, e7, e8⟩ := z
  exact ⟨a, p, oa, op, m, o, v1, v2, v3, v4, t1, t2, t3, t4, u1, u2, n, n', e1, kp _ _ e2 e3, e3, e4, kp _ _ e5 e6, e6, e7, e8⟩
theorem eq_pairs {p q : Addr} {op oq : Obj} {m o m' o' : Int} {u1 u2 x1 x2 : Tok} {n n' : Nat} (hp : s.heap.get? p = some op) (cp : op.cls = .type "tuple") (dp : op.data = .seq #[.int m u1, .int o u2] n)
    (hq : s.heap.get? q = some oq) (cq : oq.cls = .type "tuple") (dq : oq.data = .seq #[.int m' x1, .int o' x2] n') (hu : A.units < cLine) : SeqAt.EqAt A s (.ref p) (.ref q) (decide (m = m' ∧ o = o')) := by
  by_cases e : p = q
  · subst e
    have eo : op = oq := Option.some.inj (hp.symm.trans hq)
    subst eo
    have ed := dp.symm.trans dq
    have em : m = m' ∧ o = o' := by
      injection ed with h1 h2
      have h3 := congrArg Array.toList h1
      simp at h3
      exact ⟨h3.1.1, h3.2.1⟩
    rw [decide_eq_true em]
    exact SeqAt.EqAt.same _
  · have := SeqAt.RcAt.tuples (e := fun j => if j = 0 then m == m' else o == o') (s := s) (A := A) ⟨op, hp, cp, n, dp⟩ ⟨oq, hq, cq, n', dq⟩ hu ?_
    · refine SeqAt.EqAt.of_refs e ?_
      have e2 : ((List.range (min (#[Value.int m u1, Value.int o u2] : Array Value).size (#[Value.int m' x1, Value.int o' x2] : Array Value).size)).all (fun j => if j = 0 then m == m' else o == o') && (#[Value.int m u1, Value.int o u2] : Array Value).size == (#[Value.int m' x1, Value.int o' x2] : Array Value).size) = decide (m = m' ∧ o = o') := by
        show ((List.range 2).all (fun j => if j = 0 then m == m' else o == o') && true) = _
        rw [Bool.and_true]
        show ((m == m') && ((o == o') && true)) = _
        rw [Bool.and_true]
        by_cases h1 : m = m'
        · by_cases h2 : o = o'
          · simp [h1, h2]
          · simp [h2]
        · simp [h1]
      rw [e2] at this
      exact this
    · intro j h1 h2
      have hj : j = 0 ∨ j = 1 := by
        have : j < 2 := h1
        omega
      rcases hj with rfl | rfl
      · exact SeqAt.EqAt.int_int m u1 m' x1
      · exact SeqAt.EqAt.int_int o u2 o' x2
theorem keys_cmp {vs : List Value} {k : Value → List Int} (hu : A.units < cLine) (hk : ∀ v ∈ vs, IsKey s.heap v (k v)) : Cmp prog w A s (tuples' false) (fun p => p.1 ∈ vs) (lt2 fun v u => HT.lexLt (k v) (k u)) := by
  intro p q hm hm'
  have h1 := hk _ hm
  have h2 := hk _ hm'
  refine (show wpAny (model prog w) A (keyLt' (tuples' false) p.1 q.1) (fun r s' => s' = s ∧ r = HT.lexLt (k p.1) (k q.1)) (fun _ _ => False) s from ?_)
  obtain ⟨a, b, oa, ob, m, o, v1, v2, v3, v4, t1, t2, t3, t4, u1, u2, n, n', e1, e2, e3, e4, e5, e6, e7, e8⟩ := h1
  obtain ⟨a', b', oa', ob', m', o', v1', v2', v3', v4', t1', t2', t3', t4', u1', u2', l, l', f1, f2, f3, f4, f5, f6, f7, f8⟩ := h2
  rw [e8, f8, e1, f1]
  refine PySem.W.kat_lt e2 e4 f2 f4 (show PySem.W.KatLex prog w A false (decide (5 < 5)) _ [(.ref b, .ref b'), (.int v1 t1, .int v1' t1'), (.int v2 t2, .int v2' t2'), (.int v3 t3, .int v3' t3'), (.int v4 t4, .int v4' t4')] 0 s from ?_)
  refine PySem.W.kat_cons (eq_pairs e5 e6 e7 f5 f6 f7 hu prog w _ _ (PySem.W.kat_go (fun z => ?_) (fun z => ?_)))
  · obtain ⟨em, eo⟩ := of_decide_eq_true z
    subst em
    subst eo
    have step : ∀ {x y : Int} {xs ys : List Int}, HT.lexLt (x :: xs) (y :: ys) = if x = y then HT.lexLt xs ys else decide (x < y) := fun {x y xs ys} => rfl
    have s0 : HT.lexLt [m, o, v1, v2, v3, v4] [m, o, v1', v2', v3', v4'] = HT.lexLt [v1, v2, v3, v4] [v1', v2', v3', v4'] := by rw [step, if_pos rfl, step, if_pos rfl]
    rw [s0]
    refine PySem.W.kat_yes (PySem.W.kat_cons (SeqAt.EqAt.int_int v1 t1 v1' t1' prog w _ _ (PySem.W.kat_go (fun z1 => ?_) (fun z1 => ?_))))
    · have g1 : v1 = v1' := by simpa using z1
      refine PySem.W.kat_yes (PySem.W.kat_cons (SeqAt.EqAt.int_int v2 t2 v2' t2' prog w _ _ (PySem.W.kat_go (fun z2 => ?_) (fun z2 => ?_))))
      · have g2 : v2 = v2' := by simpa using z2
        refine PySem.W.kat_yes (PySem.W.kat_cons (SeqAt.EqAt.int_int v3 t3 v3' t3' prog w _ _ (PySem.W.kat_go (fun z3 => ?_) (fun z3 => ?_))))
        · have g3 : v3 = v3' := by simpa using z3
          refine PySem.W.kat_yes (PySem.W.kat_cons (SeqAt.EqAt.int_int v4 t4 v4' t4' prog w _ _ (PySem.W.kat_go (fun z4 => ?_) (fun z4 => ?_))))
          · have g4 : v4 = v4' := by simpa using z4
            exact PySem.W.kat_yes (PySem.W.kat_nil ⟨rfl, by rw [step, if_pos g1, step, if_pos g2, step, if_pos g3, step, if_pos g4]; rfl⟩)
          · have g4 : ¬ v4 = v4' := by simpa using z4
            exact PySem.W.kat_no (oneLt_any_int ⟨rfl, by rw [step, if_pos g1, step, if_pos g2, step, if_pos g3, step, if_neg g4]⟩)
        · have g3 : ¬ v3 = v3' := by simpa using z3
          exact PySem.W.kat_no (oneLt_any_int ⟨rfl, by rw [step, if_pos g1, step, if_pos g2, step, if_neg g3]⟩)
      · have g2 : ¬ v2 = v2' := by simpa using z2
        exact PySem.W.kat_no (oneLt_any_int ⟨rfl, by rw [step, if_pos g1, step, if_neg g2]⟩)
    · have g1 : ¬ v1 = v1' := by simpa using z1
      exact PySem.W.kat_no (oneLt_any_int ⟨rfl, by rw [step, if_neg g1]⟩)
  · have ne : ¬ (m = m' ∧ o = o') := of_decide_eq_false z
    have e9 : HT.lexLt [m, o] [m', o'] = HT.lexLt [m, o, v1, v2, v3, v4] [m', o', v1', v2', v3', v4'] := by
      unfold HT.lexLt
      by_cases g : m = m'
      · rw [if_pos g, if_pos g]
        have g2 : ¬ o = o' := fun y => ne ⟨g, y⟩
        unfold HT.lexLt
        rw [if_neg g2, if_neg g2]
      · rw [if_neg g, if_neg g]
    refine PySem.W.kat_no (PySem.W.kat_one _ _ (HT.lt_tupInts (ns := [m, o]) (ms := [m', o']) ⟨ob, e5, e6, n', e7⟩ ⟨ob', f5, f6, l', f7⟩ (.cons _ _ (.cons _ _ .nil)) (.cons _ _ (.cons _ _ .nil)) hu (show s = s ∧ HT.lexLt [m, o] [m', o'] = _ from ⟨rfl, e9⟩)))
theorem keys_firsts {h : Heap} {k : Value → List Int} : ∀ {vs : List Value}, (∀ v ∈ vs, IsKey h v (k v)) → ∃ fs : List Value, PySem.W.KatTups h vs fs ∧ fs.length = vs.length ∧ ∀ f ∈ fs, ∃ p op, f = Value.ref p ∧ h.get? p = some op ∧ op.cls = .type "tuple"
  | [], _ => ⟨[], PySem.W.KatTups.nil, rfl, fun _ m => by cases m⟩
  | v :: vs, hk => by
    obtain ⟨fs, h1, h2, h3⟩ := keys_firsts (vs := vs) fun v' m => hk v' (List.mem_cons_of_mem _ m)
    obtain ⟨a, p, oa, op, m, o, v1, v2, v3, v4, t1, t2, t3, t4, u1, u2, n, n', rfl, e2, e3, e4, e5, e6, e7, e8⟩ := hk v (List.mem_cons_self ..)
    refine ⟨.ref p :: fs, PySem.W.KatTups.cons e2 e3 e4 rfl h1, congrArg Nat.succ h2, fun f m => ?_⟩
    rcases List.mem_cons.mp m with e | m
    · exact ⟨p, op, e, e5, e6⟩
    · exact h3 f m
theorem keys_sortable {a : Addr} {vs : List Value} {k : Value → List Int} (hu : A.units < cLine) (h0 : 0 < vs.length) (hk : ∀ v ∈ vs, IsKey s.heap v (k v)) (ha : ∀ o, s.heap.get? a = some o → o.cls ≠ .type "tuple") : SortableO prog w A s a vs fun v u => HT.lexLt (k v) (k u) := by
  intro h' keep
  have hk' : ∀ v ∈ vs, IsKey h' v (k v) := fun v m => (hk v m).keeps fun b o e c => keep b o (fun z => ha o (z ▸ e) c) e
  obtain ⟨fs, h1, h2, h3⟩ := keys_firsts hk'
  refine ⟨tuples' false, fun Q E hq => PySem.W.kat_kind (T := .type "tuple") h1 (by omega) (fun f m => ?_) (by rfl) ?_, keys_cmp hu hk'⟩
  · obtain ⟨p, op, rfl, hp, hc⟩ := h3 f m
    exact fun _ _ _ _ kp q => wpAny_typeOf (T := "tuple") ⟨op, kp _ _ hp, hc⟩ q
  · have e : (Value.type "tuple" != Value.type "tuple") = false := by first | decide +kernel | rfl | decide
    rw [e]
    exact hq
end
section
variable {X : Cx}
def KeyAt (H : Hp) (x : V) (k : List Int) : Prop := ∃ (t p : Addr) (m o v1 v2 v3 v4 : Int), x = .ref t ∧ H t = some (.tup [.ref p, .int v1, .int v2, .int v3, .int v4]) ∧ H p = some (.tup [.int m, .int o]) ∧ k = [m, o, v1, v2, v3, v4]
def rSortedK (K : PySem.W.Frag) : List V → Hp → VK → Prop := fun vs H Q => ∃ (a : Addr) (xs : List V) (k : V → List Int), vs = [V.ref a] ∧ SqL K H a xs ∧ (∀ x ∈ xs, KeyAt H x (k x)) ∧ ∀ ys p, ys.Perm xs → ys.Pairwise (fun x y => HT.lexLt (k y) (k x) = false) → H p = none → Q (.ref p) (upd H p (.lst ys))
theorem cr_sortedK (hu : X.A.units + 64 < cLine) : CallR X (.builtin "sorted") (rSortedK X.K) := by
  intro pins s σ H vs us Q I r hq
  obtain ⟨a, xs, k, rfl, hs, hx, q⟩ := hq
  obtain ⟨its, rv, hl, hz⟩ := I.list hs
  obtain ⟨u, rfl, ru⟩ := vals1 r
  obtain rfl : u = Value.ref a := ru
  obtain ⟨e1, e2⟩ := refs_back rv fun x m => by
    obtain ⟨t, _, _, _, _, _, _, _, e, _⟩ := hx x m
    exact ⟨t, e⟩
  have keys : ∀ v ∈ its, IsKey s.heap v (k (backV v)) := fun v hv => by
    obtain ⟨t, rfl⟩ := e2 v hv
    have hm : V.ref t ∈ xs := by rw [e1]; exact List.mem_map.mpr ⟨_, hv, rfl⟩
    obtain ⟨t', p, m, o, v1, v2, v3, v4, e, ht, hp, ek⟩ := hx _ hm
    cases e
    obtain ⟨_, its2, r2, oa, ho, hc, n, hd⟩ := I.hok _ _ ht
    obtain ⟨_, its3, r3, op, hop, hcp, n', hdp⟩ := I.hok _ _ hp
    cases r2 with
    | cons q1 r2 =>
      cases r2 with
      | cons q2 r2 =>
        cases r2 with
        | cons q3 r2 =>
          cases r2 with
          | cons q4 r2 =>
            cases r2 with
            | cons q5 r2 =>
              cases r2
              cases r3 with
              | cons y1 r3 =>
                cases r3 with
                | cons y2 r3 =>
                  cases r3
                  cases q1
                  obtain ⟨t1, rfl⟩ := q2
                  obtain ⟨t2, rfl⟩ := q3
                  obtain ⟨t3, rfl⟩ := q4
                  obtain ⟨t4, rfl⟩ := q5
                  obtain ⟨w1, rfl⟩ := y1
                  obtain ⟨w2, rfl⟩ := y2
                  exact ⟨t, p, oa, op, m, o, v1, v2, v3, v4, t1, t2, t3, t4, w1, w2, n, n', rfl, ho, hc, hd, hop, hcp, hdp, ek⟩
  have hu2 : X.A.in1.in1.units < cLine := by
    show X.A.units + 1 + 1 < cLine
    omega
  refine SrtO.sorted_ord (swo_keys fun v => k (backV v)) hl.isList (by rw [← rv.length]; exact hz) (fun h2 h₁ a1 ha kp => keys_sortable (s := { s with heap := h₁ }) hu2 (by omega) (fun v m => (keys v m).keeps fun b o e _ => (kp b o e).2) fun o e => ?_) fun out hS hB => ?_
  · have e' : some o = some (seqObj "list" its.toArray 0) := e.symm.trans ha
    cases e'
    exact fun c => absurd (Value.type.inj c) (by decide)
  · have h3 : ∀ u ∈ out, ∃ a, u = Value.ref a := fun u hu => e2 u (hB.perm.mem_iff.mp hu)
    obtain ⟨n, hn⟩ := sortedAll_at s.heap its out.toArray
    refine ⟨.ref _, upd H (s.heap.objs.size + 1) (.lst (out.map backV)), I.laid (t' := s.toks) (fun b o e => sortedAll_old e) (Nat.le_succ _) ⟨?_, out, n, vals_back h3, hn⟩, rfl, q _ _ ?_ (List.pairwise_map.mpr hS) (I.hok.fresh (Nat.le_succ _))⟩
    · rw [List.length_map, hB.perm.length_eq, ← rv.length]
      exact hz
    · rw [e1]
      exact hB.perm.map backV
end
section
variable {P : Program} {w : World} {K : PySem.W.Frag} {mg : Str → Option Value} {base : Heap}

end
/-! ### rules of our own: set(a list of ints) -/
section
variable {P : Program} {w : World} {A : Around} {E : Value → Shared → Prop} {s : Shared}
set_option maxRecDepth 100000 in
set_option maxHeartbeats 3200000 in
theorem set_of_list {l : Addr} {items : Array Value} (ns : List Int) {Q : Value → Shared → Prop} (hh : A.handled = none) (hl : s.heap.IsList l items) (hit : IntsAre items.toList ns) (hb : ns.length + 1 < scanBound)
    (h : ∀ (h' : Heap) (tk c : Nat), SetR w h' s.heap.objs.size (fun j => decide (j ∈ ns)) c → c ≤ ns.length → (∀ b o, s.heap.get? b = some o → h'.get? b = some o) → Q (.ref s.heap.objs.size) { s with heap := h', toks := tk }) :
    wpAny (model P w) A (call (.type "set") [.ref l]) Q E s := by
  have hisz : items.size = ns.length := by have q := IntsAre.length hit; rw [Array.length_toList] at q; exact q
  obtain ⟨c, tl, hmro⟩ := F.called_set.mro; have hmade := F.called_set.made; have hsub := F.called_set.sub
  refine wpAny_call (codeAny_of_tree (show wpAny _ _ (callAny (.type "set") _) _ _ _ from wpAny_pure ⟨Code.quiet_builtin _ (by decide +kernel), codeAny_builtin F.entry_type_call ?_⟩))
  rw [Around.under_plain (weight_type_call_type "set" [.ref l] []) rfl]; have h1 := F.called_set.notType; have h2 := F.called_set.canCreate; have hct := F.typeCall_set_1 (.ref l)
  repeat (any_goals (first | assumption | wp_step))
  generalize eO : ({ cls := .type "set", dict := none, data := .set #[] 0 (.fresh 0 0 (!w.params.followText "set-order")) } : Obj) = ob0
  refine codeAny_mono (L2.code_set_led1 (.ref l) (E := E) (Q₁ := fun obj s₁ => obj = .ref s.heap.objs.size ∧ s₁ = { s with heap := s.heap.push ob0 }) ⟨rfl, by rw [eO]⟩) fun r s₁ hr => ?_
  cases r with
  | error e => exact hr
  | ok fl =>
    cases fl with
    | ret obj =>
      obtain ⟨rfl, rfl⟩ := hr
      have hS : (s.heap.push ob0).get? s.heap.objs.size = some ob0 := Heap.get?_push_size _ (by rw [← eO]; rfl)
      have hT : Shared.TypeIs { s with heap := s.heap.push ob0 } (.ref s.heap.objs.size) "set" := ⟨_, hS, by rw [← eO]⟩
      have hli := F.called_set.init.lookup; have hbi := F.called_set.init.bind (.ref s.heap.objs.size)
      repeat (any_goals (first | assumption | wp_step))
      refine codeAny_mono (codeAny_call_builtin (R := wants (fun r s₂ => r = .none ∧ ∃ h' tk c, s₂ = { s with heap := h', toks := tk } ∧ SetR w h' s.heap.objs.size (fun j => decide (j ∈ ns)) c ∧ c ≤ ns.length ∧ (∀ b o, s.heap.get? b = some o → h'.get? b = some o)) E) F.called_set.init.plain F.entry_set_init (check_set_init_1 hT ?_)) fun r₂ s₂ hr₂ => ?_
      · obtain ⟨⟨ocls, odict, odata, oslots⟩, hol, hcl, nl, hdl⟩ := hl
        simp only at hcl hdl
        subst hcl; subst hdl
        have hol' : (s.heap.push ob0).get? l = some { cls := .type "list", dict := odict, data := .seq items nl, slots := oslots } := Heap.get?_push_of_some _ hol
        have hsls := F.sub_list_set; have hslf := F.sub_list_frozenset; have hne : (Value.type "list" == Value.type "dict") = false := by decide
        have hl1 : (s.heap.push ob0).IsList l items := ⟨_, hol', rfl, nl, rfl⟩
        subst eO
        unfold Builtin.«set.__init__» noKeywords Builtin.Frozenset.updateFrom; generalize hPI : pyIter = PI
        wp_walk
        subst hPI
        refine wpAny_pyIter_list hl1 ?_; refine wpAny_bind (wpAny_runValue ?_)
        have hlS : l < s.heap.objs.size := Heap.lt_size hol; have hh3 : A.in1.in1.in1.handled = none := by simp [hh]
        have hneI : ∀ ob0 : Obj, l ≠ (s.heap.push ob0).objs.size := fun ob0 => by rw [Heap.size_push]; exact Nat.ne_of_lt (Nat.lt_succ_of_lt hlS)
        have hSf : ∀ ob0 : Obj, s.heap.objs.size ∉ [(s.heap.push ob0).objs.size, l] := fun ob0 => by
          rw [Heap.size_push]; simp only [List.mem_cons, List.mem_singleton, List.not_mem_nil, or_false, not_or]; exact ⟨Nat.ne_of_lt (Nat.lt_succ_self _), Nat.ne_of_gt hlS⟩
        have hval : ∀ (i : Nat) (v : Value), items[i]? = some v → ∃ k t, ns[i]? = some k ∧ v = .int k t := fun i v hv => by
          have hi : i < ns.length := by rw [← hisz]; exact (Array.getElem?_eq_some_iff.mp hv).1
          obtain ⟨t, e⟩ := PyProof.Rows.IntsAre.int_at hit i v (by rw [Array.getElem?_toList]; exact hv); refine ⟨ns[i], t, List.getElem?_eq_getElem hi, ?_⟩
          rw [e, List.getD_eq_getElem?_getD, List.getElem?_eq_getElem hi]; rfl
        refine L2.set_update_ints ((Walks.list hh3 _ l (hneI _) items).toS) s.heap.objs.size (hSf _) ns hisz hb hval (items.size - 0) 0 _ (by omega) (Nat.zero_le _) ⟨⟨_, Heap.get?_push_size _ rfl, rfl, rfl⟩, (hl1.push _)⟩ ⟨0, Nat.le_refl 0, L2.setR_new_at ?_⟩ ?_
        · exact Heap.get?_push_of_some _ hS
        · rintro ⟨h', g2, d', tk', os'⟩ c' hm hc' hS'
          have eg : g2 = s.gens := hm.gens; have ed : d' = s.drawn := hm.drawn; have eo : os' = s.os := hm.os
          subst eg; subst ed; subst eo; rw [hisz] at hc'
          show wpAny _ _ _ _ _ _
          refine wpAny_pure (show wpAny _ _ (ret Value.none) _ _ _ from wpAny_pure ⟨rfl, h', tk', c', rfl, hS', hc', fun b o e => ?_⟩)
          have hb0 : b < s.heap.objs.size := Heap.lt_size e
          refine hm.heap b o (fun z => ?_) (Heap.get?_push_of_some _ (Heap.get?_push_of_some _ e))
          simp only [List.mem_cons, List.mem_singleton, List.not_mem_nil, or_false, Heap.size_push] at z
          rcases z with z | z
          · exact absurd z (Nat.ne_of_lt hb0)
          · exact absurd z (Nat.ne_of_lt (Nat.lt_succ_of_lt hb0))
      · cases r₂ with
        | error e => exact hr₂
        | ok fl₂ =>
          cases fl₂ with
          | ret r =>
            obtain ⟨rfl, h', tk, c', rfl, hS', hc', hk'⟩ := hr₂; repeat (any_goals (first | assumption | wp_step))
            exact h _ _ _ hS' hc' hk'
          | _ => exact hr₂.elim
    | _ => exact hr.elim
end
section
variable {X : Cx}
theorem ints_vals : ∀ {ns : List Int} {us : List Value}, Vals (ns.map V.int) us → IntsAre us ns
  | [], _, h => by cases h; exact .nil
  | n :: ns, _, h => by
    cases h with
    | cons r t =>
      obtain ⟨k, rfl⟩ := r
      exact .cons n k (ints_vals t)
def rSetL (K : PySem.W.Frag) (w : World) : List V → Hp → VK → Prop := fun xs H Q => ∃ (l : Addr) (ns : List Int), xs = [.ref l] ∧ SqL K H l (ns.map V.int) ∧ ns.length ≤ 1000 ∧ ∀ p c, H p = none → c ≤ ns.length → Q (.ref p) (upd H p (SetO w p (fun j => decide (j ∈ ns)) c))
theorem cr_setL (hc : X.calm = true) : CallR X (.type "set") (rSetL X.K X.w) := by
  intro pins s σ H xs us Q I r hq
  obtain ⟨l, ns, rfl, hs, hn, q⟩ := hq
  obtain ⟨u, rfl, ru⟩ := vals1 r
  obtain rfl : u = Value.ref l := ru
  obtain ⟨its, rv, pl, hz⟩ := I.list hs
  refine set_of_list ns (I.ok.hd hc) pl.isList (by simpa using ints_vals rv) (by unfold scanBound; omega) fun h' tk c hS hc' hk => ?_
  exact ⟨.ref _, upd H s.heap.objs.size (SetO X.w s.heap.objs.size (fun j => decide (j ∈ ns)) c), I.laid (fun b o e => hk b o e) (Nat.le_refl _) (setO_new hS), rfl, q _ c (I.hok.fresh (Nat.le_refl _)) hc'⟩
end
section
variable {P : Program} {w : World} {K : PySem.W.Frag} {mg : Str → Option Value} {base : Heap}

/-! ### histories: rows, zones, reasons -/
structure HRow where
  t : Int
  wr : Bool
  v : Int
  b : Int
  e : Int
deriving DecidableEq
def kindS (w : Bool) : Str := if w = true then "write" else "read"
def hD (r : HRow) : PyData := .tuple [.int r.t, .str (kindS r.wr), .int r.v, .int r.b, .int r.e]
def hV (r : HRow) : List V := [.int r.t, .str (kindS r.wr), .int r.v, .int r.b, .int r.e]
theorem hD_imm (r : HRow) : imm (hD r) = true := rfl
theorem hs_imm (rs : List HRow) : immAll (rs.map hD) = true := immAll_iff.mpr fun e he => by
  obtain ⟨y, _, rfl⟩ := List.mem_map.mp he
  exact hD_imm y
theorem dp_h {H : Hp} {v : V} {r : HRow} (h : Dp K H v (hD r)) : ∃ a, v = .ref a ∧ SqT K H a (hV r) := by
  cases h with
  | tup hs ha =>
    cases ha with
    | cons h1 ha =>
      cases h1
      cases ha with
      | cons h1 ha =>
        cases h1
        cases ha with
        | cons h1 ha =>
          cases h1
          cases ha with
          | cons h1 ha =>
            cases h1
            cases ha with
            | cons h1 ha =>
              cases h1
              cases ha
              exact ⟨_, rfl, hs⟩
theorem h_dp {H : Hp} {a : Addr} {r : HRow} (h : SqT K H a (hV r)) : Dp K H (.ref a) (hD r) :=
  .tup h (.cons (.int _) (.cons (.str _) (.cons (.int _) (.cons (.int _) (.cons (.int _) .nil)))))
theorem kind_write (w : Bool) : decide (V.str (kindS w) = V.str ("write" : Str)) = w := by
  cases w with
  | true => exact decide_eq_true rfl
  | false => exact decide_eq_false fun z => absurd (V.str.inj z) (by decide)
theorem kind_read (w : Bool) : decide (V.str (kindS w) = V.str ("read" : Str)) = !w := by
  cases w with
  | true => exact decide_eq_false fun z => absurd (V.str.inj z) (by decide)
  | false => exact decide_eq_true rfl
/-- the first end and the last begin of a value, as far as the rows go -/
def zStep (z : Option (Int × Int)) (r : HRow) : Option (Int × Int) := some (match z with
  | none => (r.e, r.b)
  | some (f, l) => (if r.e < f then r.e else f, if r.b > l then r.b else l))
def z0 (v : Int) : Option (Int × Int) := if v = 0 then some (-1, -1) else none
def zoneO (h : List HRow) (v : Int) : Option (Int × Int) := (h.filter fun r => decide (r.v = v)).foldl zStep (z0 v)
theorem zone_take {h : List HRow} {i : Nat} {r : HRow} (e : h[i]? = some r) (v : Int) : zoneO (h.take (i + 1)) v = if r.v = v then zStep (zoneO (h.take i) v) r else zoneO (h.take i) v := by
  unfold zoneO
  rw [List.take_add_one, e, List.filter_append, List.foldl_append]
  by_cases hv : r.v = v <;> simp [hv]
/-- all ends, all begins of a value -/
def endsOf (h : List HRow) (v : Int) : List Int := (if v = 0 then [-1] else []) ++ (h.filter fun r => decide (r.v = v)).map (·.e)
def begsOf (h : List HRow) (v : Int) : List Int := (if v = 0 then [-1] else []) ++ (h.filter fun r => decide (r.v = v)).map (·.b)
structure ZOk (es bs : List Int) (z : Option (Int × Int)) : Prop where
  non : z = none → es = [] ∧ bs = []
  som : ∀ f l, z = some (f, l) → f ∈ es ∧ (∀ x ∈ es, f ≤ x) ∧ l ∈ bs ∧ ∀ x ∈ bs, x ≤ l
theorem ZOk.step {es bs : List Int} {z : Option (Int × Int)} (h : ZOk es bs z) (r : HRow) : ZOk (es ++ [r.e]) (bs ++ [r.b]) (zStep z r) := by
  cases z with
  | none =>
    obtain ⟨rfl, rfl⟩ := h.non rfl
    refine ⟨(fun z => nomatch z), fun f l e => ?_⟩
    cases e
    exact ⟨by simp, (by intro x hx; simp at hx; omega), by simp, (by intro x hx; simp at hx; omega)⟩
  | some p =>
    obtain ⟨f, l⟩ := p
    obtain ⟨h1, h2, h3, h4⟩ := h.som f l rfl
    refine ⟨(fun z => nomatch z), fun f' l' e => ?_⟩
    cases e
    refine ⟨?_, ?_, ?_, ?_⟩
    · split
      · simp
      · exact List.mem_append_left _ h1
    · intro x hx
      rcases List.mem_append.mp hx with hx | hx
      · have := h2 x hx
        split <;> omega
      · rw [List.mem_singleton.mp hx]
        split <;> omega
    · split
      · simp
      · exact List.mem_append_left _ h3
    · intro x hx
      rcases List.mem_append.mp hx with hx | hx
      · have := h4 x hx
        split <;> omega
      · rw [List.mem_singleton.mp hx]
        split <;> omega
theorem zOk_fold : ∀ (rs : List HRow) {es bs : List Int} {z : Option (Int × Int)}, ZOk es bs z → ZOk (es ++ rs.map (·.e)) (bs ++ rs.map (·.b)) (rs.foldl zStep z)
  | [], _, _, _, h => by simpa using h
  | r :: rs, es, bs, z, h => by
    have := zOk_fold rs (h.step r)
    simpa using this
theorem zone_ok (h : List HRow) (v : Int) : ZOk (endsOf h v) (begsOf h v) (zoneO h v) := by
  unfold endsOf begsOf zoneO
  refine zOk_fold _ ?_
  unfold z0
  by_cases hv : v = 0
  · rw [if_pos hv, if_pos hv]
    refine ⟨(fun z => nomatch z), fun f l e => ?_⟩
    cases e
    simp
  · rw [if_neg hv, if_neg hv]
    exact ⟨fun _ => ⟨rfl, rfl⟩, fun f l e => nomatch e⟩
theorem zone_some {h : List HRow} {v : Int} : (∃ z, zoneO h v = some z) ↔ v = 0 ∨ ∃ r ∈ h, r.v = v := by
  have ok := zone_ok h v
  constructor
  · rintro ⟨⟨f, l⟩, e⟩
    obtain ⟨h1, _⟩ := ok.som f l e
    unfold endsOf at h1
    by_cases hv : v = 0
    · exact .inl hv
    · rw [if_neg hv] at h1
      obtain ⟨r, hr, _⟩ := List.mem_map.mp h1
      have := List.mem_filter.mp hr
      exact .inr ⟨r, this.1, of_decide_eq_true this.2⟩
  · intro hh
    cases e : zoneO h v with
    | some z => exact ⟨z, rfl⟩
    | none =>
      have := (ok.non e).1
      unfold endsOf at this
      rcases hh with rfl | ⟨r, hr, rfl⟩
      · rw [if_pos rfl] at this
        exact absurd this (by simp)
      · have h2 := (List.append_eq_nil_iff.mp this).2
        have h3 : r.e ∈ (h.filter fun r' => decide (r'.v = r.v)).map (·.e) := List.mem_map.mpr ⟨r, List.mem_filter.mpr ⟨hr, decide_eq_true rfl⟩, rfl⟩
        rw [h2] at h3
        cases h3
def opn (z : Int × Int) : Bool := decide (z.1 < z.2)
def clsh (z w : Int × Int) : Bool := decide (z.1 < w.2) && decide (w.1 < z.2)
def opnV (h : List HRow) (v : Int) : Bool := match zoneO h v with
  | some z => opn z
  | none => false
def clsV (h : List HRow) (a b : Int) : Bool := match zoneO h a, zoneO h b with
  | some z, some w => clsh z w
  | _, _ => false
abbrev Reason := Str × Int × Int
def reaD (x : Reason) : PyData := .tuple [.str x.1, .int x.2.1, .int x.2.2]
theorem reaD_imm (x : Reason) : imm (reaD x) = true := rfl
theorem rea_dp {H : Hp} {a : Addr} {w : Str} {i j : Int} (h : SqT K H a [.str w, .int i, .int j]) : Dp K H (.ref a) (reaD (w, i, j)) := .tup h (.cons (.str _) (.cons (.int _) (.cons (.int _) .nil)))
/-- what is a value of the history -/
def isVal (h : List HRow) (v : Int) : Prop := v = 0 ∨ ∃ r ∈ h, r.v = v
def EarlyP (h : List HRow) (a b : Int) : Prop := ∃ r ∈ h, ∃ w ∈ h, r.wr = false ∧ w.wr = true ∧ r.v = w.v ∧ r.t = a ∧ w.t = b ∧ r.e < w.b
def BothP (h : List HRow) (a b : Int) : Prop := isVal h a ∧ isVal h b ∧ a < b ∧ opnV h a = true ∧ opnV h b = true ∧ clsV h a b = true
def WithinP (h : List HRow) (a b : Int) : Prop := isVal h a ∧ isVal h b ∧ opnV h a = true ∧ opnV h b = false ∧ clsV h a b = true
/-- each value is written once -/
def OneW (h : List HRow) : Prop := ∀ r w : HRow, r ∈ h → w ∈ h → r.wr = true → w.wr = true → r.v = w.v → r = w
def wOf (h : List HRow) (v : Int) : Option HRow := h.find? fun w => w.wr && decide (w.v = v)
theorem wOf_some {h : List HRow} {v : Int} {w : HRow} (e : wOf h v = some w) : w ∈ h ∧ w.wr = true ∧ w.v = v := by
  have h1 := List.find?_some e
  have h2 : w.wr = true ∧ w.v = v := by simpa using h1
  exact ⟨List.mem_of_find?_eq_some e, h2⟩
theorem wOf_is {h : List HRow} (one : OneW h) {w : HRow} (hw : w ∈ h) (wr : w.wr = true) : wOf h w.v = some w := by
  cases e : wOf h w.v with
  | none =>
    have := List.find?_eq_none.mp e w hw
    simp [wr] at this
  | some w' =>
    obtain ⟨h1, h2, h3⟩ := wOf_some e
    rw [one w' w h1 hw h2 wr h3]

/-! ### zones_of -/
def ZAt (K : PySem.W.Frag) (H : Hp) (D : Addr) (g : Int → Option (Int × Int)) (m : Nat) : Prop := ∃ (kvs : List (Key × V)) (ks : List Int), H D = some (.dK kvs) ∧ kvs.map (·.1) = ks.map Sum.inl ∧ ks.Nodup ∧ ks.length ≤ m ∧ (∀ v, v ∈ ks ↔ (g v).isSome = true) ∧
  ∀ v x, valV kvs (.inl v) = some x → ∃ z p, g v = some z ∧ x = .ref p ∧ SqT K H p [.int z.1, .int z.2]
theorem ZAt.same {H H' : Hp} {D : Addr} {g : Int → Option (Int × Int)} {m : Nat} (h : ZAt K H D g m) (s : Same H H') : ZAt K H' D g m := by
  obtain ⟨kvs, ks, h1, h2, h3, h4, h5, h6⟩ := h
  refine ⟨kvs, ks, s _ _ h1, h2, h3, h4, h5, fun v x e => ?_⟩
  obtain ⟨z, p, e1, e2, e3⟩ := h6 v x e
  exact ⟨z, p, e1, e2, sqT_same s e3⟩
theorem key_val {kvs : List (Key × V)} {ks : List Int} (e : kvs.map (·.1) = ks.map Sum.inl) (v : Int) : (valV kvs (.inl v)).isSome = decide (v ∈ ks) := by
  rw [← valV_any]
  have : (kvs.any fun kv => decide (kv.1 = .inl v)) = ((kvs.map (·.1)).any fun k => decide (k = .inl v)) := by rw [List.any_map]; rfl
  rw [this, e, List.any_map]
  by_cases h : v ∈ ks
  · rw [decide_eq_true h, List.any_eq_true]
    exact ⟨v, h, by simp⟩
  · rw [decide_eq_false h, List.any_eq_false]
    intro x hx
    simp only [Function.comp, decide_eq_true_eq]
    exact fun z => h (Sum.inl.inj z ▸ hx)
theorem putK_keys {kvs : List (Key × V)} {k : Key} {v : V} : (putK kvs k v).map (·.1) = if (valV kvs k).isSome = true then kvs.map (·.1) else kvs.map (·.1) ++ [k] := by
  unfold putK
  rw [valV_any]
  by_cases h : (valV kvs k).isSome = true
  · rw [if_pos h, if_pos h, List.map_map]
    refine List.map_congr_left fun kv _ => ?_
    show (if kv.1 = k then (kv.1, v) else kv).1 = kv.1
    split <;> rfl
  · rw [if_neg h, if_neg h, List.map_append]
    rfl
theorem ZAt.put {H : Hp} {D p : Addr} {g : Int → Option (Int × Int)} {m : Nat} {kvs : List (Key × V)} {v : Int} {z : Int × Int} (h : ZAt K H D g m) (hD : H D = some (.dK kvs)) (hp : SqT K H p [.int z.1, .int z.2]) :
    ZAt K (upd H D (.dK (putK kvs (.inl v) (.ref p)))) D (fun u => if u = v then some z else g u) (m + 1) := by
  obtain ⟨kvs', ks, h1, h2, h3, h4, h5, h6⟩ := h
  rw [hD] at h1
  cases h1
  have kt : Kt H (upd H D (.dK (putK kvs (.inl v) (.ref p)))) := Kt.upd hD (fun z => z)
  have hk := key_val h2 v
  refine ⟨_, if v ∈ ks then ks else ks ++ [v], upd_same, ?_, ?_, ?_, fun u => ?_, fun u x e => ?_⟩
  · rw [putK_keys, hk]
    by_cases hv : v ∈ ks
    · rw [decide_eq_true hv, if_pos rfl, if_pos hv, h2]
    · rw [decide_eq_false hv, if_neg Bool.false_ne_true, if_neg hv, h2, List.map_append]
      rfl
  · split
    · exact h3
    · rename_i hv
      exact List.nodup_append.mpr ⟨h3, by simp, fun x hx y hy => by rw [List.mem_singleton.mp hy]; exact fun z => hv (z ▸ hx)⟩
  · split
    · omega
    · rw [List.length_append]
      show _ + 1 ≤ _
      omega
  · show _ ↔ (if u = v then some z else g u).isSome = true
    by_cases hu : u = v
    · subst hu
      rw [if_pos rfl]
      split
      · rename_i hv
        exact ⟨fun _ => rfl, fun _ => hv⟩
      · simp
    · rw [if_neg hu, ← h5 u]
      split
      · rfl
      · simp [hu]
  · rw [valV_put] at e
    show ∃ z' p', (if u = v then some z else g u) = some z' ∧ _
    split at e
    · rename_i hu
      cases hu
      cases e
      exact ⟨z, p, by rw [if_pos rfl], rfl, sqT_kt kt hp⟩
    · rename_i hu
      obtain ⟨z', p', e1, e2, e3⟩ := h6 u x e
      exact ⟨z', p', by rw [if_neg (fun w => hu (by rw [w]))]; exact e1, e2, sqT_kt kt e3⟩
theorem ZAt.get {H : Hp} {D : Addr} {g : Int → Option (Int × Int)} {m : Nat} (h : ZAt K H D g m) {v : Int} {z : Int × Int} (e : g v = some z) : ∃ kvs p, H D = some (.dK kvs) ∧ valV kvs (.inl v) = some (.ref p) ∧ SqT K H p [.int z.1, .int z.2] := by
  obtain ⟨kvs, ks, h1, h2, h3, h4, h5, h6⟩ := h
  have hs : (valV kvs (.inl v)).isSome = true := by
    rw [key_val h2 v]
    exact decide_eq_true ((h5 v).mpr (by rw [e]; rfl))
  obtain ⟨x, hx⟩ := Option.isSome_iff_exists.mp hs
  obtain ⟨z', p, e1, e2, e3⟩ := h6 v x hx
  rw [e] at e1
  cases e1
  subst e2
  exact ⟨kvs, p, h1, hx, e3⟩
abbrev s_zones_of : Stmt := topS 15
theorem sc_zones_of : FnScope ["history", "zones", "task", "kind", "value", "begin", "end", "first", "last"] ["history"] (defScope s_zones_of) := ⟨rfl, rfl, rfl, by decide +kernel, rfl, by decide +kernel, by decide +kernel⟩
def spzones_of (K : PySem.W.Frag) : Sp := fun vs H Q _ => ∃ (v : V) (h : List HRow), vs = [v] ∧ Dp K H v (.list (h.map hD)) ∧ h.length ≤ 61 ∧ ∀ p H', Same H H' → H p = none → ZAt K H' p (zoneO h) 62 → Q (.ref p) H'
theorem ok_zones_of {f : Addr} {fd : FuncData} (F : Fun K "zones_of" "zones_of" s_zones_of f fd) (gm : mg "zones_of" = some (.ref f)) (N : Fre K mg)  : C8.Cal P w K mg base 1 "zones_of" (spzones_of K) [] := by
  refine mkCal F gm sc_zones_of (F.binds (ps := ["history"]) fun _ _ _ _ _ _ us hl => match us, hl with | [_], _ => rfl) (fun vs H Q E h => ?_) (fun cdv A outer s H vs Q E hr h => ?_)
  · obtain ⟨v, h, rfl, _⟩ := h
    rfl
  · obtain ⟨v, h, rfl, hv, hlen, q⟩ := h
    refine ⟨_, (pss_cons (ps_set (i := 1) sc_zones_of.nd rfl (.inl rfl) (pe_disp (pps_cons pe_int (pe_tup (pa_cons (pe_un un_neg pe_int) (pa_cons (pe_un un_neg pe_int) pa_nil))) pps_nil) rfl rfl (by simp) (by decide)))
 (pss_cons (ps_for PassesOwn.never rfl (pi_list (pv 0)) (pg_tup rfl (pgs_cons (pg_name (i := 2) sc_zones_of.nd rfl (.inl rfl)) (pgs_cons (pg_name (i := 3) sc_zones_of.nd rfl (.inl rfl)) (pgs_cons (pg_name (i := 4) sc_zones_of.nd rfl (.inl rfl)) (pgs_cons (pg_name (i := 5) sc_zones_of.nd rfl (.inl rfl)) (pgs_cons (pg_name (i := 6) sc_zones_of.nd rfl (.inl rfl)) pgs_nil))))))
 (pss_cons (ps_asg (pe_dget2 (hu_of hr) (pv 1) (pv 4) (pe_tup (pa_cons (pv 6) (pa_cons (pv 5) pa_nil))) ⟨rfl, rfl, rfl, rfl⟩) (pg_tup rfl (pgs_cons (pg_name (i := 7) sc_zones_of.nd rfl (.inl rfl)) (pgs_cons (pg_name (i := 8) sc_zones_of.nd rfl (.inl rfl)) pgs_nil))))
 (pss_one (ps_dput (hu_of hr) (pv 1) (pv 4) (pe_tup (pa_cons (pe_callB (call_min2 rfl) (by rfl) N.min (by decide +kernel) (pa_cons (pv 7) (pa_cons (pv 6) pa_nil))) (pa_cons (pe_callB (call_max2 rfl) (by rfl) N.max (by decide +kernel) (pa_cons (pv 8) (pa_cons (pv 5) pa_nil))) pa_nil))) rfl))))
 (pss_one (ps_ret (pv 1))))), ?_⟩
    obtain ⟨a, xs, rfl, hs, ha⟩ := dp_list hv
    have hl := dpAll_len ha
    rw [List.length_map] at hl
    refine fun Z nZ => ⟨1, rfl, 1, rfl, two_ok _ _, fun t nt => ⟨same_upd nt _ _ upd_same, [(.inl 0, .ref t)], rfl, (by show 1 ≤ 15; decide), ?_⟩⟩
    have hZt : upd (upd H Z (.dK [])) t (.tup [V.int (-1), V.int (-1)]) Z = some (.dK []) := same_upd nt _ _ upd_same
    have s1 : Same H (upd (upd (upd H Z (.dK [])) t (.tup [V.int (-1), V.int (-1)])) Z (.dK (mergeK [] [(.inl 0, .ref t)]))) := fun c o e => by
      rw [upd_ne (ne_of_none e nZ)]
      exact same_upd nt _ _ (same_upd nZ _ _ e)
    have z1 : ZAt K (upd (upd (upd H Z (.dK [])) t (.tup [V.int (-1), V.int (-1)])) Z (.dK (mergeK [] [(.inl 0, .ref t)]))) Z (zoneO (h.take 0)) 1 := by
      refine ⟨_, [0], upd_same, rfl, by simp, Nat.le_refl _, fun v => ?_, fun v x e => ?_⟩
      · show v ∈ [0] ↔ (z0 v).isSome = true
        unfold z0
        by_cases hv : v = 0 <;> simp [hv]
      · have e' : valV (putK [] (Sum.inl (0 : Int)) (V.ref t)) (Sum.inl v) = some x := e
        rw [valV_put] at e'
        split at e'
        · rename_i hv
          cases hv
          cases e'
          refine ⟨(-1, -1), t, rfl, rfl, SqT.of ?_⟩
          rw [upd_ne (ne_of_none (upd_same (H := H) (a := Z) (o := .dK [])) nt).symm]
          exact upd_same
        · cases e'
    revert s1 z1
    generalize upd (upd (upd H Z (.dK [])) t (.tup [V.int (-1), V.int (-1)])) Z (.dK (mergeK [] [(.inl 0, .ref t)])) = H1
    intro s1 z1
    refine ⟨_, rfl, a, rfl, ⟨_, s1.seq hs⟩, for_list (xs := xs) (fun i σ H2 => (∃ y2 y3 y4 y5 y6 y7 y8, σ = [some (.ref a), some (.ref Z), y2, y3, y4, y5, y6, y7, y8]) ∧ Same H H2 ∧ ZAt K H2 Z (zoneO (h.take i)) (i + 1)) ⟨⟨_, _, _, _, _, _, _, rfl⟩, s1, z1⟩ (fun i σ H2 _ z => z.2.1.seq hs) ?_ ?_⟩
    · rintro i x σ H2 hx ⟨⟨y2, y3, y4, y5, y6, y7, y8, rfl⟩, s2, z2⟩
      obtain ⟨d, ed, pd⟩ := dpAll_get ha hx
      rw [List.getElem?_map] at ed
      obtain ⟨r, er, rfl⟩ := Option.map_eq_some_iff.mp ed
      obtain ⟨b, rfl, hb⟩ := dp_h (dp_same s2 _ _ pd)
      refine ⟨b, _, rfl, hb, rfl, _, _, rfl, _, _, rfl, _, _, rfl, _, _, rfl, _, _, rfl, rfl, ?_⟩
      obtain ⟨kvs, ks, k1, k2, k3, k4, k5, k6⟩ := id z2
      have hi : i < h.length := (List.getElem?_eq_some_iff.mp er).1
      refine ⟨_, rfl, Z, rfl, .inl ⟨kvs, .inl k1⟩, _, rfl, _, rfl, _, rfl, two_ok _ _, fun u nu => ?_⟩
      have su := same_upd (o := .tup [V.int r.e, V.int r.b]) nu
      have hu := upd_same (H := H2) (a := u) (o := .tup [V.int r.e, V.int r.b])
      refine ⟨_, DGet.k (k := .inl r.v) (su _ _ k1), ?_⟩
      obtain ⟨f, l, p, ep, hp, ez⟩ : ∃ (f l : Int) (p : Addr), (valV kvs (.inl r.v)).getD (.ref u) = .ref p ∧ SqT K (upd H2 u (.tup [V.int r.e, V.int r.b])) p [.int f, .int l] ∧ zStep (zoneO (h.take i) r.v) r = some (if r.e < f then r.e else f, if r.b > l then r.b else l) := by
        cases hval : valV kvs (.inl r.v) with
        | none =>
          refine ⟨r.e, r.b, u, rfl, SqT.of hu, ?_⟩
          have hno : zoneO (h.take i) r.v = none := by
            have := key_val k2 r.v
            rw [hval] at this
            cases hz : zoneO (h.take i) r.v with
            | none => rfl
            | some z =>
              have h2 := (k5 r.v).mpr (by rw [hz]; rfl)
              rw [decide_eq_true h2] at this
              cases this
          rw [hno]
          show some (r.e, r.b) = _
          simp
        | some x =>
          obtain ⟨z, p, e1, e2, e3⟩ := k6 r.v x hval
          subst e2
          refine ⟨z.1, z.2, p, rfl, sqT_same su e3, ?_⟩
          rw [e1]
          rfl
      rw [ep]
      refine ⟨p, _, rfl, hp, rfl, _, _, rfl, _, _, rfl, rfl, ?_⟩
      refine ⟨_, rfl, _, rfl, f, r.e, rfl, _, rfl, _, rfl, l, r.b, rfl, two_ok _ _, fun w nw => ?_⟩
      have sw := same_upd (o := .tup [V.int (if r.e < f then r.e else f), V.int (if r.b > l then r.b else l)]) nw
      have z3 := (z2.same su).same sw
      have hZ3 := sw _ _ (su _ _ k1)
      refine ⟨_, rfl, _, rfl, Z, _, rfl, DPut.k (k := .inl r.v) hZ3 ?_, ⟨_, _, _, _, _, _, _, rfl⟩, ?_, ?_⟩
      · have : kvs.length = ks.length := by
          have := congrArg List.length k2
          simpa using this
        rw [sizeLine_eq]
        omega
      · intro c o e
        rw [upd_ne (ne_of_none e nZ)]
        exact sw _ _ (su _ _ (s2 _ _ e))
      · have := z3.put (v := r.v) (z := (if r.e < f then r.e else f, if r.b > l then r.b else l)) hZ3 (SqT.of (upd_same (o := .tup [V.int (if r.e < f then r.e else f), V.int (if r.b > l then r.b else l)])))
        have eg : zoneO (h.take (i + 1)) = fun u => if u = r.v then some (if r.e < f then r.e else f, if r.b > l then r.b else l) else zoneO (h.take i) u := by
          funext u
          rw [zone_take er]
          by_cases hu : r.v = u
          · subst hu
            rw [if_pos rfl, if_pos rfl, ez]
          · rw [if_neg hu, if_neg (fun z => hu z.symm)]
        rw [eg]
        exact this
    · rintro σ H2 ⟨⟨y2, y3, y4, y5, y6, y7, y8, rfl⟩, s2, z2⟩
      rw [hl, List.take_of_length_le (Nat.le_refl _)] at z2
      refine ⟨_, rfl, q Z H2 s2 nZ ?_⟩
      obtain ⟨kvs, ks, k1, k2, k3, k4, k5, k6⟩ := z2
      exact ⟨kvs, ks, k1, k2, k3, by omega, k5, k6⟩
/-! ### is_open_zone, clash -/
abbrev s_is_open_zone : Stmt := topS 16
theorem sc_is_open_zone : FnScope ["zone", "first", "last"] ["zone"] (defScope s_is_open_zone) := ⟨rfl, rfl, rfl, by decide +kernel, rfl, by decide +kernel, by decide +kernel⟩
def spis_open_zone (K : PySem.W.Frag) : Sp := fun vs H Q _ => ∃ (p : Addr) (z : Int × Int), vs = [.ref p] ∧ SqT K H p [.int z.1, .int z.2] ∧ Q (.bl (opn z)) H
theorem ok_is_open_zone {f : Addr} {fd : FuncData} (F : Fun K "is_open_zone" "is_open_zone" s_is_open_zone f fd) (gm : mg "is_open_zone" = some (.ref f)) (N : Fre K mg)  : C8.Cal P w K mg base 1 "is_open_zone" (spis_open_zone K) [] := by
  refine mkCal F gm sc_is_open_zone (F.binds (ps := ["zone"]) fun _ _ _ _ _ _ us hl => match us, hl with | [_], _ => rfl) (fun vs H Q E h => ?_) (fun cdv A outer s H vs Q E hr h => ?_)
  · obtain ⟨p, z, rfl, _⟩ := h
    rfl
  · obtain ⟨p, z, rfl, hp, q⟩ := h
    refine ⟨_, (pss_cons (ps_asg (pv 0) (pg_tup rfl (pgs_cons (pg_name (i := 1) sc_is_open_zone.nd rfl (.inl rfl)) (pgs_cons (pg_name (i := 2) sc_is_open_zone.nd rfl (.inl rfl)) pgs_nil))))
 (pss_one (ps_ret (pe_cmpR op_lt (pv 1) (pv 2) (nomark _))))), ?_⟩
    exact ⟨_, rfl, p, _, rfl, hp, rfl, _, _, rfl, _, _, rfl, rfl, _, rfl, _, rfl, _, _, rfl, rfl, q⟩
abbrev s_clash : Stmt := topS 17
theorem sc_clash : FnScope ["one", "other"] ["one", "other"] (defScope s_clash) := ⟨rfl, rfl, rfl, by decide +kernel, rfl, by decide +kernel, by decide +kernel⟩
def spclash (K : PySem.W.Frag) : Sp := fun vs H Q _ => ∃ (p u : Addr) (z w : Int × Int), vs = [.ref p, .ref u] ∧ SqT K H p [.int z.1, .int z.2] ∧ SqT K H u [.int w.1, .int w.2] ∧ Q (.bl (clsh z w)) H
theorem ok_clash {f : Addr} {fd : FuncData} (F : Fun K "clash" "clash" s_clash f fd) (gm : mg "clash" = some (.ref f)) (N : Fre K mg)  : C8.Cal P w K mg base 1 "clash" (spclash K) [] := by
  refine mkCal F gm sc_clash (F.binds (ps := ["one", "other"]) fun _ _ _ _ _ _ us hl => match us, hl with | [_, _], _ => rfl) (fun vs H Q E h => ?_) (fun cdv A outer s H vs Q E hr h => ?_)
  · obtain ⟨p, u, z, w, rfl, _⟩ := h
    rfl
  · obtain ⟨p, u, z, w, rfl, hp, hu, q⟩ := h
    refine ⟨_, (pss_one (ps_ret (pe_and (pe_cmpR op_lt (pe_ix ix_tup (pv 0) pe_int (fun _ _ => rfl)) (pe_ix ix_tup (pv 1) pe_int (fun _ _ => rfl)) (nomark _)) (pe_one (pe_cmpR op_lt (pe_ix ix_tup (pv 1) pe_int (fun _ _ => rfl)) (pe_ix ix_tup (pv 0) pe_int (fun _ _ => rfl)) (nomark _)))))), ?_⟩
    refine ⟨_, rfl, p, _, 0, _, rfl, rfl, hp, atI_nat (j := 0) rfl, _, rfl, u, _, 1, _, rfl, rfl, hu, atI_nat (j := 1) rfl, _, _, rfl, rfl, _, rfl, ?_⟩
    by_cases h1 : z.1 < w.2
    · refine iteD' h1 ⟨_, rfl, u, _, 0, _, rfl, rfl, hu, atI_nat (j := 0) rfl, _, rfl, p, _, 1, _, rfl, rfl, hp, atI_nat (j := 1) rfl, _, _, rfl, rfl, ?_⟩
      have e : clsh z w = decide (w.1 < z.2) := by
        unfold clsh
        rw [decide_eq_true h1]
        rfl
      rw [e] at q
      exact q
    · refine iteD h1 ?_
      have e : clsh z w = false := by
        unfold clsh
        rw [decide_eq_false h1]
        rfl
      rw [e] at q
      exact q

/-! ### the reasons -/
def pairHD (p : HRow × HRow) : PyData := .tuple [hD p.1, hD p.2]
theorem pairHD_imm (p : HRow × HRow) : imm (pairHD p) = true := rfl
theorem dp_pairH {H : Hp} {v : V} {p : HRow × HRow} (h : Dp K H v (pairHD p)) : ∃ a b c, v = .ref a ∧ SqT K H a [.ref b, .ref c] ∧ SqT K H b (hV p.1) ∧ SqT K H c (hV p.2) := by
  cases h with
  | tup hs ha =>
    cases ha with
    | cons h1 ha =>
      cases ha with
      | cons h2 ha =>
        cases ha
        obtain ⟨b, rfl, hb⟩ := dp_h h1
        obtain ⟨c, rfl, hc⟩ := dp_h h2
        exact ⟨_, b, c, rfl, hs, hb, hc⟩
abbrev s_early_reasons : Stmt := topS 18
theorem sc_early_reasons : FnScope ["history", "writes", "reads", "pairs", "row", "read", "write"] ["history"] (defScope s_early_reasons) := ⟨rfl, rfl, rfl, by decide +kernel, rfl, by decide +kernel, by decide +kernel⟩
def spearly_reasons (K : PySem.W.Frag) : Sp := fun vs H Q _ => ∃ (v : V) (h : List HRow), vs = [v] ∧ Dp K H v (.list (h.map hD)) ∧ h.length ≤ 61 ∧ OneW h ∧ ∀ (p : Addr) (H' : Hp) (ys : List V) (B : List Reason), Same H H' → H p = none → H' p = some (.lst ys) → DpAll K H' ys (B.map reaD) → (∀ x : Reason, x ∈ B ↔ x.1 = ("early" : Str) ∧ EarlyP h x.2.1 x.2.2) → B.length ≤ 61 → Q (.ref p) H'
theorem ok_early_reasons {f : Addr} {fd : FuncData} (F : Fun K "early_reasons" "early_reasons" s_early_reasons f fd) (gm : mg "early_reasons" = some (.ref f)) (N : Fre K mg)  : C8.Cal P w K mg base 1 "early_reasons" (spearly_reasons K) [] := by
  refine mkCal F gm sc_early_reasons (F.binds (ps := ["history"]) fun _ _ _ _ _ _ us hl => match us, hl with | [_], _ => rfl) (fun vs H Q E h => ?_) (fun cdv A outer s H vs Q E hr h => ?_)
  · obtain ⟨v, h, rfl, _⟩ := h
    rfl
  · obtain ⟨v, h, rfl, hv, hlen, one, q⟩ := h
    refine ⟨_, (pss_cons (ps_set (i := 1) sc_early_reasons.nd rfl (.inr rfl) (pe_dc (own := [("row", 4)]) (g := gName 4) rfl sc_early_reasons.nd (pi_list (pv 0)) (blkOk_by (N := ["history", "writes", "reads", "pairs", "row", "read", "write"]) (sc := defScope s_early_reasons) (by decide +kernel)) (fun _ _ _ _ _ => pg_name (i := 4) sc_early_reasons.nd rfl (Or.inl rfl)) (fun _ _ _ _ _ => pts_one (pt_cmpR op_eq (pe_ix (show IxR _ (rIxT K) from ix_tup) (pv 4) pe_int (fun _ _ => rfl)) pe_str (nomark _))) (fun _ _ _ _ _ => (pe_ix (show IxR _ (rIxT K) from ix_tup) (pv 4) pe_int (fun _ _ => rfl))) (fun _ _ _ _ _ => (pv 4))))
 (pss_cons (ps_setLc (i := 2) (own := [("row", 4)]) (g := gName 4) rfl sc_early_reasons.nd rfl rfl (sw_true rfl rfl rfl (by decide +kernel)) (pi_list (pv 0)) (blkOk_by (N := ["history", "writes", "reads", "pairs", "row", "read", "write"]) (sc := defScope s_early_reasons) (by decide +kernel)) (fun _ _ _ _ _ => pg_name (i := 4) sc_early_reasons.nd rfl (Or.inl rfl)) (fun _ _ _ _ _ => pts_one (PW.pt (pw_and (pt_cmpR op_eq (pe_ix (show IxR _ (rIxT K) from ix_tup) (pv 4) pe_int (fun _ _ => rfl)) pe_str (nomark _)) (pw_and1 (pt_cmp (pc_din (hu_of hr) (pe_ix (show IxR _ (rIxT K) from ix_tup) (pv 4) pe_int (fun _ _ => rfl)) (pv 1)) (by with_unfolding_all rfl)))))) (fun _ _ _ _ _ => (pv 4)))
 (pss_cons (ps_setLc (i := 3) (own := [("read", 5)]) (g := gName 5) (tt := tYes) rfl sc_early_reasons.nd rfl rfl (sw_true rfl rfl rfl (by decide +kernel)) (pi_list (pv 2)) (blkOk_by (N := ["history", "writes", "reads", "pairs", "row", "read", "write"]) (sc := defScope s_early_reasons) (by decide +kernel)) (fun _ _ _ _ _ => pg_name (i := 5) sc_early_reasons.nd rfl (Or.inl rfl)) (fun _ _ _ _ _ => pts_nil) (fun _ _ _ _ _ => (pe_tup (pa_cons (pv 5) (pa_cons (pe_dget (hu_of hr) (pv 1) (pe_ix (show IxR _ (rIxT K) from ix_tup) (pv 5) pe_int (fun _ _ => rfl)) (fun _ _ => rfl)) pa_nil)))))
 (pss_one (ps_ret (pe_lc (own := [("read", 5), ("write", 6)]) (g := gTup K 2 (gCons (gName 5) (gCons (gName 6) gNil))) rfl sc_early_reasons.nd (pi_list (pv 3)) (blkOk_by (N := ["history", "writes", "reads", "pairs", "row", "read", "write"]) (sc := defScope s_early_reasons) (by decide +kernel)) (fun _ _ _ _ _ => pg_tup rfl (pgs_cons (pg_name (i := 5) sc_early_reasons.nd rfl (Or.inl rfl)) (pgs_cons (pg_name (i := 6) sc_early_reasons.nd rfl (Or.inl rfl)) pgs_nil))) (fun _ _ _ _ _ => pts_one (pt_cmpR op_lt (pe_ix (show IxR _ (rIxT K) from ix_tup) (pv 5) pe_int (fun _ _ => rfl)) (pe_ix (show IxR _ (rIxT K) from ix_tup) (pv 6) pe_int (fun _ _ => rfl)) (nomark _))) (fun _ _ _ _ _ => (pe_tup (pa_cons pe_str (pa_cons (pe_ix (show IxR _ (rIxT K) from ix_tup) (pv 5) pe_int (fun _ _ => rfl)) (pa_cons (pe_ix (show IxR _ (rIxT K) from ix_tup) (pv 6) pe_int (fun _ _ => rfl)) pa_nil))))))))))), ?_⟩
    obtain ⟨a, xs, rfl, hs, ha⟩ := dp_list hv
    have hl := dpAll_len ha
    rw [List.length_map] at hl
    -- writes
    refine ⟨_, rfl, a, rfl, ⟨_, hs⟩, fun W nW => dc_it (walk_list (xs := xs)) (fun i H1 => Same H H1 ∧ ∃ kvs, H1 W = some (.dK kvs) ∧ kvs.length ≤ i ∧ (∀ v, valV kvs (.inl v) = none → ∀ w ∈ h.take i, w.wr = true → w.v ≠ v) ∧ ∀ v x, valV kvs (.inl v) = some x → ∃ w ∈ h.take i, w.wr = true ∧ w.v = v ∧ Dp K H1 x (hD w)) ⟨same_upd nW, [], upd_same, Nat.le_refl _, (fun v _ w hw => by cases hw), (fun v x e => by cases e)⟩ (fun i H1 _ z => z.1.seq hs) ?_ ?_⟩
    · rintro i v H1 H2 hi ⟨s1, kvs, hW, hk, hno, hyes⟩ ⟨rfl, hx⟩
      obtain ⟨d, ed, pd⟩ := dpAll_get ha hx
      rw [List.getElem?_map] at ed
      obtain ⟨r, er, rfl⟩ := Option.map_eq_some_iff.mp ed
      have pr := dp_same s1 _ _ pd
      obtain ⟨b, rfl, hb⟩ := dp_h pr
      have hmem : ∀ {w : HRow}, w ∈ h.take (i + 1) ↔ w ∈ h.take i ∨ w = r := fun {w} => by
        rw [List.take_add_one, er, List.mem_append]
        simp
      refine ⟨rfl, ⟨_, rfl, b, _, 1, _, rfl, rfl, hb, atI_nat (j := 1) rfl, rfl, _, rfl, ?_⟩⟩
      rw [kind_write]
      cases hwr : r.wr with
      | false =>
        refine iteF ⟨s1, kvs, hW, by omega, fun v e w hw wr => ?_, fun v x e => ?_⟩
        · rcases hmem.mp hw with z | rfl
          · exact hno v e w z wr
          · rw [hwr] at wr
            cases wr
        · obtain ⟨w, m, r⟩ := hyes v x e
          exact ⟨w, hmem.mpr (.inl m), r⟩
      | true =>
        refine iteT ⟨_, rfl, b, _, 2, _, rfl, rfl, hb, atI_nat (j := 2) rfl, _, rfl, kvs, .inl r.v, rfl, hW, by rw [sizeLine_eq]; omega, ?_, _, upd_same, ?_, fun v e w hw wr => ?_, fun v x e => ?_⟩
        · intro c o e
          rw [upd_ne (ne_of_none e nW)]
          exact s1 _ _ e
        · have := length_putK kvs (.inl r.v) (.ref b)
          omega
        · rw [valV_put] at e
          split at e
          · cases e
          · rename_i hv
            rcases hmem.mp hw with z | rfl
            · exact hno v e w z wr
            · exact fun z => hv (by rw [z])
        · have ku := Kt.upd (o' := .dK (putK kvs (.inl r.v) (.ref b))) hW (fun z => z)
          rw [valV_put] at e
          split at e
          · rename_i hv
            cases hv
            cases e
            exact ⟨r, hmem.mpr (.inr rfl), hwr, rfl, dp_kt ku _ _ (hD_imm r) pr⟩
          · obtain ⟨w, m, w1, w2, w3⟩ := hyes v x e
            exact ⟨w, hmem.mpr (.inl m), w1, w2, dp_kt ku _ _ (hD_imm w) w3⟩
    rintro H1 ⟨s1, kvs, hW, hk, hno, hyes⟩
    rw [hl, List.take_of_length_le (Nat.le_refl _)] at hno hyes
    have hval : ∀ v : Int, (valV kvs (.inl v)).isSome = (wOf h v).isSome := fun v => by
      cases e : valV kvs (.inl v) with
      | none =>
        cases e2 : wOf h v with
        | none => rfl
        | some w =>
          obtain ⟨m, w1, w2⟩ := wOf_some e2
          exact absurd w2 (hno v e w m w1)
      | some x =>
        obtain ⟨w, m, w1, w2, _⟩ := hyes v x e
        subst w2
        rw [wOf_is one m w1]
        rfl
    have hget : ∀ {v : Int} {w : HRow}, wOf h v = some w → ∃ x, valV kvs (.inl v) = some x ∧ Dp K H1 x (hD w) := fun {v w} e => by
      have h2 := hval v
      rw [e] at h2
      obtain ⟨x, hx⟩ := Option.isSome_iff_exists.mp h2
      obtain ⟨w', m, w1, w2, w3⟩ := hyes v x hx
      subst w2
      rw [wOf_is one m w1] at e
      cases e
      exact ⟨x, hx, w3⟩
    -- reads
    have ha1 := dp_sameAll s1 _ _ ha
    refine ⟨_, rfl, a, rfl, ⟨_, s1.seq hs⟩, fun D2 nD2 => lc_ty hD hD (fun r => if !r.wr && (wOf h r.v).isSome then some r else none) (s1.seq hs) ha1 nD2 (by omega) hD_imm ?_ ?_⟩
    · intro i v r H2 k kf er s2 pr hy hn
      obtain ⟨b, rfl, hb⟩ := dp_h pr
      refine ⟨rfl, ⟨_, rfl, b, _, 1, _, rfl, rfl, hb, atI_nat (j := 1) rfl, rfl, _, rfl, ?_⟩⟩
      rw [kind_read]
      cases hwr : r.wr with
      | true => exact iteF (iteF (hn (by rw [hwr]; rfl) _ (Same.refl _)))
      | false =>
        refine iteT ⟨_, rfl, b, _, 2, _, rfl, rfl, hb, atI_nat (j := 2) rfl, _, rfl, W, _, rfl, DGet.k (k := .inl r.v) (s2 _ _ hW), _, rfl, ?_⟩
        rw [hval]
        cases hw : (wOf h r.v).isSome with
        | true => exact iteT ⟨_, rfl, hy r (by rw [hwr, hw]; rfl) _ _ (Same.refl _) pr⟩
        | false => exact iteF (hn (by rw [hwr, hw]; rfl) _ (Same.refl _))
    intro H2 ys s2 hD2 hy
    have ey : h.filterMap (fun r => if !r.wr && (wOf h r.v).isSome then some r else none) = h.filter fun r => !r.wr && (wOf h r.v).isSome := by
      rw [← List.filterMap_eq_filter]
      rfl
    rw [ey] at hy
    have hfl : (h.filter fun r => !r.wr && (wOf h r.v).isSome).length ≤ 61 := Nat.le_trans (List.length_filter_le _ _) hlen
    -- pairs
    refine ⟨_, rfl, D2, rfl, ⟨_, SqL.of hD2⟩, fun D3 nD3 => lc_map hD pairHD (fun r => (r, (wOf h r.v).getD r)) (SqL.of hD2) hy nD3 (by omega) pairHD_imm ?_ ?_⟩
    · intro i v r H3 k er s3 pr hk3
      obtain ⟨b, rfl, hb⟩ := dp_h pr
      have hr' := (List.mem_filter.mp (List.mem_of_getElem? er)).2
      have hr2 : r.wr = false ∧ (wOf h r.v).isSome = true := by simpa using hr'
      obtain ⟨w, hw⟩ := Option.isSome_iff_exists.mp hr2.2
      obtain ⟨x, hx, px⟩ := hget hw
      have px3 := dp_same (s2.trans s3) _ _ px
      obtain ⟨c, rfl, hc⟩ := dp_h px3
      refine ⟨rfl, ⟨_, rfl, _, rfl, _, rfl, b, _, 2, _, rfl, rfl, hb, atI_nat (j := 2) rfl, W, _, rfl, dget_of (k := .inl r.v) ((s2.trans s3) _ _ hW) hx, two_ok _ _, fun t nt => hk3 _ _ (same_upd nt) ?_⟩⟩
      refine .tup (SqT.of upd_same) (.cons (dp_same (same_upd nt) _ _ pr) (.cons (dp_same (same_upd nt) _ _ ?_) .nil))
      show Dp K H3 (.ref c) (hD ((wOf h r.v).getD r))
      rw [hw]
      exact px3
    intro H3 zs s3 hD3 hz
    have hml : ((h.filter fun r => !r.wr && (wOf h r.v).isSome).map fun r => (r, (wOf h r.v).getD r)).length ≤ 61 := by rw [List.length_map]; exact hfl
    -- the reasons
    refine ⟨_, rfl, D3, rfl, ⟨_, SqL.of hD3⟩, fun D4 nD4 => lc_ty pairHD reaD (fun p => if p.1.e < p.2.b then some (("early" : Str), p.1.t, p.2.t) else none) (SqL.of hD3) hz nD4 (by omega) reaD_imm ?_ ?_⟩
    · intro i v p H4 k kf er s4 pr hy4 hn4
      obtain ⟨b, c, d, rfl, hb, hc, hd⟩ := dp_pairH pr
      refine ⟨b, _, rfl, hb, rfl, _, _, rfl, _, _, rfl, rfl, rfl, ?_⟩
      refine ⟨_, rfl, c, _, 4, _, rfl, rfl, hc, atI_nat (j := 4) rfl, _, rfl, d, _, 3, _, rfl, rfl, hd, atI_nat (j := 3) rfl, _, _, rfl, rfl, _, rfl, ?_⟩
      by_cases hlt : p.1.e < p.2.b
      · refine iteD' hlt ⟨_, rfl, c, _, 0, _, rfl, rfl, hc, atI_nat (j := 0) rfl, _, rfl, d, _, 0, _, rfl, rfl, hd, atI_nat (j := 0) rfl, three_ok _ _ _, fun t nt => ?_⟩
        exact hy4 _ (if_pos hlt) _ _ (same_upd nt) (rea_dp (SqT.of upd_same))
      · exact iteD hlt (hn4 (if_neg hlt) _ (Same.refl _))
    · intro H4 us s4 hD4 hu
      refine q D4 H4 us _ (s1.trans (s2.trans (s3.trans s4))) ((s1.trans (s2.trans s3)).free nD4) hD4 hu (fun x => ?_) (Nat.le_trans (List.length_filterMap_le _ _) hml)
      constructor
      · intro hx
        obtain ⟨p, hp, e⟩ := List.mem_filterMap.mp hx
        obtain ⟨r, hr, rfl⟩ := List.mem_map.mp hp
        obtain ⟨hr1, hr2⟩ := List.mem_filter.mp hr
        have hr3 : r.wr = false ∧ (wOf h r.v).isSome = true := by simpa using hr2
        obtain ⟨w, hw⟩ := Option.isSome_iff_exists.mp hr3.2
        obtain ⟨m, w1, w2⟩ := wOf_some hw
        rw [hw] at e
        dsimp only [Option.getD] at e
        split at e
        · rename_i hlt
          cases e
          exact ⟨rfl, r, hr1, w, m, hr3.1, w1, w2.symm, rfl, rfl, hlt⟩
        · cases e
      · rintro ⟨e1, r, hr, w, hw, r1, w1, evw, et, ew, hlt⟩
        refine List.mem_filterMap.mpr ⟨(r, w), List.mem_map.mpr ⟨r, List.mem_filter.mpr ⟨hr, ?_⟩, ?_⟩, ?_⟩
        · rw [evw, wOf_is one hw w1, r1]
          rfl
        · rw [evw, wOf_is one hw w1]
          rfl
        · show (if r.e < w.b then some (("early" : Str), r.t, w.t) else none) = some x
          rw [if_pos hlt, et, ew, ← e1]
abbrev s_both_reasons : Stmt := topS 19
theorem sc_both_reasons : FnScope ["zones", "wide", "pairs", "value", "one", "other"] ["zones"] (defScope s_both_reasons) := ⟨rfl, rfl, rfl, by decide +kernel, rfl, by decide +kernel, by decide +kernel⟩
def spboth_reasons (K : PySem.W.Frag) : Sp := fun vs H Q _ => ∃ (Z : Addr) (h : List HRow), vs = [.ref Z] ∧ ZAt K H Z (zoneO h) 62 ∧ ∀ (p : Addr) (H' : Hp) (ys : List V) (B : List Reason), Same H H' → H p = none → H' p = some (.lst ys) → DpAll K H' ys (B.map reaD) → (∀ x : Reason, x ∈ B ↔ x.1 = ("both" : Str) ∧ BothP h x.2.1 x.2.2) → B.length ≤ 10000 → Q (.ref p) H'
theorem isVal_iff {h : List HRow} {v : Int} : isVal h v ↔ (zoneO h v).isSome = true := by
  rw [Option.isSome_iff_exists]
  exact zone_some.symm
theorem flat_len {α : Type} (xs : List Int) (f : Int → List α) (n : Nat) (h : ∀ x, (f x).length ≤ n) : (xs.flatMap f).length ≤ xs.length * n := by
  induction xs with
  | nil => simp
  | cons x xs ih =>
    rw [List.flatMap_cons, List.length_append, List.length_cons, Nat.add_mul]
    have := h x
    omega
theorem ok_both_reasons {f : Addr} {fd : FuncData} (F : Fun K "both_reasons" "both_reasons" s_both_reasons f fd) (gm : mg "both_reasons" = some (.ref f)) (N : Fre K mg) (c_clash : C8.Cal P w K mg base 1 "clash" (spclash K) []) (c_is_open_zone : C8.Cal P w K mg base 1 "is_open_zone" (spis_open_zone K) []) : C8.Cal P w K mg base 2 "both_reasons" (spboth_reasons K) [] := by
  refine mkCal F gm sc_both_reasons (F.binds (ps := ["zones"]) fun _ _ _ _ _ _ us hl => match us, hl with | [_], _ => rfl) (fun vs H Q E h => ?_) (fun cdv A outer s H vs Q E hr h => ?_)
  · obtain ⟨Z, h, rfl, _⟩ := h
    rfl
  · obtain ⟨Z, h, rfl, hZ, q⟩ := h
    refine ⟨_, (pss_cons (ps_set (i := 1) sc_both_reasons.nd rfl (.inr rfl) (pe_lc (own := [("value", 3)]) (g := gName 3) rfl sc_both_reasons.nd (pi_list (pe_callB (call_sortedDI rfl) (by rfl) N.sorted (by decide +kernel) (pa_cons (pv 0) pa_nil))) (blkOk_by (N := ["zones", "wide", "pairs", "value", "one", "other"]) (sc := defScope s_both_reasons) (by decide +kernel)) (fun _ _ _ _ _ => pg_name (i := 3) sc_both_reasons.nd rfl (Or.inl rfl)) (fun _ _ _ _ _ => pts_one (pt_val (C8.pe_c c_is_open_zone hr (by decide) rfl (pa_cons (pe_dget (hu_of hr) (pv 0) (pv 3) (fun _ _ => rfl)) pa_nil)))) (fun _ _ _ _ _ => (pv 3))))
 (pss_cons (ps_setLc2 (i := 2) (own := [("one", 4), ("other", 5)]) (g := gName 4) (tt := tYes) (wi1 := iList K (tVar 1)) (g1 := gName 5) (vs1 := [5]) rfl sc_both_reasons.nd rfl rfl (sw_true rfl rfl rfl (by decide +kernel)) (pi_list (pv 1)) (blkOk_by (N := ["zones", "wide", "pairs", "value", "one", "other"]) (sc := defScope s_both_reasons) (by decide +kernel)) (by decide) (fun _ _ _ _ _ => pg_name (i := 4) sc_both_reasons.nd rfl (Or.inl rfl)) (fun _ _ _ _ _ => pts_nil) (fun _ _ _ _ _ => (pi_list (pv 1))) (fun _ _ _ _ _ => pg_name (i := 5) sc_both_reasons.nd rfl (Or.inl rfl)) (fun _ _ _ _ _ => pts_one (pt_cmpR op_lt (pv 4) (pv 5) (nomark _))) (fun _ _ _ _ _ => (pe_tup (pa_cons (pv 4) (pa_cons (pv 5) pa_nil)))))
 (pss_one (ps_ret (pe_lc (own := [("one", 4), ("other", 5)]) (g := gTup K 2 (gCons (gName 4) (gCons (gName 5) gNil))) rfl sc_both_reasons.nd (pi_list (pv 2)) (blkOk_by (N := ["zones", "wide", "pairs", "value", "one", "other"]) (sc := defScope s_both_reasons) (by decide +kernel)) (fun _ _ _ _ _ => pg_tup rfl (pgs_cons (pg_name (i := 4) sc_both_reasons.nd rfl (Or.inl rfl)) (pgs_cons (pg_name (i := 5) sc_both_reasons.nd rfl (Or.inl rfl)) pgs_nil))) (fun _ _ _ _ _ => pts_one (pt_val (C8.pe_c c_clash hr (by decide) rfl (pa_cons (pe_dget (hu_of hr) (pv 0) (pv 4) (fun _ _ => rfl)) (pa_cons (pe_dget (hu_of hr) (pv 0) (pv 5) (fun _ _ => rfl)) pa_nil))))) (fun _ _ _ _ _ => (pe_tup (pa_cons pe_str (pa_cons (pv 4) (pa_cons (pv 5) pa_nil)))))))))), ?_⟩
    obtain ⟨kvs, ks, k1, k2, k3, k4, k5, k6⟩ := id hZ
    -- wide
    refine ⟨_, rfl, Z, kvs, ks, rfl, .inl k1, k2, by omega, fun ys p hp hso np => ⟨p, rfl, ⟨_, SqL.of upd_same⟩, fun D nD => ?_⟩⟩
    have sp := same_upd (o := .lst (ys.map V.int)) np
    have hyl : ys.length ≤ 62 := by rw [hp.length_eq]; exact k4
    have hym : ∀ v, v ∈ ys ↔ isVal h v := fun v => by rw [hp.mem_iff, k5 v, isVal_iff]
    refine lc_ty PyData.int PyData.int (fun v => if opnV h v = true then some v else none) (SqL.of upd_same) (ints_dp ys) nD (by omega) (fun _ => rfl) ?_ ?_
    · intro i v x H2 k kf er s2 pr hy hn
      cases pr
      have hv := (hym x).mp (List.mem_of_getElem? er)
      obtain ⟨z, hz⟩ := Option.isSome_iff_exists.mp (isVal_iff.mp hv)
      obtain ⟨kv', t, e1, e2, e3⟩ := ((hZ.same sp).same s2).get hz
      refine ⟨rfl, ⟨_, rfl, _, rfl, Z, _, rfl, dget_of (k := .inl x) e1 e2, t, z, rfl, e3, _, rfl, ?_⟩⟩
      have eo : opnV h x = opn z := by unfold opnV; rw [hz]
      rw [← eo]
      cases ho : opnV h x with
      | true => exact iteT ⟨_, rfl, hy x (if_pos ho) _ _ (Same.refl _) (.int _)⟩
      | false => exact iteF (hn (by rw [ho]; rfl) _ (Same.refl _))
    intro H2 us s2 hD hu
    have eu := dp_ints hu
    subst eu
    have hwm : ∀ v, v ∈ ys.filterMap (fun v => if opnV h v = true then some v else none) ↔ isVal h v ∧ opnV h v = true := fun v => by
      rw [List.mem_filterMap]
      constructor
      · rintro ⟨u, hu, e⟩
        split at e
        · rename_i ho
          cases e
          exact ⟨(hym _).mp hu, ho⟩
        · cases e
      · rintro ⟨h1, h2⟩
        exact ⟨v, (hym v).mpr h1, if_pos h2⟩
    have hwl : (ys.filterMap (fun v => if opnV h v = true then some v else none)).length ≤ 62 := Nat.le_trans (List.length_filterMap_le _ _) hyl
    revert hD hwm hwl
    generalize ys.filterMap (fun v => if opnV h v = true then some v else none) = ws
    intro hD hwm hwl
    clear hu
    -- pairs
    refine ⟨_, rfl, D, rfl, ⟨_, SqL.of hD⟩, fun D2 nD2 => lc2_ints (c := D) (ys := ws) (fun x y => if x < y then some (x, y) else none) (SqL.of hD) (SqL.of hD) nD2 (by omega) (by omega) ?_ ?_⟩
    · intro x H3 k s3 _ kk hk
      refine hk _ rfl (fun R => ⟨fun z => ?_, fun z => ⟨_, rfl, D, rfl, ⟨_, SqL.of (s3 _ _ hD)⟩, z⟩⟩) fun y H4 kt kf s4 hy hn => ⟨rfl, _, rfl, _, rfl, x, y, rfl, rfl, _, rfl, ?_⟩
      · obtain ⟨v, ev, d, ed, _, hR⟩ := z
        cases ev
        cases ed
        exact hR
      · by_cases hlt : x < y
        · exact iteD' hlt ⟨_, rfl, _, rfl, two_ok _ _, fun t nt => hy _ (if_pos hlt) _ _ (same_upd nt) (.tup (SqT.of upd_same) (.cons (.int _) (.cons (.int _) .nil)))⟩
        · exact iteD hlt (hn (if_neg hlt))
    intro H3 zs s3 hD2 hz
    have hpm : ∀ x : Int × Int, x ∈ (ws.flatMap fun x => ws.filterMap fun y => if x < y then some (x, y) else none) ↔ x.1 ∈ ws ∧ x.2 ∈ ws ∧ x.1 < x.2 := fun x => by
      rw [List.mem_flatMap]
      constructor
      · rintro ⟨a, h1, h2⟩
        obtain ⟨b, h3, e⟩ := List.mem_filterMap.mp h2
        split at e
        · cases e
          exact ⟨h1, h3, ‹_›⟩
        · cases e
      · rintro ⟨h1, h2, h3⟩
        exact ⟨x.1, h1, List.mem_filterMap.mpr ⟨x.2, h2, if_pos h3⟩⟩
    have hpl : (ws.flatMap fun x => ws.filterMap fun y => if x < y then some (x, y) else none).length ≤ 3844 := by
      refine Nat.le_trans (flat_len ws _ 62 fun x => Nat.le_trans (List.length_filterMap_le _ _) hwl) ?_
      exact Nat.mul_le_mul_right 62 hwl
    revert hz hpm hpl
    generalize (ws.flatMap fun x => ws.filterMap fun y => if x < y then some (x, y) else none) = ps
    intro hz hpm hpl
    -- the reasons
    refine ⟨_, rfl, D2, rfl, ⟨_, SqL.of hD2⟩, fun D3 nD3 => lc_ty pairD reaD (fun p => if clsV h p.1 p.2 = true then some (("both" : Str), p.1, p.2) else none) (SqL.of hD2) hz nD3 (by omega) reaD_imm ?_ ?_⟩
    · intro i v p H4 k kf er s4 pr hy hn
      obtain ⟨b, rfl, hb⟩ := dp_pair pr
      obtain ⟨m1, m2, _⟩ := (hpm p).mp (List.mem_of_getElem? er)
      obtain ⟨z, hz⟩ := Option.isSome_iff_exists.mp (isVal_iff.mp ((hwm _).mp m1).1)
      obtain ⟨w, hw⟩ := Option.isSome_iff_exists.mp (isVal_iff.mp ((hwm _).mp m2).1)
      have hZ4 := ((((hZ.same sp).same s2).same s3).same s4)
      obtain ⟨kv1, t1, e1, e2, e3⟩ := hZ4.get hz
      obtain ⟨kv2, t2, f1, f2, f3⟩ := hZ4.get hw
      refine ⟨b, _, rfl, hb, rfl, _, _, rfl, _, _, rfl, rfl, rfl, ?_⟩
      refine ⟨_, rfl, _, rfl, Z, _, rfl, dget_of (k := .inl p.1) e1 e2, _, rfl, _, rfl, Z, _, rfl, dget_of (k := .inl p.2) f1 f2, t1, t2, z, w, rfl, e3, f3, _, rfl, ?_⟩
      have ec : clsV h p.1 p.2 = clsh z w := by unfold clsV; rw [hz, hw]
      rw [← ec]
      cases hc : clsV h p.1 p.2 with
      | true => exact iteT ⟨_, rfl, _, rfl, three_ok _ _ _, fun t nt => hy _ (if_pos hc) _ _ (same_upd nt) (rea_dp (SqT.of upd_same))⟩
      | false => exact iteF (hn (by rw [hc]; rfl) _ (Same.refl _))
    · intro H4 us s4 hD3 hu
      have sA := sp.trans (s2.trans s3)
      refine q D3 H4 us _ (sA.trans s4) (sA.free nD3) hD3 hu (fun x => ?_) (Nat.le_trans (List.length_filterMap_le _ _) (by omega))
      rw [List.mem_filterMap]
      constructor
      · rintro ⟨p, hp, e⟩
        split at e
        · rename_i hc
          cases e
          obtain ⟨m1, m2, m3⟩ := (hpm p).mp hp
          exact ⟨rfl, ((hwm _).mp m1).1, ((hwm _).mp m2).1, m3, ((hwm _).mp m1).2, ((hwm _).mp m2).2, hc⟩
        · cases e
      · rintro ⟨e1, v1, v2, lt, o1, o2, hc⟩
        exact ⟨(x.2.1, x.2.2), (hpm _).mpr ⟨(hwm _).mpr ⟨v1, o1⟩, (hwm _).mpr ⟨v2, o2⟩, lt⟩, by rw [if_pos hc, ← e1]⟩

abbrev s_within_reasons : Stmt := topS 20
theorem sc_within_reasons : FnScope ["zones", "wide", "small", "pairs", "value", "one", "other"] ["zones"] (defScope s_within_reasons) := ⟨rfl, rfl, rfl, by decide +kernel, rfl, by decide +kernel, by decide +kernel⟩
def spwithin_reasons (K : PySem.W.Frag) : Sp := fun vs H Q _ => ∃ (Z : Addr) (h : List HRow), vs = [.ref Z] ∧ ZAt K H Z (zoneO h) 62 ∧ ∀ (p : Addr) (H' : Hp) (ys : List V) (B : List Reason), Same H H' → H p = none → H' p = some (.lst ys) → DpAll K H' ys (B.map reaD) → (∀ x : Reason, x ∈ B ↔ x.1 = ("within" : Str) ∧ WithinP h x.2.1 x.2.2) → B.length ≤ 10000 → Q (.ref p) H'
theorem ok_within_reasons {f : Addr} {fd : FuncData} (F : Fun K "within_reasons" "within_reasons" s_within_reasons f fd) (gm : mg "within_reasons" = some (.ref f)) (N : Fre K mg) (c_clash : C8.Cal P w K mg base 1 "clash" (spclash K) []) (c_is_open_zone : C8.Cal P w K mg base 1 "is_open_zone" (spis_open_zone K) []) : C8.Cal P w K mg base 2 "within_reasons" (spwithin_reasons K) [] := by
  refine mkCal F gm sc_within_reasons (F.binds (ps := ["zones"]) fun _ _ _ _ _ _ us hl => match us, hl with | [_], _ => rfl) (fun vs H Q E h => ?_) (fun cdv A outer s H vs Q E hr h => ?_)
  · obtain ⟨Z, h, rfl, _⟩ := h
    rfl
  · obtain ⟨Z, h, rfl, hZ, q⟩ := h
    refine ⟨_, (pss_cons (ps_setLc (i := 1) (own := [("value", 4)]) (g := gName 4) rfl sc_within_reasons.nd rfl rfl (sw_true rfl rfl rfl (by decide +kernel)) (pi_list (pe_callB (call_sortedDI rfl) (by rfl) N.sorted (by decide +kernel) (pa_cons (pv 0) pa_nil))) (blkOk_by (N := ["zones", "wide", "small", "pairs", "value", "one", "other"]) (sc := defScope s_within_reasons) (by decide +kernel)) (fun _ _ _ _ _ => pg_name (i := 4) sc_within_reasons.nd rfl (Or.inl rfl)) (fun _ _ _ _ _ => pts_one (pt_val (C8.pe_c c_is_open_zone hr (by decide) rfl (pa_cons (pe_dget (hu_of hr) (pv 0) (pv 4) (fun _ _ => rfl)) pa_nil)))) (fun _ _ _ _ _ => (pv 4)))
 (pss_cons (ps_set (i := 2) sc_within_reasons.nd rfl (.inr rfl) (pe_lc (own := [("value", 4)]) (g := gName 4) rfl sc_within_reasons.nd (pi_list (pe_callB (call_sortedDI rfl) (by rfl) N.sorted (by decide +kernel) (pa_cons (pv 0) pa_nil))) (blkOk_by (N := ["zones", "wide", "small", "pairs", "value", "one", "other"]) (sc := defScope s_within_reasons) (by decide +kernel)) (fun _ _ _ _ _ => pg_name (i := 4) sc_within_reasons.nd rfl (Or.inl rfl)) (fun _ _ _ _ _ => pts_one (pt_not (pt_val (C8.pe_c c_is_open_zone hr (by decide) rfl (pa_cons (pe_dget (hu_of hr) (pv 0) (pv 4) (fun _ _ => rfl)) pa_nil))))) (fun _ _ _ _ _ => (pv 4))))
 (pss_cons (ps_setLc2 (i := 3) (own := [("one", 5), ("other", 6)]) (g := gName 5) (tt := tYes) (wi1 := iList K (tVar 2)) (g1 := gName 6) (vs1 := [6]) (tt1 := tYes) rfl sc_within_reasons.nd rfl rfl (sw_true rfl rfl rfl (by decide +kernel)) (pi_list (pv 1)) (blkOk_by (N := ["zones", "wide", "small", "pairs", "value", "one", "other"]) (sc := defScope s_within_reasons) (by decide +kernel)) (by decide) (fun _ _ _ _ _ => pg_name (i := 5) sc_within_reasons.nd rfl (Or.inl rfl)) (fun _ _ _ _ _ => pts_nil) (fun _ _ _ _ _ => (pi_list (pv 2))) (fun _ _ _ _ _ => pg_name (i := 6) sc_within_reasons.nd rfl (Or.inl rfl)) (fun _ _ _ _ _ => pts_nil) (fun _ _ _ _ _ => (pe_tup (pa_cons (pv 5) (pa_cons (pv 6) pa_nil)))))
 (pss_one (ps_ret (pe_lc (own := [("one", 5), ("other", 6)]) (g := gTup K 2 (gCons (gName 5) (gCons (gName 6) gNil))) rfl sc_within_reasons.nd (pi_list (pv 3)) (blkOk_by (N := ["zones", "wide", "small", "pairs", "value", "one", "other"]) (sc := defScope s_within_reasons) (by decide +kernel)) (fun _ _ _ _ _ => pg_tup rfl (pgs_cons (pg_name (i := 5) sc_within_reasons.nd rfl (Or.inl rfl)) (pgs_cons (pg_name (i := 6) sc_within_reasons.nd rfl (Or.inl rfl)) pgs_nil))) (fun _ _ _ _ _ => pts_one (pt_val (C8.pe_c c_clash hr (by decide) rfl (pa_cons (pe_dget (hu_of hr) (pv 0) (pv 5) (fun _ _ => rfl)) (pa_cons (pe_dget (hu_of hr) (pv 0) (pv 6) (fun _ _ => rfl)) pa_nil))))) (fun _ _ _ _ _ => (pe_tup (pa_cons pe_str (pa_cons (pv 5) (pa_cons (pv 6) pa_nil))))))))))), ?_⟩
    obtain ⟨kvs, ks, k1, k2, k3, k4, k5, k6⟩ := id hZ
    -- wide
    refine ⟨_, rfl, Z, kvs, ks, rfl, .inl k1, k2, by omega, fun ys p hp hso np => ⟨p, rfl, ⟨_, SqL.of upd_same⟩, fun D nD => ?_⟩⟩
    have sp := same_upd (o := .lst (ys.map V.int)) np
    have hyl : ys.length ≤ 62 := by rw [hp.length_eq]; exact k4
    have hym : ∀ v, v ∈ ys ↔ isVal h v := fun v => by rw [hp.mem_iff, k5 v, isVal_iff]
    refine lc_ty PyData.int PyData.int (fun v => if opnV h v = true then some v else none) (SqL.of upd_same) (ints_dp ys) nD (by omega) (fun _ => rfl) ?_ ?_
    · intro i v x H2 k kf er s2 pr hy hn
      cases pr
      have hv := (hym x).mp (List.mem_of_getElem? er)
      obtain ⟨z, hz⟩ := Option.isSome_iff_exists.mp (isVal_iff.mp hv)
      obtain ⟨kv', t, e1, e2, e3⟩ := ((hZ.same sp).same s2).get hz
      refine ⟨rfl, ⟨_, rfl, _, rfl, Z, _, rfl, dget_of (k := .inl x) e1 e2, t, z, rfl, e3, _, rfl, ?_⟩⟩
      have eo : opnV h x = opn z := by unfold opnV; rw [hz]
      rw [← eo]
      cases ho : opnV h x with
      | true => exact iteT ⟨_, rfl, hy x (if_pos ho) _ _ (Same.refl _) (.int _)⟩
      | false => exact iteF (hn (by rw [ho]; rfl) _ (Same.refl _))
    intro H2 us s2 hD hu
    have eu := dp_ints hu
    subst eu
    have hwm : ∀ v, v ∈ ys.filterMap (fun v => if opnV h v = true then some v else none) ↔ isVal h v ∧ opnV h v = true := fun v => by
      rw [List.mem_filterMap]
      constructor
      · rintro ⟨u, hu, e⟩
        split at e
        · rename_i ho
          cases e
          exact ⟨(hym _).mp hu, ho⟩
        · cases e
      · rintro ⟨h1, h2⟩
        exact ⟨v, (hym v).mpr h1, if_pos h2⟩
    have hwl : (ys.filterMap (fun v => if opnV h v = true then some v else none)).length ≤ 62 := Nat.le_trans (List.length_filterMap_le _ _) hyl
    revert hD hwm hwl
    generalize ys.filterMap (fun v => if opnV h v = true then some v else none) = ws
    intro hD hwm hwl
    clear hu
    -- small
    refine ⟨_, rfl, Z, kvs, ks, rfl, .inl ((sp.trans s2) _ _ k1), k2, by omega, fun ys' p' hp' hso' np' => ⟨p', rfl, ⟨_, SqL.of upd_same⟩, fun D' nD' => ?_⟩⟩
    have sp' := same_upd (o := .lst (ys'.map V.int)) np'
    have hyl' : ys'.length ≤ 62 := by rw [hp'.length_eq]; exact k4
    have hym' : ∀ v, v ∈ ys' ↔ isVal h v := fun v => by rw [hp'.mem_iff, k5 v, isVal_iff]
    refine lc_ty PyData.int PyData.int (fun v => if opnV h v = true then none else some v) (SqL.of upd_same) (ints_dp ys') nD' (by omega) (fun _ => rfl) ?_ ?_
    · intro i v x H3 k kf er s3 pr hy hn
      cases pr
      have hv := (hym' x).mp (List.mem_of_getElem? er)
      obtain ⟨z, hz⟩ := Option.isSome_iff_exists.mp (isVal_iff.mp hv)
      obtain ⟨kv', t, e1, e2, e3⟩ := ((((hZ.same sp).same s2).same sp').same s3).get hz
      refine ⟨rfl, ⟨_, rfl, _, rfl, Z, _, rfl, dget_of (k := .inl x) e1 e2, t, z, rfl, e3, _, rfl, ?_⟩⟩
      have eo : opnV h x = opn z := by unfold opnV; rw [hz]
      rw [← eo]
      cases ho : opnV h x with
      | true => exact iteF (hn (if_pos ho) _ (Same.refl _))
      | false => exact iteT ⟨_, rfl, hy x (by rw [ho]; rfl) _ _ (Same.refl _) (.int _)⟩
    intro H2' us' s2' hD' hu'
    have eu' := dp_ints hu'
    subst eu'
    have hwm' : ∀ v, v ∈ ys'.filterMap (fun v => if opnV h v = true then none else some v) ↔ isVal h v ∧ opnV h v = false := fun v => by
      rw [List.mem_filterMap]
      constructor
      · rintro ⟨u, hu, e⟩
        split at e
        · cases e
        · rename_i ho
          cases e
          exact ⟨(hym' _).mp hu, by simpa using ho⟩
      · rintro ⟨h1, h2⟩
        exact ⟨v, (hym' v).mpr h1, by rw [h2]; rfl⟩
    have hwl' : (ys'.filterMap (fun v => if opnV h v = true then none else some v)).length ≤ 62 := Nat.le_trans (List.length_filterMap_le _ _) hyl'
    revert hD' hwm' hwl'
    generalize ys'.filterMap (fun v => if opnV h v = true then none else some v) = ms
    intro hD' hwm' hwl'
    clear hu'
    have sq := sp'.trans s2'
    have hDq := sq _ _ hD
    -- pairs
    refine ⟨_, rfl, D, rfl, ⟨_, SqL.of hDq⟩, fun D2 nD2 => lc2_ints (c := D') (ys := ms) (fun x y => some (x, y)) (SqL.of hDq) (SqL.of hD') nD2 (by omega) (by omega) ?_ ?_⟩
    · intro x H3 k s3 _ kk hk
      refine hk _ rfl (fun R => ⟨fun z => ?_, fun z => ⟨_, rfl, D', rfl, ⟨_, SqL.of (s3 _ _ hD')⟩, z⟩⟩) fun y H4 kt kf s4 hy hn => ⟨rfl, ?_⟩
      · obtain ⟨v, ev, d, ed, _, hR⟩ := z
        cases ev
        cases ed
        exact hR
      · simp only [tYes, if_true]
        exact ⟨_, rfl, _, rfl, two_ok _ _, fun t nt => hy _ rfl _ _ (same_upd nt) (.tup (SqT.of upd_same) (.cons (.int _) (.cons (.int _) .nil)))⟩
    intro H3 zs s3 hD2 hz
    have hpm : ∀ x : Int × Int, x ∈ (ws.flatMap fun x => ms.filterMap fun y => some (x, y)) ↔ x.1 ∈ ws ∧ x.2 ∈ ms := fun x => by
      rw [List.mem_flatMap]
      constructor
      · rintro ⟨a, h1, h2⟩
        obtain ⟨b, h3, e⟩ := List.mem_filterMap.mp h2
        cases e
        exact ⟨h1, h3⟩
      · rintro ⟨h1, h2⟩
        exact ⟨x.1, h1, List.mem_filterMap.mpr ⟨x.2, h2, rfl⟩⟩
    have hpl : (ws.flatMap fun x => ms.filterMap fun y => some (x, y)).length ≤ 3844 := by
      refine Nat.le_trans (flat_len ws _ 62 fun x => Nat.le_trans (List.length_filterMap_le _ _) hwl') ?_
      exact Nat.mul_le_mul_right 62 hwl
    revert hz hpm hpl
    generalize (ws.flatMap fun x => ms.filterMap fun y => some (x, y)) = ps
    intro hz hpm hpl
    -- the reasons
    refine ⟨_, rfl, D2, rfl, ⟨_, SqL.of hD2⟩, fun D3 nD3 => lc_ty pairD reaD (fun p => if clsV h p.1 p.2 = true then some (("within" : Str), p.1, p.2) else none) (SqL.of hD2) hz nD3 (by omega) reaD_imm ?_ ?_⟩
    · intro i v p H4 k kf er s4 pr hy hn
      obtain ⟨b, rfl, hb⟩ := dp_pair pr
      obtain ⟨m1, m2⟩ := (hpm p).mp (List.mem_of_getElem? er)
      obtain ⟨z, hz⟩ := Option.isSome_iff_exists.mp (isVal_iff.mp ((hwm _).mp m1).1)
      obtain ⟨w, hw⟩ := Option.isSome_iff_exists.mp (isVal_iff.mp ((hwm' _).mp m2).1)
      have hZ4 := ((((hZ.same sp).same s2).same sq).same s3).same s4
      obtain ⟨kv1, t1, e1, e2, e3⟩ := hZ4.get hz
      obtain ⟨kv2, t2, f1, f2, f3⟩ := hZ4.get hw
      refine ⟨b, _, rfl, hb, rfl, _, _, rfl, _, _, rfl, rfl, rfl, ?_⟩
      refine ⟨_, rfl, _, rfl, Z, _, rfl, dget_of (k := .inl p.1) e1 e2, _, rfl, _, rfl, Z, _, rfl, dget_of (k := .inl p.2) f1 f2, t1, t2, z, w, rfl, e3, f3, _, rfl, ?_⟩
      have ec : clsV h p.1 p.2 = clsh z w := by unfold clsV; rw [hz, hw]
      rw [← ec]
      cases hc : clsV h p.1 p.2 with
      | true => exact iteT ⟨_, rfl, _, rfl, three_ok _ _ _, fun t nt => hy _ (if_pos hc) _ _ (same_upd nt) (rea_dp (SqT.of upd_same))⟩
      | false => exact iteF (hn (by rw [hc]; rfl) _ (Same.refl _))
    · intro H4 us s4 hD3 hu
      have sA := (sp.trans s2).trans (sq.trans s3)
      refine q D3 H4 us _ (sA.trans s4) (sA.free nD3) hD3 hu (fun x => ?_) (Nat.le_trans (List.length_filterMap_le _ _) (by omega))
      rw [List.mem_filterMap]
      constructor
      · rintro ⟨p, hp, e⟩
        split at e
        · rename_i hc
          cases e
          obtain ⟨m1, m2⟩ := (hpm p).mp hp
          exact ⟨rfl, ((hwm _).mp m1).1, ((hwm' _).mp m2).1, ((hwm _).mp m1).2, ((hwm' _).mp m2).2, hc⟩
        · cases e
      · rintro ⟨e1, v1, v2, o1, o2, hc⟩
        exact ⟨(x.2.1, x.2.2), (hpm _).mpr ⟨(hwm _).mpr ⟨v1, o1⟩, (hwm' _).mpr ⟨v2, o2⟩⟩, by rw [if_pos hc, ← e1]⟩
abbrev s_reasons_of : Stmt := topS 21
theorem sc_reasons_of : FnScope ["history", "zones"] ["history"] (defScope s_reasons_of) := ⟨rfl, rfl, rfl, by decide +kernel, rfl, by decide +kernel, by decide +kernel⟩
/-- all reasons, by words as they go first -/
structure Reas (h : List HRow) (E B W : List Reason) : Prop where
  e : ∀ x : Reason, x ∈ E ↔ x.1 = ("early" : Str) ∧ EarlyP h x.2.1 x.2.2
  b : ∀ x : Reason, x ∈ B ↔ x.1 = ("both" : Str) ∧ BothP h x.2.1 x.2.2
  w : ∀ x : Reason, x ∈ W ↔ x.1 = ("within" : Str) ∧ WithinP h x.2.1 x.2.2
def spreasons_of (K : PySem.W.Frag) : Sp := fun vs H Q _ => ∃ (v : V) (h : List HRow), vs = [v] ∧ Dp K H v (.list (h.map hD)) ∧ h.length ≤ 61 ∧ OneW h ∧ ∀ (p : Addr) (H' : Hp) (ys : List V) (E B W : List Reason), Same H H' → H p = none → H' p = some (.lst ys) → DpAll K H' ys ((E ++ B ++ W).map reaD) → Reas h E B W → (E ++ B ++ W).length ≤ 30000 → Q (.ref p) H'
theorem ok_reasons_of {f : Addr} {fd : FuncData} (F : Fun K "reasons_of" "reasons_of" s_reasons_of f fd) (gm : mg "reasons_of" = some (.ref f)) (N : Fre K mg) (c_both_reasons : C8.Cal P w K mg base 2 "both_reasons" (spboth_reasons K) []) (c_early_reasons : C8.Cal P w K mg base 1 "early_reasons" (spearly_reasons K) []) (c_within_reasons : C8.Cal P w K mg base 2 "within_reasons" (spwithin_reasons K) []) (c_zones_of : C8.Cal P w K mg base 1 "zones_of" (spzones_of K) []) : C8.Cal P w K mg base 3 "reasons_of" (spreasons_of K) [] := by
  refine mkCal F gm sc_reasons_of (F.binds (ps := ["history"]) fun _ _ _ _ _ _ us hl => match us, hl with | [_], _ => rfl) (fun vs H Q E h => ?_) (fun cdv A outer s H vs Q E hr h => ?_)
  · obtain ⟨v, h, rfl, _⟩ := h
    rfl
  · obtain ⟨v, h, rfl, hv, hlen, one, q⟩ := h
    refine ⟨_, (pss_cons (ps_set (i := 1) sc_reasons_of.nd rfl (.inl rfl) (C8.pe_c c_zones_of hr (by decide) rfl (pa_cons (pv 0) pa_nil)))
 (pss_one (ps_ret (pe_op op_cat (pe_op op_cat (C8.pe_c c_early_reasons hr (by decide) rfl (pa_cons (pv 0) pa_nil)) (C8.pe_c c_both_reasons hr (by decide) rfl (pa_cons (pv 1) pa_nil))) (C8.pe_c c_within_reasons hr (by decide) rfl (pa_cons (pv 1) pa_nil)))))), ?_⟩
    refine ⟨_, rfl, v, h, rfl, hv, hlen, fun Z H1 s1 nZ hZ => ?_⟩
    refine ⟨_, rfl, v, h, rfl, dp_same s1 _ _ hv, hlen, one, fun p1 H2 y1 E s2 n1 h1 a1 c1 l1 => ?_⟩
    refine ⟨_, rfl, Z, h, rfl, hZ.same s2, fun p2 H3 y2 B s3 n2 h2 a2 c2 l2 => ?_⟩
    have e1 := dpAll_len a1
    have e2 := dpAll_len a2
    rw [List.length_map] at e1 e2
    refine ⟨p1, p2, _, _, rfl, rfl, s3 _ _ h1, h2, by rw [sizeLine_eq]; omega, fun p3 n3 => ?_⟩
    have s4 := same_upd (o := .lst (y1 ++ y2)) n3
    refine ⟨_, rfl, Z, h, rfl, ((hZ.same s2).same s3).same s4, fun p5 H5 y5 W s5 n5 h5 a5 c5 l5 => ?_⟩
    have e5 := dpAll_len a5
    rw [List.length_map] at e5
    refine ⟨p3, p5, _, _, rfl, rfl, s5 _ _ upd_same, h5, by rw [List.length_append, sizeLine_eq]; omega, fun p6 n6 => ?_⟩
    have s6 := same_upd (o := .lst (y1 ++ y2 ++ y5)) n6
    have sA := s1.trans (s2.trans (s3.trans (s4.trans s5)))
    refine q p6 _ _ E B W (sA.trans s6) (sA.free n6) upd_same ?_ ⟨c1, c2, c5⟩ (by rw [List.length_append, List.length_append]; omega)
    rw [List.map_append, List.map_append]
    exact dpAll_append (dpAll_append (dp_sameAll (s3.trans (s4.trans (s5.trans s6))) _ _ a1) (dp_sameAll (s4.trans (s5.trans s6)) _ _ a2)) (dp_sameAll s6 _ _ a5)

/-! ### shows_none -/
theorem rea_eqv (x y : Reason) : PyData.eqv (reaD x) (reaD y) = decide (x = y) := by
  obtain ⟨w, a, b⟩ := x
  obtain ⟨w', a', b'⟩ := y
  simp only [reaD, PyData.eqv, PyData.eqvAll, Bool.and_true]
  by_cases h1 : w = w'
  · by_cases h2 : a = a'
    · by_cases h3 : b = b'
      · subst h1; subst h2; subst h3
        simp
      · simp [h3]
    · simp [h2]
  · simp [h1]
theorem rea_lay {x : Reason} (h : PyData.strOk x.1 = true) : (reaD x).canLay0 = true := by simp [reaD, PyData.canLay0, PyData.canLayAll0, h]
theorem rea_deep (x : Reason) : (reaD x).depth ≤ 1 := by simp [reaD, PyData.depth, PyData.depthAll]
theorem rea_sh {x : Reason} (h : PyData.strOk x.1 = true) : SeqAt.shaped (reaD x) = true := by
  unfold SeqAt.shaped
  rw [rea_lay h, decide_eq_true (Nat.le_trans (rea_deep x) (by decide))]
  rfl
theorem reas_sh {xs : List Reason} (h : ∀ x ∈ xs, PyData.strOk x.1 = true) : SeqAt.shaped (.list (xs.map reaD)) = true := by
  have h1 : (PyData.list (xs.map reaD)).canLay0 = true := by
    rw [PyData.canLay0]
    induction xs with
    | nil => simp [PyData.canLayAll0]
    | cons r rs ih =>
      rw [List.map_cons, PyData.canLayAll0, rea_lay (h r List.mem_cons_self), ih fun r' hr' => h r' (List.mem_cons_of_mem _ hr')]
      rfl
  have h2 : (PyData.list (xs.map reaD)).depth ≤ 64 := by
    have : PyData.depthAll (xs.map reaD) ≤ 1 := by
      clear h h1
      induction xs with
      | nil => simp [PyData.depthAll]
      | cons r rs ih =>
        rw [List.map_cons, PyData.depthAll]
        exact Nat.max_le.mpr ⟨rea_deep r, ih⟩
    rw [PyData.depth]
    omega
  unfold SeqAt.shaped
  rw [h1, decide_eq_true h2]
  rfl
theorem early_ok : PyData.strOk ("early" : Str) = true := by decide +kernel
theorem both_ok' : PyData.strOk ("both" : Str) = true := by decide +kernel
theorem within_ok : PyData.strOk ("within" : Str) = true := by decide +kernel
theorem Reas.ok {h : List HRow} {E B W : List Reason} (r : Reas h E B W) : ∀ x ∈ E ++ B ++ W, PyData.strOk x.1 = true := fun x hx => by
  rcases List.mem_append.mp hx with hx | hx
  · rcases List.mem_append.mp hx with hx | hx
    · rw [((r.e x).mp hx).1]
      exact early_ok
    · rw [((r.b x).mp hx).1]
      exact both_ok'
  · rw [((r.w x).mp hx).1]
    exact within_ok
/-- a reason that is just so -/
def ShowsP (h : List HRow) (x : Reason) : Prop := (x.1 = ("early" : Str) ∧ EarlyP h x.2.1 x.2.2) ∨ (x.1 = ("both" : Str) ∧ BothP h x.2.1 x.2.2) ∨ (x.1 = ("within" : Str) ∧ WithinP h x.2.1 x.2.2)
theorem Reas.shows {h : List HRow} {E B W : List Reason} (r : Reas h E B W) (x : Reason) : x ∈ E ++ B ++ W ↔ ShowsP h x := by
  unfold ShowsP
  rw [List.mem_append, List.mem_append, r.e x, r.b x, r.w x, or_assoc]
theorem any_eqv (xs : List Reason) (x : Reason) : ((xs.map reaD).any fun z => PyData.eqv z (reaD x)) = decide (x ∈ xs) := by
  rw [List.any_map]
  by_cases h : x ∈ xs
  · rw [decide_eq_true h, List.any_eq_true]
    exact ⟨x, h, by simp [rea_eqv]⟩
  · rw [decide_eq_false h, List.any_eq_false]
    intro y hy
    simp only [Function.comp, rea_eqv, decide_eq_true_eq]
    exact fun z => h (z ▸ hy)

abbrev s_shows_none : Stmt := topS 25
theorem sc_shows_none : FnScope ["history", "reason"] ["history", "reason"] (defScope s_shows_none) := ⟨rfl, rfl, rfl, by decide +kernel, rfl, by decide +kernel, by decide +kernel⟩
def spshows_none (K : PySem.W.Frag) : Sp := fun vs H Q _ => ∃ (v u : V) (h : List HRow) (x : Reason), vs = [v, u] ∧ Dp K H v (.list (h.map hD)) ∧ Dp K H u (reaD x) ∧ PyData.strOk x.1 = true ∧ h.length ≤ 61 ∧ OneW h ∧ ∀ H' c, Same H H' → (c = true ↔ ShowsP h x) → Q (.bl c) H'
theorem ok_shows_none {f : Addr} {fd : FuncData} (F : Fun K "shows_none" "shows_none" s_shows_none f fd) (gm : mg "shows_none" = some (.ref f)) (N : Fre K mg) (c_reasons_of : C8.Cal P w K mg base 3 "reasons_of" (spreasons_of K) []) : C8.Cal P w K mg base 4 "shows_none" (spshows_none K) [] := by
  refine mkCal F gm sc_shows_none (F.binds (ps := ["history", "reason"]) fun _ _ _ _ _ _ us hl => match us, hl with | [_, _], _ => rfl) (fun vs H Q E h => ?_) (fun cdv A outer s H vs Q E hr h => ?_)
  · obtain ⟨v, u, h, x, rfl, _⟩ := h
    rfl
  · obtain ⟨v, u, h, x, rfl, hv, hu, okx, hlen, one, q⟩ := h
    refine ⟨_, (pss_one (ps_ret (pe_cmpR (op_inD (hu65 hr)) (pv 1) (C8.pe_c c_reasons_of hr (by decide) rfl (pa_cons (pv 0) pa_nil)) (by with_unfolding_all rfl)))), ?_⟩
    refine ⟨_, rfl, _, rfl, v, h, rfl, hv, hlen, one, fun p H1 ys E B W s1 np h1 a1 r1 l1 => ?_⟩
    refine ⟨_, _, dp_same s1 _ _ hu, .lst (SqL.of h1) a1, rea_sh okx, reas_sh r1.ok, ?_⟩
    rw [any_eqv]
    exact q H1 _ s1 (by rw [decide_eq_true_iff]; exact r1.shows x)

/-! ### an order -/
def plc (z : Int × Int) : Int × Int := (if z.2 < z.1 then z.2 else z.1, if opn z = true then 1 else 0)
abbrev s_place_of : Stmt := topS 22
theorem sc_place_of : FnScope ["zone", "first", "last"] ["zone"] (defScope s_place_of) := ⟨rfl, rfl, rfl, by decide +kernel, rfl, by decide +kernel, by decide +kernel⟩
def spplace_of (K : PySem.W.Frag) : Sp := fun vs H Q _ => ∃ (p : Addr) (z : Int × Int), vs = [.ref p] ∧ SqT K H p [.int z.1, .int z.2] ∧ ∀ t, H t = none → Q (.ref t) (upd H t (.tup [.int (plc z).1, .int (plc z).2]))
theorem ok_place_of {f : Addr} {fd : FuncData} (F : Fun K "place_of" "place_of" s_place_of f fd) (gm : mg "place_of" = some (.ref f)) (N : Fre K mg) (c_is_open_zone : C8.Cal P w K mg base 1 "is_open_zone" (spis_open_zone K) []) : C8.Cal P w K mg base 2 "place_of" (spplace_of K) [] := by
  refine mkCal F gm sc_place_of (F.binds (ps := ["zone"]) fun _ _ _ _ _ _ us hl => match us, hl with | [_], _ => rfl) (fun vs H Q E h => ?_) (fun cdv A outer s H vs Q E hr h => ?_)
  · obtain ⟨p, z, rfl, _⟩ := h
    rfl
  · obtain ⟨p, z, rfl, hp, q⟩ := h
    refine ⟨_, (pss_cons (ps_asg (pv 0) (pg_tup rfl (pgs_cons (pg_name (i := 1) sc_place_of.nd rfl (.inl rfl)) (pgs_cons (pg_name (i := 2) sc_place_of.nd rfl (.inl rfl)) pgs_nil))))
 (pss_one (ps_ret (pe_tup (pa_cons (pe_callB (call_min2 rfl) (by rfl) N.min (by decide +kernel) (pa_cons (pv 1) (pa_cons (pv 2) pa_nil))) (pa_cons (pe_ifExp (pt_val (C8.pe_c c_is_open_zone hr (by decide) rfl (pa_cons (pv 0) pa_nil))) pe_int pe_int) pa_nil)))))), ?_⟩
    refine ⟨_, rfl, p, _, rfl, hp, rfl, _, _, rfl, _, _, rfl, rfl, ?_⟩
    refine ⟨_, rfl, _, rfl, z.1, z.2, rfl, _, rfl, p, z, rfl, hp, _, rfl, ?_⟩
    cases ho : opn z with
    | true =>
      refine iteT ⟨two_ok _ _, fun t nt => ?_⟩
      have := q t nt
      unfold plc at this
      rw [ho] at this
      exact this
    | false =>
      refine iteF ⟨two_ok _ _, fun t nt => ?_⟩
      have := q t nt
      unfold plc at this
      rw [ho] at this
      exact this
/-- by what a row is put in its place -/
def keyR (h : List HRow) (r : HRow) : List Int := match zoneO h r.v with
  | some z => [(plc z).1, (plc z).2, r.v, (if r.wr = true then 0 else 1), r.b, r.t]
  | none => []
def Placed (h rs : List HRow) : Prop := rs.Perm h ∧ rs.Pairwise fun r w => HT.lexLt (keyR h w) (keyR h r) = false
abbrev KsAt (H : Hp) (h : List HRow) : List V → List HRow → Prop := Paired fun y r => KeyAt H y (keyR h r)
theorem KeyAt.kt {H H' : Hp} {x : V} {k : List Int} (z : KeyAt H x k) (s : Kt H H') : KeyAt H' x k := by
  obtain ⟨t, p, m, o, v1, v2, v3, v4, e, h1, h2, ek⟩ := z
  exact ⟨t, p, m, o, v1, v2, v3, v4, e, s _ _ h1 trivial, s _ _ h2 trivial, ek⟩
theorem KeyAt.uniq {H : Hp} {x : V} {k k' : List Int} (z : KeyAt H x k) (y : KeyAt H x k') : k = k' := by
  obtain ⟨t, p, m, o, v1, v2, v3, v4, e, h1, h2, ek⟩ := z
  obtain ⟨t', p', m', o', v1', v2', v3', v4', e', h1', h2', ek'⟩ := y
  rw [e] at e'
  cases e'
  rw [h1] at h1'
  cases h1'
  rw [h2] at h2'
  cases h2'
  rw [ek, ek']
theorem KsAt.kt {H H' : Hp} {h : List HRow} (s : Kt H H') : ∀ {ys : List V} {rs : List HRow}, KsAt H h ys rs → KsAt H' h ys rs
  | _, _, .nil => .nil
  | _, _, .cons a b => .cons (a.kt s) (KsAt.kt s b)
theorem paired_snoc {α β : Type} {R : α → β → Prop} {x : α} {y : β} (r : R x y) : ∀ {xs : List α} {ys : List β}, Paired R xs ys → Paired R (xs ++ [x]) (ys ++ [y])
  | _, _, .nil => .cons r .nil
  | _, _, .cons a b => .cons a (paired_snoc r b)
theorem paired_perm {α β : Type} {R : α → β → Prop} {xs ys : List α} (p : xs.Perm ys) : ∀ {rs : List β}, Paired R xs rs → ∃ rs', rs.Perm rs' ∧ Paired R ys rs' := by
  induction p with
  | nil =>
    intro rs h
    cases h
    exact ⟨[], .nil, .nil⟩
  | cons x _ ih =>
    intro rs h
    cases h with
    | cons a b =>
      obtain ⟨rs', p1, p2⟩ := ih b
      exact ⟨_, p1.cons _, .cons a p2⟩
  | swap x y l =>
    intro rs h
    cases h with
    | cons a b =>
      cases b with
      | cons c d => exact ⟨_, .swap _ _ _, .cons c (.cons a d)⟩
  | trans _ _ ih1 ih2 =>
    intro rs h
    obtain ⟨r1, p1, q1⟩ := ih1 h
    obtain ⟨r2, p2, q2⟩ := ih2 q1
    exact ⟨r2, p1.trans p2, q2⟩
theorem paired_pair {α β : Type} {R : α → β → Prop} {S : α → α → Prop} {T : β → β → Prop} (st : ∀ (a c : α) (b d : β), R a b → R c d → S a c → T b d) : ∀ {xs : List α} {ys : List β}, Paired R xs ys → xs.Pairwise S → ys.Pairwise T
  | _, _, .nil, _ => List.Pairwise.nil
  | x :: xs, y :: ys, .cons a b, p => by
    obtain ⟨p1, p2⟩ := List.pairwise_cons.mp p
    refine List.pairwise_cons.mpr ⟨fun d hd => ?_, paired_pair st b p2⟩
    have mem : ∀ {xs : List α} {ys : List β}, Paired R xs ys → ∀ d ∈ ys, ∃ c ∈ xs, R c d := by
      intro xs ys q
      induction q with
      | nil => intro d hd; cases hd
      | cons a _ ih =>
        intro d hd
        rcases List.mem_cons.mp hd with rfl | hd
        · exact ⟨_, List.mem_cons_self, a⟩
        · obtain ⟨c, hc, r⟩ := ih d hd
          exact ⟨c, List.mem_cons_of_mem _ hc, r⟩
    obtain ⟨c, hc, r⟩ := mem b d hd
    exact st _ _ _ _ a r (p1 c hc)
theorem paired_get {α β : Type} {R : α → β → Prop} : ∀ {xs : List α} {ys : List β} {i : Nat} {x : α}, Paired R xs ys → xs[i]? = some x → ∃ y, ys[i]? = some y ∧ R x y
  | _, _, 0, _, .cons a _, e => by
    cases e
    exact ⟨_, rfl, a⟩
  | _, _, i + 1, _, .cons _ b, e => paired_get (i := i) b (by simpa using e)
  | _, _, i, _, .nil, e => by simp at e
abbrev s_order_of : Stmt := topS 23
theorem sc_order_of : FnScope ["history", "zones", "keys", "task", "kind", "value", "begin", "end", "behind", "key"] ["history"] (defScope s_order_of) := ⟨rfl, rfl, rfl, by decide +kernel, rfl, by decide +kernel, by decide +kernel⟩
def sporder_of (K : PySem.W.Frag) : Sp := fun vs H Q _ => ∃ (v : V) (h : List HRow), vs = [v] ∧ Dp K H v (.list (h.map hD)) ∧ h.length ≤ 61 ∧ ∀ (p : Addr) (H' : Hp) (rs : List HRow), Same H H' → H p = none → H' p = some (.lst ((rs.map HRow.t).map V.int)) → Placed h rs → Q (.ref p) H'
theorem ok_order_of {f : Addr} {fd : FuncData} (F : Fun K "order_of" "order_of" s_order_of f fd) (gm : mg "order_of" = some (.ref f)) (N : Fre K mg) (c_place_of : C8.Cal P w K mg base 2 "place_of" (spplace_of K) []) (c_zones_of : C8.Cal P w K mg base 1 "zones_of" (spzones_of K) []) : C8.Cal P w K mg base 3 "order_of" (sporder_of K) [] := by
  refine mkCal F gm sc_order_of (F.binds (ps := ["history"]) fun _ _ _ _ _ _ us hl => match us, hl with | [_], _ => rfl) (fun vs H Q E h => ?_) (fun cdv A outer s H vs Q E hr h => ?_)
  · obtain ⟨v, h, rfl, _⟩ := h
    rfl
  · obtain ⟨v, h, rfl, hv, hlen, q⟩ := h
    refine ⟨_, (pss_cons (ps_set (i := 1) sc_order_of.nd rfl (.inl rfl) (C8.pe_c c_zones_of hr (by decide) rfl (pa_cons (pv 0) pa_nil)))
 (pss_cons (ps_set (i := 2) sc_order_of.nd rfl (.inl rfl) (pe_lst pa_nil))
 (pss_cons (ps_for PassesOwn.never rfl (pi_list (pv 0)) (pg_tup rfl (pgs_cons (pg_name (i := 3) sc_order_of.nd rfl (.inl rfl)) (pgs_cons (pg_name (i := 4) sc_order_of.nd rfl (.inl rfl)) (pgs_cons (pg_name (i := 5) sc_order_of.nd rfl (.inl rfl)) (pgs_cons (pg_name (i := 6) sc_order_of.nd rfl (.inl rfl)) (pgs_cons (pg_name (i := 7) sc_order_of.nd rfl (.inl rfl)) pgs_nil))))))
 (pss_cons (ps_set (i := 8) sc_order_of.nd rfl (.inl rfl) (pe_ifExp (pt_cmpR op_eq (pv 4) pe_str (nomark _)) pe_int pe_int))
 (pss_one (ps_expr (pe_bm PySem.F.plainAttrs_list PySem.F.slot_list_append PySem.F.type_list_append mt_append (pv 2) (pa_cons (pe_tup (pa_cons (C8.pe_c c_place_of hr (by decide) rfl (pa_cons (pe_dget (hu_of hr) (pv 1) (pv 5) (fun _ _ => rfl)) pa_nil)) (pa_cons (pv 5) (pa_cons (pv 8) (pa_cons (pv 6) (pa_cons (pv 3) pa_nil)))))) pa_nil))))))
 (pss_one (ps_ret (pe_lc (own := [("key", 9)]) (g := gName 9) (tt := tYes) rfl sc_order_of.nd (pi_list (pe_callB (show CallR _ _ (rSortedK K) from cr_sortedK hr.units) (by rfl) N.sorted (by decide +kernel) (pa_cons (pv 2) pa_nil))) (blkOk_by (N := ["history", "zones", "keys", "task", "kind", "value", "begin", "end", "behind", "key"]) (sc := defScope s_order_of) (by decide +kernel)) (fun _ _ _ _ _ => pg_name (i := 9) sc_order_of.nd rfl (Or.inl rfl)) (fun _ _ _ _ _ => pts_nil) (fun _ _ _ _ _ => (pe_ix (show IxR _ (rIxT K) from ix_tup) (pv 9) pe_int (fun _ _ => rfl))))))))), ?_⟩
    obtain ⟨a, xs, rfl, hs, ha⟩ := dp_list hv
    have hl := dpAll_len ha
    rw [List.length_map] at hl
    refine ⟨_, rfl, _, h, rfl, hv, hlen, fun Z H1 s1 nZ hZ => ?_⟩
    refine ⟨Nat.zero_le _, fun Lk nLk => ?_⟩
    have sk := same_upd (o := .lst []) nLk
    have hLk := upd_same (H := H1) (a := Lk) (o := .lst [])
    have nLk0 : H Lk = none := s1.free nLk
    have s2 := s1.trans sk
    have hZ2 := hZ.same sk
    have ZLk : Z ≠ Lk := by
      obtain ⟨kvs, ks, k1, _⟩ := hZ
      exact ne_of_none k1 nLk
    revert hLk s2 hZ2
    generalize upd H1 Lk (.lst []) = H2
    intro hLk s2 hZ2
    refine ⟨_, rfl, a, rfl, ⟨_, s2.seq hs⟩, for_list (xs := xs) (fun i σ H3 => (∃ y3 y4 y5 y6 y7 y8 y9, σ = [some (.ref a), some (.ref Z), some (.ref Lk), y3, y4, y5, y6, y7, y8, y9]) ∧ Same H H3 ∧ ZAt K H3 Z (zoneO h) 62 ∧ ∃ ys, H3 Lk = some (.lst ys) ∧ ys.length = i ∧ KsAt H3 h ys (h.take i)) ⟨⟨_, _, _, _, _, _, _, rfl⟩, s2, hZ2, [], hLk, rfl, .nil⟩ (fun i σ H3 _ z => z.2.1.seq hs) ?_ ?_⟩
    · rintro i x σ H3 hx ⟨⟨y3, y4, y5, y6, y7, y8, y9, rfl⟩, s3, hZ3, ys, hL3, hyl, hks⟩
      obtain ⟨d, ed, pd⟩ := dpAll_get ha hx
      rw [List.getElem?_map] at ed
      obtain ⟨r, er, rfl⟩ := Option.map_eq_some_iff.mp ed
      obtain ⟨b, rfl, hb⟩ := dp_h (dp_same s3 _ _ pd)
      have hi : i < h.length := (List.getElem?_eq_some_iff.mp er).1
      refine ⟨b, _, rfl, hb, rfl, _, _, rfl, _, _, rfl, _, _, rfl, _, _, rfl, _, _, rfl, rfl, ?_⟩
      obtain ⟨z, hz⟩ := zone_some.mpr (.inr ⟨r, List.mem_of_getElem? er, rfl⟩ : r.v = 0 ∨ ∃ w ∈ h, w.v = r.v)
      obtain ⟨kvs, p, k1, k2, k3⟩ := hZ3.get hz
      have rest : ∀ bh : Int, bh = (if r.wr = true then 0 else 1) → ∀ (t : Addr), H3 t = none → upd H3 t (.tup [.int (plc z).1, .int (plc z).2]) Lk = some (.lst ys) ∧ ∀ u, upd H3 t (.tup [.int (plc z).1, .int (plc z).2]) u = none →
          upd (upd H3 t (.tup [.int (plc z).1, .int (plc z).2])) u (.tup [.ref t, .int r.v, .int bh, .int r.b, .int r.t]) Lk = some (.lst ys) ∧ Same H (upd (upd (upd H3 t (.tup [.int (plc z).1, .int (plc z).2])) u (.tup [.ref t, .int r.v, .int bh, .int r.b, .int r.t])) Lk (.lst (ys ++ [.ref u]))) ∧ ZAt K (upd (upd (upd H3 t (.tup [.int (plc z).1, .int (plc z).2])) u (.tup [.ref t, .int r.v, .int bh, .int r.b, .int r.t])) Lk (.lst (ys ++ [.ref u]))) Z (zoneO h) 62 ∧ KsAt (upd (upd (upd H3 t (.tup [.int (plc z).1, .int (plc z).2])) u (.tup [.ref t, .int r.v, .int bh, .int r.b, .int r.t])) Lk (.lst (ys ++ [.ref u]))) h (ys ++ [.ref u]) (h.take (i + 1)) := by
        intro bh ebh t nt
        have st := same_upd (o := .tup [.int (plc z).1, .int (plc z).2]) nt
        refine ⟨st _ _ hL3, fun u nu => ?_⟩
        have su := same_upd (o := .tup [.ref t, .int r.v, .int bh, .int r.b, .int r.t]) nu
        have hL5 := su _ _ (st _ _ hL3)
        have ku := Kt.upd (o' := .lst (ys ++ [.ref u])) hL5 (fun z => z)
        refine ⟨hL5, fun c o e => ?_, ?_, ?_⟩
        · rw [upd_ne (ne_of_none e nLk0)]
          exact su _ _ (st _ _ (s3 _ _ e))
        · obtain ⟨kvs', ks, q1, q2, q3, q4, q5, q6⟩ := (hZ3.same st).same su
          refine ⟨kvs', ks, by rw [upd_ne ZLk]; exact q1, q2, q3, q4, q5, fun v x e => ?_⟩
          obtain ⟨z', p', e1, e2, e3⟩ := q6 v x e
          exact ⟨z', p', e1, e2, sqT_kt ku e3⟩
        · rw [List.take_add_one, er]
          refine paired_snoc ⟨u, t, (plc z).1, (plc z).2, r.v, bh, r.b, r.t, rfl, ?_, ?_, ?_⟩ (KsAt.kt (((Kt.same st).trans (Kt.same su)).trans ku) hks)
          · exact ku _ _ upd_same trivial
          · exact ku _ _ (su _ _ upd_same) trivial
          · unfold keyR
            rw [hz, ebh]
      refine ⟨_, rfl, rfl, _, rfl, ?_⟩
      rw [kind_read]
      cases hwr : r.wr with
      | true =>
        refine iteF ?_
        refine ⟨_, rfl, .inl ⟨rfl, _, SqL.of hL3⟩, _, rfl, _, rfl, Z, _, rfl, dget_of (k := .inl r.v) k1 k2, p, z, rfl, k3, fun t nt => ?_⟩
        obtain ⟨g1, g2⟩ := rest 0 (by rw [hwr]; rfl) t nt
        refine ⟨_, rfl, _, rfl, _, rfl, _, rfl, (by show 5 ≤ sizeLine; decide), fun u nu => ?_⟩
        obtain ⟨g3, g4, g5, g6⟩ := g2 u nu
        exact ⟨Lk, ys, _, rfl, rfl, g3, by rw [sizeLine_eq]; omega, ⟨_, _, _, _, _, _, _, rfl⟩, g4, g5, _, upd_same, by rw [List.length_append, hyl]; rfl, g6⟩
      | false =>
        refine iteT ?_
        refine ⟨_, rfl, .inl ⟨rfl, _, SqL.of hL3⟩, _, rfl, _, rfl, Z, _, rfl, dget_of (k := .inl r.v) k1 k2, p, z, rfl, k3, fun t nt => ?_⟩
        obtain ⟨g1, g2⟩ := rest 1 (by rw [hwr]; rfl) t nt
        refine ⟨_, rfl, _, rfl, _, rfl, _, rfl, (by show 5 ≤ sizeLine; decide), fun u nu => ?_⟩
        obtain ⟨g3, g4, g5, g6⟩ := g2 u nu
        exact ⟨Lk, ys, _, rfl, rfl, g3, by rw [sizeLine_eq]; omega, ⟨_, _, _, _, _, _, _, rfl⟩, g4, g5, _, upd_same, by rw [List.length_append, hyl]; rfl, g6⟩
    · rintro σ H3 ⟨⟨y3, y4, y5, y6, y7, y8, y9, rfl⟩, s3, hZ3, ys, hL3, hyl, hks⟩
      rw [hl, List.take_of_length_le (Nat.le_refl _)] at hks
      have kf : ∀ x ∈ ys, KeyAt H3 x (Classical.epsilon (KeyAt H3 x)) := fun x hx => by
        obtain ⟨j, hj⟩ := List.mem_iff_getElem?.mp hx
        obtain ⟨r, _, hr⟩ := paired_get hks hj
        exact Classical.epsilon_spec (p := KeyAt H3 x) ⟨_, hr⟩
      refine ⟨_, rfl, Lk, ys, fun x => Classical.epsilon (KeyAt H3 x), rfl, SqL.of hL3, kf, fun zs p pm pw np => ?_⟩
      have sp := same_upd (o := .lst zs) np
      obtain ⟨rs, prs, hrs⟩ := paired_perm pm.symm hks
      have pl : Placed h rs := by
        refine ⟨prs.symm, paired_pair (fun a c b d ra rc hlt => ?_) hrs pw⟩
        rw [KeyAt.uniq rc (Classical.epsilon_spec (p := KeyAt H3 c) ⟨_, rc⟩), KeyAt.uniq ra (Classical.epsilon_spec (p := KeyAt H3 a) ⟨_, ra⟩)]
        exact hlt
      have hzl : zs.length ≤ 61 := by rw [pm.length_eq, hyl, hl]; exact hlen
      refine ⟨p, rfl, ⟨_, SqL.of upd_same⟩, fun D nD => lc_it (walk_list (K := K) (a := p) (xs := zs)) (fun j H4 => Same (upd H3 p (.lst zs)) H4 ∧ H4 D = some (.lst (((rs.take j).map HRow.t).map V.int))) ⟨same_upd nD, upd_same⟩ (fun j H4 _ z => SqL.of (z.1 _ _ upd_same)) ?_ ?_⟩
      · rintro j x H4 H5 hj ⟨s4, hD4⟩ ⟨rfl, hx⟩
        obtain ⟨r, er, hr⟩ := paired_get hrs hx
        obtain ⟨t, p', m, o, v1, v2, v3, v4, rfl, h1, h2, ek⟩ := hr
        have e4 : v4 = r.t := by
          unfold keyR at ek
          cases hz : zoneO h r.v with
          | none =>
            rw [hz] at ek
            cases ek
          | some z =>
            rw [hz] at ek
            injection ek with _ ek
            injection ek with _ ek
            injection ek with _ ek
            injection ek with _ ek
            injection ek with _ ek
            injection ek with ek _
            exact ek.symm
        subst e4
        refine ⟨rfl, ⟨_, rfl, t, _, 4, _, rfl, rfl, SqT.of ((sp.trans s4) _ _ h1), atI_nat (j := 4) rfl, _, hD4, ?_, ?_, ?_⟩⟩
        · rw [List.length_map, List.length_map, List.length_take, sizeLine_eq]
          omega
        · intro c o' e
          rw [upd_ne (ne_of_none e nD)]
          exact s4 _ _ e
        · rw [upd_same, List.take_add_one, er, List.map_append, List.map_append]
          rfl
      · rintro H4 ⟨s4, hD4⟩
        have hrl : zs.length = rs.length := Paired.length hrs
        rw [hrl, List.take_of_length_le (Nat.le_refl _)] at hD4
        exact q D H4 rs (s3.trans (sp.trans s4)) ((s3.trans sp).free nD) hD4 pl
abbrev s_ordered : Stmt := topS 24
theorem sc_ordered : FnScope ["history", "reasons"] ["history"] (defScope s_ordered) := ⟨rfl, rfl, rfl, by decide +kernel, rfl, by decide +kernel, by decide +kernel⟩
def spordered (K : PySem.W.Frag) : Sp := fun vs H Q _ => ∃ (v : V) (h : List HRow), vs = [v] ∧ Dp K H v (.list (h.map hD)) ∧ h.length ≤ 61 ∧ OneW h ∧
  (∀ (p : Addr) (H' : Hp) (E B W : List Reason) (x : Reason), Same H H' → Reas h E B W → (E ++ B ++ W)[0]? = some x → Dp K H' (.ref p) (reaD x) → Q (.ref p) H') ∧
  ∀ (p L : Addr) (H' : Hp) (rs : List HRow), Same H H' → H L = none → (∀ x, ¬ ShowsP h x) → H' L = some (.lst ((rs.map HRow.t).map V.int)) → Placed h rs → H' p = some (.tup [.str "order", .ref L]) → Q (.ref p) H'
theorem ok_ordered {f : Addr} {fd : FuncData} (F : Fun K "ordered" "ordered" s_ordered f fd) (gm : mg "ordered" = some (.ref f)) (N : Fre K mg) (c_order_of : C8.Cal P w K mg base 3 "order_of" (sporder_of K) []) (c_reasons_of : C8.Cal P w K mg base 3 "reasons_of" (spreasons_of K) []) : C8.Cal P w K mg base 4 "ordered" (spordered K) [] := by
  refine mkCal F gm sc_ordered (F.binds (ps := ["history"]) fun _ _ _ _ _ _ us hl => match us, hl with | [_], _ => rfl) (fun vs H Q E h => ?_) (fun cdv A outer s H vs Q E hr h => ?_)
  · obtain ⟨v, h, rfl, _⟩ := h
    rfl
  · obtain ⟨v, h, rfl, hv, hlen, one, q1, q2⟩ := h
    refine ⟨_, (pss_cons (ps_set (i := 1) sc_ordered.nd rfl (.inl rfl) (C8.pe_c c_reasons_of hr (by decide) rfl (pa_cons (pv 0) pa_nil)))
 (pss_cons (ps_if (pt_truth (pv 1) (by intro _; rfl))
 (pss_one (ps_ret (pe_ix ix_list (pv 1) pe_int (fun _ _ => rfl))))
 pss_nil)
 (pss_one (ps_ret (pe_tup (pa_cons pe_str (pa_cons (C8.pe_c c_order_of hr (by decide) rfl (pa_cons (pv 0) pa_nil)) pa_nil))))))), ?_⟩
    refine ⟨_, rfl, v, h, rfl, hv, hlen, one, fun p H1 ys E B W s1 np h1 a1 r1 l1 => ?_⟩
    have hl1 := dpAll_len a1
    rw [List.length_map] at hl1
    refine ⟨_, rfl, _, .inl ⟨_, SqL.of h1, rfl⟩, ?_⟩
    cases hE : E ++ B ++ W with
    | nil =>
      have hy0 : ys = [] := by
        rw [hE] at hl1
        exact List.eq_nil_of_length_eq_zero hl1
      rw [hy0]
      refine iteF ⟨_, rfl, v, h, rfl, dp_same s1 _ _ hv, hlen, fun L H2 rs s2 nL hL pl => ⟨two_ok _ _, fun t nt => ?_⟩⟩
      have no : ∀ x, ¬ ShowsP h x := fun x z => by
        have := (r1.shows x).mpr z
        rw [hE] at this
        cases this
      have st := same_upd (o := .tup [V.str "order", V.ref L]) nt
      exact q2 t L _ rs ((s1.trans s2).trans st) (s1.free nL) no (st _ _ hL) pl upd_same
    | cons x xs =>
      rw [hE] at a1
      cases a1 with
      | cons px pxs =>
        obtain ⟨p', us, e, _, _⟩ := dp_tuple px
        subst e
        refine iteT ⟨_, rfl, p, _, 0, _, rfl, rfl, SqL.of h1, atI_nat (j := 0) rfl, ?_⟩
        exact q1 p' H1 E B W x s1 r1 (by rw [hE]; rfl) px

/-! ### a history drawn -/
structure HGood (h : List HRow) : Prop where
  one : OneW h
  tn : (h.map (·.t)).Nodup
  rd : ∀ r ∈ h, r.wr = false → r.v = 0 ∨ ∃ w ∈ h, w.wr = true ∧ w.v = r.v
  tm : ∀ r ∈ h, 0 ≤ r.b ∧ r.b < r.e ∧ r.e ≤ 10000
  vb : ∀ r ∈ h, 0 ≤ r.v ∧ r.v ≤ 999 ∧ (r.wr = true → 1 ≤ r.v)
  tt : ∀ r ∈ h, 0 ≤ r.t ∧ r.t < 70
theorem HGood.perm {h h' : List HRow} (g : HGood h) (p : h.Perm h') : HGood h' := by
  have m : ∀ {r}, r ∈ h' → r ∈ h := fun hr => p.mem_iff.mpr hr
  refine ⟨fun r w hr hw => g.one r w (m hr) (m hw), (p.map (·.t)).nodup_iff.mp g.tn, fun r hr e => ?_, fun r hr => g.tm r (m hr), fun r hr => g.vb r (m hr), fun r hr => g.tt r (m hr)⟩
  rcases g.rd r (m hr) e with z | ⟨w, hw, z⟩
  · exact .inl z
  · exact .inr ⟨w, p.mem_iff.mp hw, z⟩
theorem erase_perm {α : Type} {l : List α} {k : Nat} {r : α} (e : l[k]? = some r) : ([r] ++ l.eraseIdx k).Perm l := by
  obtain ⟨hk, ek⟩ := List.getElem?_eq_some_iff.mp e
  have e1 : l = l.take k ++ r :: l.drop (k + 1) := by rw [← ek, List.getElem_cons_drop, List.take_append_drop]
  rw [List.eraseIdx_eq_take_drop_succ]
  conv => rhs; rw [e1]
  exact (show (r :: (l.take k ++ l.drop (k + 1))).Perm _ from List.perm_middle.symm)

/-! ### orders: the mathematics -/
theorem pw_get {α : Type} {R : α → α → Prop} : ∀ {l : List α} {i j : Nat} {x y : α}, l.Pairwise R → l[i]? = some x → l[j]? = some y → i < j → R x y
  | a :: l, 0, j + 1, x, y, p, hi, hj, _ => by
    cases hi
    exact (List.pairwise_cons.mp p).1 y (List.mem_of_getElem? (by simpa using hj))
  | a :: l, i + 1, j + 1, x, y, p, hi, hj, lt => pw_get (List.pairwise_cons.mp p).2 (by simpa using hi) (by simpa using hj) (by omega)
  | a :: l, i, 0, x, y, p, hi, hj, lt => absurd lt (Nat.not_lt_zero _)
  | [], i, j, x, y, p, hi, hj, lt => by simp at hi
def NoBack (o : List HRow) : Prop := o.Pairwise fun x y => ¬ y.e < x.b
def seesL : Int → List HRow → Prop
  | _, [] => True
  | last, r :: rs => (r.wr = true ∨ r.v = last) ∧ seesL r.v rs
def SomeO (left : List HRow) (last : Int) : Prop := ∃ o, o.Perm left ∧ NoBack o ∧ seesL last o
/-- what is asked of a history for orders -/
structure HMid (h : List HRow) : Prop where
  one : OneW h
  tn : (h.map (·.t)).Nodup
  rd : ∀ r ∈ h, r.wr = false → r.v = 0 ∨ ∃ w ∈ h, w.wr = true ∧ w.v = r.v
  tm : ∀ r ∈ h, 0 ≤ r.b ∧ r.b < r.e
  vb : ∀ r ∈ h, r.wr = true → 1 ≤ r.v
theorem HGood.mid {h : List HRow} (g : HGood h) : HMid h := ⟨g.one, g.tn, g.rd, fun r hr => ⟨(g.tm r hr).1, (g.tm r hr).2.1⟩, fun r hr => (g.vb r hr).2.2⟩
theorem sees_step : ∀ {o : List HRow} {last : Int} {i : Nat} {r : HRow}, seesL last o → o[i]? = some r → r.wr = false → (i = 0 ∧ r.v = last) ∨ ∃ j p, i = j + 1 ∧ o[j]? = some p ∧ p.v = r.v
  | x :: xs, last, 0, r, s, e, hw => by
    cases e
    rcases s.1 with z | z
    · rw [hw] at z
      cases z
    · exact .inl ⟨rfl, z⟩
  | x :: xs, last, i + 1, r, s, e, hw => by
    have e' : xs[i]? = some r := by simpa using e
    rcases sees_step s.2 e' hw with ⟨rfl, z⟩ | ⟨j, p, rfl, hp, z⟩
    · exact .inr ⟨0, x, rfl, rfl, z.symm⟩
    · exact .inr ⟨j + 1, p, rfl, by simpa using hp, z⟩
  | [], _, _, _, _, e, _ => by simp at e
theorem sees_of : ∀ {o : List HRow} {last : Int}, (∀ (i : Nat) (r : HRow), o[i]? = some r → r.wr = false → (i = 0 ∧ r.v = last) ∨ ∃ j p, i = j + 1 ∧ o[j]? = some p ∧ p.v = r.v) → seesL last o
  | [], _, _ => trivial
  | x :: xs, last, h => by
    refine ⟨?_, sees_of fun i r e hw => ?_⟩
    · cases hx : x.wr with
      | true => exact .inl rfl
      | false =>
        rcases h 0 x rfl hx with ⟨_, z⟩ | ⟨j, p, z, _⟩
        · exact .inr z
        · cases z
    · rcases h (i + 1) r (by simpa using e) hw with ⟨z, _⟩ | ⟨j, p, z, hp, ev⟩
      · cases z
      · have : j = i := by omega
        subst this
        cases j with
        | zero =>
          cases hp
          exact .inl ⟨rfl, ev.symm⟩
        | succ j => exact .inr ⟨j, p, rfl, by simpa using hp, ev⟩
section
variable {h o : List HRow}
/-- where a value other than 0 comes from -/
theorem sees_src (s : seesL 0 o) : ∀ {i : Nat} {r : HRow}, o[i]? = some r → r.v ≠ 0 → ∃ k w, k ≤ i ∧ o[k]? = some w ∧ w.wr = true ∧ w.v = r.v := by
  intro i
  induction i with
  | zero =>
    intro r e hv
    cases hw : r.wr with
    | true => exact ⟨0, r, Nat.le_refl _, e, hw, rfl⟩
    | false =>
      rcases sees_step s e hw with ⟨_, z⟩ | ⟨j, p, z, _⟩
      · exact absurd z hv
      · cases z
  | succ i ih =>
    intro r e hv
    cases hw : r.wr with
    | true => exact ⟨i + 1, r, Nat.le_refl _, e, hw, rfl⟩
    | false =>
      rcases sees_step s e hw with ⟨z, _⟩ | ⟨j, p, z, hp, ev⟩
      · cases z
      · have : j = i := by omega
        subst this
        obtain ⟨k, w, hk, ek, w1, w2⟩ := ih hp (by rw [ev]; exact hv)
        exact ⟨k, w, by omega, ek, w1, w2.trans ev⟩
/-- going back from a place to one with another value there is a write of the value -/
theorem sees_back (s : seesL 0 o) : ∀ {d i : Nat} {x y : HRow}, o[i]? = some x → o[i + d]? = some y → x.v ≠ y.v → ∃ k w, i < k ∧ k ≤ i + d ∧ o[k]? = some w ∧ w.wr = true ∧ w.v = y.v := by
  intro d
  induction d with
  | zero =>
    intro i x y ex ey ne
    rw [Nat.add_zero, ex] at ey
    cases ey
    exact absurd rfl ne
  | succ d ih =>
    intro i x y ex ey ne
    cases hw : y.wr with
    | true => exact ⟨i + (d + 1), y, by omega, Nat.le_refl _, ey, hw, rfl⟩
    | false =>
      rcases sees_step s ey hw with ⟨z, _⟩ | ⟨j, p, z, hp, ev⟩
      · omega
      · have : j = i + d := by omega
        subst this
        obtain ⟨k, w, k1, k2, k3, k4, k5⟩ := ih ex hp (by rw [ev]; exact ne)
        exact ⟨k, w, k1, by omega, k3, k4, k5.trans ev⟩
theorem mem_perm (p : o.Perm h) {i : Nat} {r : HRow} (e : o[i]? = some r) : r ∈ h := p.mem_iff.mp (List.mem_of_getElem? e)
theorem at_inj (m : HMid h) (p : o.Perm h) {i j : Nat} {r : HRow} (e : o[i]? = some r) (e' : o[j]? = some r) : i = j := by
  have nd : (o.map (·.t)).Nodup := (p.map (·.t)).nodup_iff.mpr m.tn
  have nd' : o.Pairwise fun x y => x.t ≠ y.t := List.pairwise_map.mp nd
  rcases Nat.lt_trichotomy i j with z | z | z
  · exact absurd rfl (pw_get nd' e e' z)
  · exact z
  · exact absurd rfl (pw_get nd' e' e z)
/-- the tasks of one value stand side by side -/
theorem blocks (m : HMid h) (p : o.Perm h) (s : seesL 0 o) {i j k : Nat} {x y z : HRow} (hi : o[i]? = some x) (hj : o[j]? = some y) (hk : o[k]? = some z) (ij : i < j) (jk : j < k) (e : x.v = z.v) : y.v = x.v := by
  by_cases ne : y.v = x.v
  · exact ne
  · obtain ⟨d, rfl⟩ : ∃ d, k = j + d := ⟨k - j, by omega⟩
    obtain ⟨q, w, q1, q2, q3, q4, q5⟩ := sees_back s hj hk (by rw [← e]; exact ne)
    have wv := m.vb w (mem_perm p q3) q4
    have xv : x.v ≠ 0 := by
      rw [e, ← q5]
      omega
    obtain ⟨q', w', r1, r2, r3, r4⟩ := sees_src s hi xv
    have ew := m.one w w' (mem_perm p q3) (mem_perm p r2) q4 r3 (by rw [q5, r4, e])
    subst ew
    have := at_inj m p q3 r2
    omega
theorem zeros (m : HMid h) (p : o.Perm h) (s : seesL 0 o) {j k : Nat} {y z : HRow} (hj : o[j]? = some y) (hk : o[k]? = some z) (jk : j < k) (e : z.v = 0) : y.v = 0 := by
  by_cases ne : y.v = 0
  · exact ne
  · obtain ⟨d, rfl⟩ : ∃ d, k = j + d := ⟨k - j, by omega⟩
    obtain ⟨q, w, q1, q2, q3, q4, q5⟩ := sees_back s hj hk (by rw [e]; exact ne)
    have := m.vb w (mem_perm p q3) q4
    omega
theorem first_at (p : o.Perm h) {r : HRow} (hr : r ∈ h) : ∃ i : Nat, o[i]? = some r := List.mem_iff_getElem?.mp (p.mem_iff.mpr hr)
/-- who is over ahead of another one's begin stands ahead -/
theorem ahead (nb : NoBack o) {i j : Nat} {x y : HRow} (hi : o[i]? = some x) (hj : o[j]? = some y) (lt : x.e < y.b) (tmx : x.b < x.e) : i < j := by
  rcases Nat.lt_trichotomy i j with z | z | z
  · exact z
  · subst z
    rw [hi] at hj
    cases hj
    omega
  · exact absurd lt (pw_get nb hj hi z)
theorem ends_mem {v x : Int} (hx : x ∈ endsOf h v) : (v = 0 ∧ x = -1) ∨ ∃ r ∈ h, r.v = v ∧ r.e = x := by
  unfold endsOf at hx
  rcases List.mem_append.mp hx with z | z
  · by_cases hv : v = 0
    · rw [if_pos hv] at z
      exact .inl ⟨hv, by simpa using z⟩
    · rw [if_neg hv] at z
      cases z
  · obtain ⟨r, hr, e⟩ := List.mem_map.mp z
    have := List.mem_filter.mp hr
    exact .inr ⟨r, this.1, of_decide_eq_true this.2, e⟩
theorem begs_mem {v x : Int} (hx : x ∈ begsOf h v) : (v = 0 ∧ x = -1) ∨ ∃ r ∈ h, r.v = v ∧ r.b = x := by
  unfold begsOf at hx
  rcases List.mem_append.mp hx with z | z
  · by_cases hv : v = 0
    · rw [if_pos hv] at z
      exact .inl ⟨hv, by simpa using z⟩
    · rw [if_neg hv] at z
      cases z
  · obtain ⟨r, hr, e⟩ := List.mem_map.mp z
    have := List.mem_filter.mp hr
    exact .inr ⟨r, this.1, of_decide_eq_true this.2, e⟩
theorem zone_row {r : HRow} (hr : r ∈ h) {z : Int × Int} (hz : zoneO h r.v = some z) : z.1 ≤ r.e ∧ r.b ≤ z.2 := by
  obtain ⟨_, h2, _, h4⟩ := (zone_ok h r.v).som z.1 z.2 hz
  refine ⟨h2 _ ?_, h4 _ ?_⟩
  · unfold endsOf
    exact List.mem_append_right _ (List.mem_map.mpr ⟨r, List.mem_filter.mpr ⟨hr, decide_eq_true rfl⟩, rfl⟩)
  · unfold begsOf
    exact List.mem_append_right _ (List.mem_map.mpr ⟨r, List.mem_filter.mpr ⟨hr, decide_eq_true rfl⟩, rfl⟩)
/-- in an order no two values are in each other's way -/
theorem no_clash (m : HMid h) (p : o.Perm h) (nb : NoBack o) (s : seesL 0 o) {a b : Int} (ne : a ≠ b) {z w : Int × Int} (hz : zoneO h a = some z) (hw : zoneO h b = some w) : ¬ (z.1 < w.2 ∧ w.1 < z.2) := by
  rintro ⟨c1, c2⟩
  obtain ⟨z1, _, z3, _⟩ := (zone_ok h a).som z.1 z.2 hz
  obtain ⟨w1, _, w3, _⟩ := (zone_ok h b).som w.1 w.2 hw
  -- one of them 0: its reads stand first
  have zero : ∀ {a b : Int} {w z : Int × Int}, a = 0 → a ≠ b → w.1 ∈ endsOf h b → z.2 ∈ begsOf h a → w.1 < z.2 → False := by
    intro a b w z ha ne w1 z3 c
    rcases ends_mem w1 with ⟨hb, _⟩ | ⟨y, hy, yv, ye⟩
    · exact ne (ha.trans hb.symm)
    · have ty := m.tm y hy
      rcases begs_mem z3 with ⟨_, e⟩ | ⟨x, hx, xv, xb⟩
      · omega
      · obtain ⟨i, hi⟩ := first_at p hy
        obtain ⟨j, hj⟩ := first_at p hx
        have := ahead nb hi hj (by omega) ty.2
        have := zeros m p s hi hj this (by rw [xv, ha])
        exact ne (by omega)
  by_cases ha : a = 0
  · exact zero ha ne w1 z3 c2
  · by_cases hb : b = 0
    · exact zero hb (fun e => ne e.symm) z1 w3 c1
    · rcases ends_mem z1 with ⟨e, _⟩ | ⟨x, hx, xv, xe⟩
      · exact ha e
      · rcases begs_mem w3 with ⟨e, _⟩ | ⟨y, hy, yv, yb⟩
        · exact hb e
        · rcases ends_mem w1 with ⟨e, _⟩ | ⟨y', hy', yv', ye'⟩
          · exact hb e
          · rcases begs_mem z3 with ⟨e, _⟩ | ⟨x', hx', xv', xb'⟩
            · exact ha e
            · obtain ⟨i, hi⟩ := first_at p hx
              obtain ⟨j, hj⟩ := first_at p hy
              obtain ⟨j', hj'⟩ := first_at p hy'
              obtain ⟨i', hi'⟩ := first_at p hx'
              have l1 := ahead nb hi hj (by omega) (m.tm x hx).2
              have l2 := ahead nb hj' hi' (by omega) (m.tm y' hy').2
              rcases Nat.lt_trichotomy i j' with q | q | q
              · have := blocks m p s hi hj' hi' q l2 (by rw [xv, xv'])
                exact ne (by omega)
              · subst q
                rw [hi] at hj'
                cases hj'
                exact ne (by omega)
              · have := blocks m p s hj' hi hj q l1 (by rw [yv, yv'])
                exact ne (by omega)
/-- where there is an order nothing shows that there is none -/
theorem order_sound (m : HMid h) (so : SomeO h 0) (x : Reason) : ¬ ShowsP h x := by
  obtain ⟨o, p, nb, s⟩ := so
  rintro (⟨_, r, hr, w, hw, r1, w1, ev, _, _, lt⟩ | ⟨_, _, _, lt, o1, o2, c⟩ | ⟨_, _, _, o1, o2, c⟩)
  · obtain ⟨i, hi⟩ := first_at p hr
    obtain ⟨j, hj⟩ := first_at p hw
    have ij := ahead nb hi hj lt (m.tm r hr).2
    have := m.vb w hw w1
    obtain ⟨k, w', k1, k2, k3, k4⟩ := sees_src s hi (by omega)
    have ew := m.one w' w (mem_perm p k2) hw k3 w1 (by omega)
    subst ew
    have := at_inj m p k2 hj
    omega
  · unfold clsV at c
    split at c
    · rename_i z w hz hw
      unfold clsh at c
      simp only [Bool.and_eq_true, decide_eq_true_eq] at c
      exact no_clash m p nb s (by omega) hz hw c
    · cases c
  · unfold clsV at c
    split at c
    · rename_i z w hz hw
      unfold clsh at c
      simp only [Bool.and_eq_true, decide_eq_true_eq] at c
      refine no_clash m p nb s (fun e => ?_) hz hw c
      rw [e, o2] at o1
      cases o1
    · cases c
theorem lex_le {x y : Int} {xs ys : List Int} (h : HT.lexLt (y :: ys) (x :: xs) = false) : x < y ∨ (x = y ∧ HT.lexLt ys xs = false) := by
  unfold HT.lexLt at h
  by_cases e : y = x
  · rw [if_pos e] at h
    exact .inr ⟨e.symm, h⟩
  · rw [if_neg e] at h
    have := of_decide_eq_false h
    exact .inl (by omega)
theorem key_eq {r : HRow} {z : Int × Int} (hz : zoneO h r.v = some z) : keyR h r = [(plc z).1, (plc z).2, r.v, (if r.wr = true then 0 else 1), r.b, r.t] := by
  unfold keyR
  rw [hz]
theorem zone_of {r : HRow} (hr : r ∈ h) : ∃ z, zoneO h r.v = some z := zone_some.mpr (.inr ⟨r, hr, rfl⟩)
theorem plc_open {z : Int × Int} (o : z.1 < z.2) : plc z = (z.1, 1) := by
  unfold plc opn
  rw [if_neg (by omega), if_pos (decide_eq_true o)]
theorem plc_shut {z : Int × Int} (o : ¬ z.1 < z.2) : plc z = (z.2, 0) := by
  have e1 : (if opn z = true then (1 : Int) else 0) = 0 := if_neg (by unfold opn; rw [decide_eq_false o]; exact Bool.false_ne_true)
  have e2 : (if z.2 < z.1 then z.2 else z.1) = z.2 := by
    by_cases e : z.2 < z.1
    · rw [if_pos e]
    · rw [if_neg e]; omega
  unfold plc
  first
  | rw [e1, e2]
  | (simp only [opn, decide_eq_false o]; simp; omega)
theorem opnV_of {v : Int} {z : Int × Int} (hz : zoneO h v = some z) : opnV h v = decide (z.1 < z.2) := by
  unfold opnV
  rw [hz]
  rfl
theorem clsV_of {a b : Int} {z w : Int × Int} (hz : zoneO h a = some z) (hw : zoneO h b = some w) : clsV h a b = (decide (z.1 < w.2) && decide (w.1 < z.2)) := by
  unfold clsV
  rw [hz, hw]
  rfl
/-- rows in their places: none stands behind one that begins after its end -/
theorem placed_times (m : HMid h) (no : ∀ x, ¬ ShowsP h x) (pl : Placed h o) : NoBack o := by
  refine List.Pairwise.imp_of_mem (fun {r w} hr hw hk => ?_) pl.2
  have hr := pl.1.mem_iff.mp hr
  have hw := pl.1.mem_iff.mp hw
  obtain ⟨z, hz⟩ := zone_of hr
  obtain ⟨u, hu⟩ := zone_of hw
  rw [key_eq hz, key_eq hu] at hk
  have tr := m.tm r hr
  have tw := m.tm w hw
  by_cases ev : r.v = w.v
  · rw [ev, hu] at hz
    cases hz
    rcases lex_le hk with q | ⟨_, hk⟩
    · omega
    rcases lex_le hk with q | ⟨_, hk⟩
    · omega
    rcases lex_le hk with q | ⟨_, hk⟩
    · omega
    cases hrw : r.wr with
    | true =>
      cases hww : w.wr with
      | true =>
        have := m.one r w hr hw hrw hww ev
        subst this
        omega
      | false =>
        intro lt
        exact no (("early" : Str), w.t, r.t) (.inl ⟨rfl, w, hw, r, hr, hww, hrw, ev.symm, rfl, rfl, lt⟩)
    | false =>
      rw [hrw] at hk
      cases hww : w.wr with
      | true =>
        rw [hww] at hk
        rcases lex_le hk with q | ⟨q, _⟩
        · simp at q
        · simp at q
      | false =>
        rw [hww] at hk
        rcases lex_le hk with q | ⟨_, hk⟩
        · simp at q
        rcases lex_le hk with q | ⟨q, _⟩
        · omega
        · omega
  · intro lt
    have zr := zone_row hr hz
    have zw := zone_row hw hu
    have c2 : u.1 < z.2 := by omega
    have vr : isVal h r.v := .inr ⟨r, hr, rfl⟩
    have vw : isVal h w.v := .inr ⟨w, hw, rfl⟩
    by_cases oz : z.1 < z.2
    · by_cases ou : u.1 < u.2
      · rw [plc_open oz, plc_open ou] at hk
        have c1 : z.1 < u.2 := by
          rcases lex_le hk with q | ⟨q, _⟩
          · omega
          · omega
        rcases Int.lt_or_gt_of_ne ev with q | q
        · exact no (("both" : Str), r.v, w.v) (.inr (.inl ⟨rfl, vr, vw, q, by rw [opnV_of hz]; exact decide_eq_true oz, by rw [opnV_of hu]; exact decide_eq_true ou, by rw [clsV_of hz hu, decide_eq_true c1, decide_eq_true c2]; rfl⟩))
        · exact no (("both" : Str), w.v, r.v) (.inr (.inl ⟨rfl, vw, vr, q, by rw [opnV_of hu]; exact decide_eq_true ou, by rw [opnV_of hz]; exact decide_eq_true oz, by rw [clsV_of hu hz, decide_eq_true c1, decide_eq_true c2]; rfl⟩))
      · rw [plc_open oz, plc_shut ou] at hk
        have c1 : z.1 < u.2 := by
          rcases lex_le hk with q | ⟨q, hk⟩
          · exact q
          · rcases lex_le hk with q | ⟨q, _⟩
            · simp at q
            · simp at q
        exact no (("within" : Str), r.v, w.v) (.inr (.inr ⟨rfl, vr, vw, by rw [opnV_of hz]; exact decide_eq_true oz, by rw [opnV_of hu]; exact decide_eq_false ou, by rw [clsV_of hz hu, decide_eq_true c1, decide_eq_true c2]; rfl⟩))
    · rw [plc_shut oz] at hk
      by_cases ou : u.1 < u.2
      · rw [plc_open ou] at hk
        rcases lex_le hk with q | ⟨q, _⟩
        · simp at q
          omega
        · simp at q
          omega
      · rw [plc_shut ou] at hk
        rcases lex_le hk with q | ⟨q, _⟩
        · simp at q
          omega
        · simp at q
          omega
theorem zone_zero {z : Int × Int} (hz : zoneO h 0 = some z) (m : HMid h) {r : HRow} (hr : r ∈ h) (ev : r.v = 0) : plc z = (-1, 1) := by
  obtain ⟨z1, z2, z3, z4⟩ := (zone_ok h 0).som z.1 z.2 hz
  have e1 : z.1 = -1 := by
    have a := z2 (-1) (by unfold endsOf; simp)
    rcases ends_mem z1 with ⟨_, e⟩ | ⟨x, hx, _, e⟩
    · exact e
    · have := m.tm x hx
      omega
  have e2 : r.b ≤ z.2 := (zone_row hr (by rw [ev]; exact hz)).2
  have := m.tm r hr
  rw [plc_open (by omega), e1]
theorem zone_pos {r : HRow} {z : Int × Int} (m : HMid h) (hr : r ∈ h) (hv : r.v ≠ 0) (hz : zoneO h r.v = some z) : 0 ≤ (plc z).1 := by
  obtain ⟨z1, _, z3, _⟩ := (zone_ok h r.v).som z.1 z.2 hz
  have e1 : 0 ≤ z.1 := by
    rcases ends_mem z1 with ⟨e, _⟩ | ⟨x, hx, _, e⟩
    · exact absurd e hv
    · have := m.tm x hx
      omega
  have e2 : 0 ≤ z.2 := by
    rcases begs_mem z3 with ⟨e, _⟩ | ⟨x, hx, _, e⟩
    · exact absurd e hv
    · have := m.tm x hx
      omega
  unfold plc
  show 0 ≤ if z.2 < z.1 then z.2 else z.1
  split <;> omega
theorem placed_sees (m : HMid h) (pl : Placed h o) : seesL 0 o := by
  refine sees_of fun i r e hw => ?_
  have hr := mem_perm pl.1 e
  obtain ⟨z, hz⟩ := zone_of hr
  by_cases hv : r.v = 0
  · cases i with
    | zero => exact .inl ⟨rfl, hv⟩
    | succ j =>
      obtain ⟨q, hq⟩ : ∃ q, o[j]? = some q := ⟨o[j]'(by have := (List.getElem?_eq_some_iff.mp e).1; omega), List.getElem?_eq_getElem _⟩
      refine .inr ⟨j, q, rfl, hq, ?_⟩
      have hqm := mem_perm pl.1 hq
      by_cases hq0 : q.v = 0
      · rw [hq0, hv]
      · obtain ⟨u, hu⟩ := zone_of hqm
        have hk := pw_get pl.2 hq e (Nat.lt_succ_self j)
        rw [key_eq hz, key_eq hu] at hk
        have p1 := zone_pos m hqm hq0 hu
        rw [hv] at hz
        rw [zone_zero hz m hr hv] at hk
        rcases lex_le hk with y | ⟨y, _⟩
        · simp at y
          omega
        · simp at y
          omega
  · rcases m.rd r hr hw with z0 | ⟨w, hwm, w1, w2⟩
    · exact absurd z0 hv
    · obtain ⟨j, hj⟩ := first_at pl.1 hwm
      have hzw : zoneO h w.v = some z := by rw [w2]; exact hz
      have ji : j < i := by
        rcases Nat.lt_trichotomy j i with y | y | y
        · exact y
        · subst y
          rw [hj] at e
          cases e
          rw [hw] at w1
          cases w1
        · have hk := pw_get pl.2 e hj y
          rw [key_eq hz, key_eq hzw, w1, hw, w2] at hk
          rcases lex_le hk with y | ⟨_, hk⟩
          · omega
          rcases lex_le hk with y | ⟨_, hk⟩
          · omega
          rcases lex_le hk with y | ⟨_, hk⟩
          · omega
          rcases lex_le hk with y | ⟨y, _⟩
          · simp at y
          · simp at y
      obtain ⟨i', rfl⟩ : ∃ i', i = i' + 1 := ⟨i - 1, by omega⟩
      obtain ⟨q, hq⟩ : ∃ q, o[i']? = some q := ⟨o[i']'(by have := (List.getElem?_eq_some_iff.mp e).1; omega), List.getElem?_eq_getElem _⟩
      refine .inr ⟨i', q, rfl, hq, ?_⟩
      have hqm := mem_perm pl.1 hq
      obtain ⟨u, hu⟩ := zone_of hqm
      by_cases eji : j = i'
      · subst eji
        rw [hj] at hq
        cases hq
        exact w2
      · have k1 := pw_get pl.2 hj hq (by omega)
        have k2 := pw_get pl.2 hq e (Nat.lt_succ_self i')
        rw [key_eq hzw, key_eq hu, w2] at k1
        rw [key_eq hz, key_eq hu] at k2
        rcases lex_le k1 with a | ⟨a, k1⟩
        · rcases lex_le k2 with c | ⟨c, k2⟩ <;> omega
        rcases lex_le k2 with c | ⟨c, k2⟩
        · omega
        rcases lex_le k1 with a | ⟨a, k1⟩
        · rcases lex_le k2 with c | ⟨c, k2⟩ <;> omega
        rcases lex_le k2 with c | ⟨c, k2⟩
        · omega
        rcases lex_le k1 with a | ⟨a, k1⟩
        · rcases lex_le k2 with c | ⟨c, k2⟩ <;> omega
        exact a.symm
theorem order_found (m : HMid h) (no : ∀ x, ¬ ShowsP h x) (pl : Placed h o) : SomeO h 0 := ⟨o, pl.1, placed_times m no pl, placed_sees m pl⟩
/-- one step of the search -/
theorem someO_nil (last : Int) : SomeO [] last := ⟨[], .nil, List.Pairwise.nil, trivial⟩
theorem someO_step {left : List HRow} {last : Int} (nd : (left.map (·.t)).Nodup) (tm : ∀ r ∈ left, r.b < r.e) (ne : left ≠ []) :
    SomeO left last ↔ ∃ r ∈ left, (r.wr = true ∨ r.v = last) ∧ (∀ x ∈ left, ¬ x.e < r.b) ∧ SomeO (left.filter fun x => decide (x ≠ r)) r.v := by
  have nd' : left.Nodup := (List.pairwise_map.mp nd).imp fun hne e => hne (by rw [e])
  constructor
  · rintro ⟨o, p, nb, s⟩
    cases o with
    | nil => exact absurd p.symm.eq_nil ne
    | cons r o' =>
      have hr : r ∈ left := p.mem_iff.mp List.mem_cons_self
      obtain ⟨n1, n2⟩ := List.pairwise_cons.mp nb
      refine ⟨r, hr, s.1, fun x hx => ?_, o', ?_, n2, s.2⟩
      · rcases List.mem_cons.mp (p.mem_iff.mpr hx) with rfl | hx'
        · have := tm x hx
          omega
        · exact n1 x hx'
      · have ndo : (r :: o').Nodup := p.nodup_iff.mpr nd'
        obtain ⟨m1, m2⟩ := List.nodup_cons.mp ndo
        have f1 : (r :: o').filter (fun x => decide (x ≠ r)) = o' := by
          rw [List.filter_cons, if_neg (by simp)]
          exact List.filter_eq_self.mpr fun x hx => decide_eq_true fun e => m1 (e ▸ hx)
        rw [← f1]
        exact p.filter _
  · rintro ⟨r, hr, s1, nb1, o', p, n2, s2⟩
    refine ⟨r :: o', ?_, List.pairwise_cons.mpr ⟨fun y hy => nb1 y (List.mem_filter.mp (p.mem_iff.mp hy)).1, n2⟩, s1, s2⟩
    refine (p.cons r).trans ?_
    obtain ⟨i, hi⟩ := List.mem_iff_getElem?.mp hr
    have e1 := erase_perm hi
    have f1 : ([r] ++ left.eraseIdx i).filter (fun x => decide (x ≠ r)) = left.eraseIdx i := by
      have ndo : ([r] ++ left.eraseIdx i).Nodup := e1.nodup_iff.mpr nd'
      obtain ⟨m1, m2⟩ := List.nodup_cons.mp (show (r :: left.eraseIdx i).Nodup from ndo)
      rw [List.filter_append, List.filter_cons, if_neg (by simp), List.filter_nil, List.nil_append]
      exact List.filter_eq_self.mpr fun x hx => decide_eq_true fun e => m1 (e ▸ hx)
    have f2 := e1.filter (fun x => decide (x ≠ r))
    rw [f1] at f2
    exact (f2.symm.cons r).trans e1
end

/-! ### is_order -/
abbrev s_sees_last_writes : Stmt := topS 12
theorem sc_sees_last_writes : FnScope ["rows", "last", "task", "kind", "value", "begin", "end"] ["rows"] (defScope s_sees_last_writes) := ⟨rfl, rfl, rfl, by decide +kernel, rfl, by decide +kernel, by decide +kernel⟩
def spsees (K : PySem.W.Frag) : Sp := fun vs H Q _ => ∃ (v : V) (h : List HRow), vs = [v] ∧ Dp K H v (.list (h.map hD)) ∧ h.length ≤ 61 ∧ ∀ H' c, Same H H' → (c = true ↔ seesL 0 h) → Q (.bl c) H'
theorem ok_sees_last_writes {f : Addr} {fd : FuncData} (F : Fun K "sees_last_writes" "sees_last_writes" s_sees_last_writes f fd) (gm : mg "sees_last_writes" = some (.ref f)) (N : Fre K mg)  : C8.Cal P w K mg base 1 "sees_last_writes" (spsees K) [] := by
  refine mkCal F gm sc_sees_last_writes (F.binds (ps := ["rows"]) fun _ _ _ _ _ _ us hl => match us, hl with | [_], _ => rfl) (fun vs H Q E h => ?_) (fun cdv A outer s H vs Q E hr h => ?_)
  · obtain ⟨v, h, rfl, _⟩ := h
    rfl
  · obtain ⟨v, h, rfl, hv, hlen, q⟩ := h
    refine ⟨_, (pss_cons (ps_set (i := 1) sc_sees_last_writes.nd rfl (.inl rfl) pe_int)
 (pss_cons (ps_for PassesOwn.never rfl (pi_list (pv 0)) (pg_tup rfl (pgs_cons (pg_name (i := 2) sc_sees_last_writes.nd rfl (.inl rfl)) (pgs_cons (pg_name (i := 3) sc_sees_last_writes.nd rfl (.inl rfl)) (pgs_cons (pg_name (i := 4) sc_sees_last_writes.nd rfl (.inl rfl)) (pgs_cons (pg_name (i := 5) sc_sees_last_writes.nd rfl (.inl rfl)) (pgs_cons (pg_name (i := 6) sc_sees_last_writes.nd rfl (.inl rfl)) pgs_nil))))))
 (pss_one (ps_if (pt_cmpR op_eq (pv 3) pe_str (nomark _))
 (pss_one (ps_set (i := 1) sc_sees_last_writes.nd rfl (.inl rfl) (pv 4)))
 (pss_one (ps_if (pt_cmpR op_ne (pv 4) (pv 1) (nomark _))
 (pss_one (ps_ret pe_bl))
 pss_nil)))))
 (pss_one (ps_ret pe_bl)))), ?_⟩
    obtain ⟨a, xs, rfl, hs, ha⟩ := dp_list hv
    have el := dpAll_len ha
    rw [List.length_map] at el
    have take1 : ∀ {i : Nat} {r : HRow}, h[i]? = some r → h.drop i = r :: h.drop (i + 1) := fun {i r} er => by
      obtain ⟨hi, ei⟩ := List.getElem?_eq_some_iff.mp er
      rw [← ei]
      exact List.drop_eq_getElem_cons hi
    refine ⟨_, rfl, a, rfl, ⟨_, hs⟩, for_list (xs := xs) (fun i σ H2 => (∃ (last : Int) (y2 y3 y4 y5 y6 : Option V), σ = [some (.ref a), some (.int last), y2, y3, y4, y5, y6] ∧ (seesL 0 h ↔ seesL last (h.drop i))) ∧ Same H H2) ⟨⟨0, _, _, _, _, _, rfl, by rw [List.drop_zero]⟩, Same.refl H⟩ (fun i σ H2 _ z => z.2.seq hs) ?_ ?_⟩
    · rintro i x σ H2 hx ⟨⟨last, y2, y3, y4, y5, y6, rfl, iv⟩, s2⟩
      obtain ⟨d, ed, pd⟩ := dpAll_get ha hx
      rw [List.getElem?_map] at ed
      obtain ⟨r, er, rfl⟩ := Option.map_eq_some_iff.mp ed
      obtain ⟨b, rfl, hb⟩ := dp_h (dp_same s2 _ _ pd)
      rw [take1 er] at iv
      refine ⟨b, _, rfl, hb, rfl, _, _, rfl, _, _, rfl, _, _, rfl, _, _, rfl, _, _, rfl, rfl, ?_⟩
      refine ⟨_, rfl, rfl, _, rfl, ite2 (fun e => ?_) (fun e => ?_)⟩
      · rw [kind_write] at e
        exact ⟨_, rfl, ⟨r.v, _, _, _, _, _, rfl, iv.trans ⟨fun z => z.2, fun z => ⟨.inl e, z⟩⟩⟩, s2⟩
      · rw [kind_write] at e
        refine ⟨_, rfl, _, rfl, rfl, _, rfl, ?_⟩
        by_cases ev : r.v = last
        · rw [ev]
          rw [show (!decide (V.int last = V.int last)) = false by simp]
          exact iteF ⟨⟨last, _, _, _, _, _, rfl, iv.trans ⟨fun z => ev ▸ z.2, fun z => ⟨.inr ev, ev.symm ▸ z⟩⟩⟩, s2⟩
        · rw [decide_eq_false (fun z => ev (V.int.inj z))]
          refine iteT (q H2 false s2 ⟨(fun z => by cases z), fun z => ?_⟩)
          rcases (iv.mp z).1 with z | z
          · exact absurd z e
          · exact absurd z ev
    · rintro σ H2 ⟨⟨last, y2, y3, y4, y5, y6, rfl, iv⟩, s2⟩
      rw [el, List.drop_length] at iv
      exact q H2 true s2 ⟨fun _ => iv.mpr trivial, fun _ => rfl⟩
abbrev s_keeps_times : Stmt := topS 13
theorem sc_keeps_times : FnScope ["rows", "latest", "task", "kind", "value", "begin", "end"] ["rows"] (defScope s_keeps_times) := ⟨rfl, rfl, rfl, by decide +kernel, rfl, by decide +kernel, by decide +kernel⟩
def spkeeps (K : PySem.W.Frag) : Sp := fun vs H Q _ => ∃ (v : V) (h : List HRow), vs = [v] ∧ Dp K H v (.list (h.map hD)) ∧ h.length ≤ 61 ∧ (∀ r ∈ h, 0 ≤ r.b ∧ r.b < r.e) ∧ ∀ H' c, Same H H' → (c = true ↔ NoBack h) → Q (.bl c) H'
theorem ok_keeps_times {f : Addr} {fd : FuncData} (F : Fun K "keeps_times" "keeps_times" s_keeps_times f fd) (gm : mg "keeps_times" = some (.ref f)) (N : Fre K mg)  : C8.Cal P w K mg base 1 "keeps_times" (spkeeps K) [] := by
  refine mkCal F gm sc_keeps_times (F.binds (ps := ["rows"]) fun _ _ _ _ _ _ us hl => match us, hl with | [_], _ => rfl) (fun vs H Q E h => ?_) (fun cdv A outer s H vs Q E hr h => ?_)
  · obtain ⟨v, h, rfl, _⟩ := h
    rfl
  · obtain ⟨v, h, rfl, hv, hlen, tm, q⟩ := h
    refine ⟨_, (pss_cons (ps_set (i := 1) sc_keeps_times.nd rfl (.inl rfl) pe_int)
 (pss_cons (ps_for PassesOwn.never rfl (pi_list (pv 0)) (pg_tup rfl (pgs_cons (pg_name (i := 2) sc_keeps_times.nd rfl (.inl rfl)) (pgs_cons (pg_name (i := 3) sc_keeps_times.nd rfl (.inl rfl)) (pgs_cons (pg_name (i := 4) sc_keeps_times.nd rfl (.inl rfl)) (pgs_cons (pg_name (i := 5) sc_keeps_times.nd rfl (.inl rfl)) (pgs_cons (pg_name (i := 6) sc_keeps_times.nd rfl (.inl rfl)) pgs_nil))))))
 (pss_cons (ps_if (pt_cmpR op_lt (pv 6) (pv 1) (nomark _))
 (pss_one (ps_ret pe_bl))
 pss_nil)
 (pss_one (ps_set (i := 1) sc_keeps_times.nd rfl (.inl rfl) (pe_callB (call_max2 rfl) (by rfl) N.max (by decide +kernel) (pa_cons (pv 1) (pa_cons (pv 5) pa_nil)))))))
 (pss_one (ps_ret pe_bl)))), ?_⟩
    obtain ⟨a, xs, rfl, hs, ha⟩ := dp_list hv
    have el := dpAll_len ha
    rw [List.length_map] at el
    refine ⟨_, rfl, a, rfl, ⟨_, hs⟩, for_list (xs := xs) (fun i σ H2 => (∃ (lt : Int) (y2 y3 y4 y5 y6 : Option V), σ = [some (.ref a), some (.int lt), y2, y3, y4, y5, y6] ∧ NoBack (h.take i) ∧ (∀ r ∈ h.take i, r.b ≤ lt) ∧ (lt = 0 ∨ ∃ r ∈ h.take i, r.b = lt)) ∧ Same H H2) ⟨⟨0, _, _, _, _, _, rfl, List.Pairwise.nil, (fun r hr => by cases hr), .inl rfl⟩, Same.refl H⟩ (fun i σ H2 _ z => z.2.seq hs) ?_ ?_⟩
    · rintro i x σ H2 hx ⟨⟨lt, y2, y3, y4, y5, y6, rfl, nb, le, hl⟩, s2⟩
      obtain ⟨d, ed, pd⟩ := dpAll_get ha hx
      rw [List.getElem?_map] at ed
      obtain ⟨r, er, rfl⟩ := Option.map_eq_some_iff.mp ed
      obtain ⟨b, rfl, hb⟩ := dp_h (dp_same s2 _ _ pd)
      have tk : h.take (i + 1) = h.take i ++ [r] := by
        obtain ⟨hi, ei⟩ := List.getElem?_eq_some_iff.mp er
        rw [← ei]
        exact (List.take_append_getElem hi).symm
      have tr := tm r (List.mem_of_getElem? er)
      refine ⟨b, _, rfl, hb, rfl, _, _, rfl, _, _, rfl, _, _, rfl, _, _, rfl, _, _, rfl, rfl, ?_⟩
      refine ⟨_, rfl, _, rfl, _, _, rfl, rfl, _, rfl, ite2 (fun e => ?_) (fun e => ?_)⟩
      · have e := of_decide_eq_true e
        refine q H2 false s2 ⟨(fun z => by cases z), fun z => ?_⟩
        rcases hl with hl | ⟨w, hw, ew⟩
        · omega
        · have z1 : NoBack (h.take (i + 1)) := z.sublist (List.take_sublist _ _)
          rw [tk] at z1
          have := (List.pairwise_append.mp z1).2.2 w hw r (List.mem_singleton.mpr rfl)
          omega
      · have e : ¬ r.e < lt := fun z => e (decide_eq_true z)
        have nb' : NoBack (h.take (i + 1)) := by
          rw [tk]
          refine List.pairwise_append.mpr ⟨nb, List.pairwise_singleton _ _, fun w hw u hu => ?_⟩
          rw [List.mem_singleton.mp hu]
          have := le w hw
          omega
        refine ⟨_, rfl, _, rfl, _, _, rfl, ?_⟩
        refine ⟨⟨_, _, _, _, _, _, rfl, nb', fun w hw => ?_, ?_⟩, s2⟩
        · rw [tk] at hw
          rcases List.mem_append.mp hw with hw | hw
          · have := le w hw
            split <;> omega
          · rw [List.mem_singleton.mp hw]
            split <;> omega
        · rw [tk]
          split
          · exact .inr ⟨r, by simp, rfl⟩
          · rcases hl with hl | ⟨w, hw, ew⟩
            · exact .inl hl
            · exact .inr ⟨w, List.mem_append.mpr (.inl hw), ew⟩
    · rintro σ H2 ⟨⟨lt, y2, y3, y4, y5, y6, rfl, nb, le, hl⟩, s2⟩
      rw [el, List.take_length] at nb
      exact q H2 true s2 ⟨fun _ => nb, fun _ => rfl⟩

/-! ### the tasks of a history put in a row -/
def rowAt (h : List HRow) (t : Int) : Option HRow := h.find? fun r => decide (r.t = t)
def rowsOf (h : List HRow) (ts : List Int) : List HRow := ts.filterMap (rowAt h)
def OrdP (h : List HRow) (ts : List Int) : Prop := ∃ o, o.Perm h ∧ o.map HRow.t = ts ∧ NoBack o ∧ seesL 0 o
theorem rowAt_some {h : List HRow} {t : Int} {r : HRow} (e : rowAt h t = some r) : r ∈ h ∧ r.t = t := by
  unfold rowAt at e
  exact ⟨List.mem_of_find?_eq_some e, by simpa using List.find?_some e⟩
theorem rowAt_self {h : List HRow} (nd : (h.map HRow.t).Nodup) {r : HRow} (hr : r ∈ h) : rowAt h r.t = some r := by
  cases e : rowAt h r.t with
  | none =>
    unfold rowAt at e
    have := List.find?_eq_none.mp e r hr
    simp at this
  | some w =>
    obtain ⟨a, c⟩ := rowAt_some e
    obtain ⟨i, hi⟩ := List.mem_iff_getElem?.mp a
    obtain ⟨j, hj⟩ := List.mem_iff_getElem?.mp hr
    have e1 : (h.map HRow.t)[i]? = (h.map HRow.t)[j]? := by rw [List.getElem?_map, List.getElem?_map, hi, hj]; show some w.t = some r.t; rw [c]
    have hi' := (List.getElem?_eq_some_iff.mp hi).1
    have : i = j := (List.getElem?_inj (by rw [List.length_map]; exact hi') nd).mp e1
    rw [this, hj] at hi
    rw [hi]
theorem rowsOf_map {h : List HRow} (nd : (h.map HRow.t).Nodup) : ∀ {o : List HRow}, (∀ r ∈ o, r ∈ h) → rowsOf h (o.map HRow.t) = o
  | [], _ => rfl
  | r :: o, m => by
    show (r.t :: o.map HRow.t).filterMap (rowAt h) = _
    rw [List.filterMap_cons, rowAt_self nd (m r List.mem_cons_self)]
    show r :: rowsOf h (o.map HRow.t) = _
    rw [rowsOf_map nd fun x hx => m x (List.mem_cons_of_mem _ hx)]
theorem map_rowsOf {h : List HRow} : ∀ {ts : List Int}, (∀ t ∈ ts, t ∈ h.map HRow.t) → (rowsOf h ts).map HRow.t = ts
  | [], _ => rfl
  | t :: ts, m => by
    obtain ⟨r, hr, er⟩ := List.mem_map.mp (m t List.mem_cons_self)
    cases e : rowAt h t with
    | none =>
      unfold rowAt at e
      have := List.find?_eq_none.mp e r hr
      simp [er] at this
    | some w =>
      show ((t :: ts).filterMap (rowAt h)).map HRow.t = _
      rw [List.filterMap_cons, e]
      show w.t :: (rowsOf h ts).map HRow.t = _
      rw [map_rowsOf fun x hx => m x (List.mem_cons_of_mem _ hx), (rowAt_some e).2]
theorem nodup_of_map {α β : Type} {f : α → β} {l : List α} (nd : (l.map f).Nodup) : l.Nodup := (List.pairwise_map.mp nd).imp fun hne e => hne (by rw [e])
theorem rowsOf_perm {h : List HRow} (nd : (h.map HRow.t).Nodup) {ts : List Int} (p : ts.Perm (h.map HRow.t)) : (rowsOf h ts).Perm h := by
  have em := map_rowsOf (h := h) (ts := ts) fun t ht => p.mem_iff.mp ht
  have nt : ((rowsOf h ts).map HRow.t).Nodup := by rw [em]; exact p.nodup_iff.mpr nd
  refine (List.perm_ext_iff_of_nodup (nodup_of_map nt) (nodup_of_map nd)).mpr fun r => ⟨fun hr => ?_, fun hr => ?_⟩
  · obtain ⟨t, _, e⟩ := List.mem_filterMap.mp hr
    exact (rowAt_some e).1
  · exact List.mem_filterMap.mpr ⟨r.t, p.mem_iff.mpr (List.mem_map.mpr ⟨r, hr, rfl⟩), rowAt_self nd hr⟩
theorem ordP_iff {h : List HRow} (nd : (h.map HRow.t).Nodup) {ts : List Int} : OrdP h ts ↔ ts.Perm (h.map HRow.t) ∧ NoBack (rowsOf h ts) ∧ seesL 0 (rowsOf h ts) := by
  constructor
  · rintro ⟨o, p, e, nb, s⟩
    have er : rowsOf h ts = o := by rw [← e]; exact rowsOf_map nd fun r hr => p.mem_iff.mp hr
    rw [er]
    exact ⟨by rw [← e]; exact p.map _, nb, s⟩
  · rintro ⟨p, nb, s⟩
    exact ⟨rowsOf h ts, rowsOf_perm nd p, map_rowsOf fun t ht => p.mem_iff.mp ht, nb, s⟩
theorem ints_sh (ns : List Int) : SeqAt.shaped (.list (ns.map PyData.int)) = true := by
  have h1 : (PyData.list (ns.map PyData.int)).canLay0 = true := by
    rw [PyData.canLay0]
    induction ns with
    | nil => simp [PyData.canLayAll0]
    | cons r rs ih =>
      rw [List.map_cons, PyData.canLayAll0, ih]
      simp [PyData.canLay0]
  have h2 : (PyData.list (ns.map PyData.int)).depth ≤ 64 := by
    have : PyData.depthAll (ns.map PyData.int) ≤ 1 := by
      clear h1
      induction ns with
      | nil => simp [PyData.depthAll]
      | cons r rs ih =>
        rw [List.map_cons, PyData.depthAll]
        exact Nat.max_le.mpr ⟨by simp [PyData.depth], ih⟩
    rw [PyData.depth]
    omega
  unfold SeqAt.shaped
  rw [h1, decide_eq_true h2]
  rfl
theorem ints_eqvAll : ∀ (ms ns : List Int), PyData.eqvAll (ms.map PyData.int) (ns.map PyData.int) = decide (ms = ns)
  | [], [] => by simp [PyData.eqvAll]
  | [], _ :: _ => by simp [PyData.eqvAll]
  | _ :: _, [] => by simp [PyData.eqvAll]
  | m :: ms, n :: ns => by
    rw [List.map_cons, List.map_cons, PyData.eqvAll, ints_eqvAll ms ns]
    have : PyData.eqv (.int m) (.int n) = decide (m = n) := by
      simp only [PyData.eqv]
      first | rfl | (by_cases h : m = n <;> simp [h])
    rw [this]
    by_cases h1 : m = n
    · by_cases h2 : ms = ns <;> simp [h1, h2]
    · simp [h1]
theorem ints_eqv (ms ns : List Int) : PyData.eqv (.list (ms.map PyData.int)) (.list (ns.map PyData.int)) = decide (ms = ns) := by
  rw [← ints_eqvAll]
  simp only [PyData.eqv]
theorem srt_eq {ys zs ts us : List Int} (py : ys.Perm ts) (sy : ys.Pairwise (· ≤ ·)) (pz : zs.Perm us) (sz : zs.Pairwise (· ≤ ·)) : ys = zs ↔ ts.Perm us := by
  constructor
  · intro e
    exact py.symm.trans (e ▸ pz)
  · intro p
    exact List.Perm.eq_of_pairwise (fun _ _ _ _ a b => Int.le_antisymm a b) sy sz (py.trans (p.trans pz.symm))
abbrev s_is_order : Stmt := topS 14
theorem sc_is_order : FnScope ["history", "tasks", "by_task", "rows", "row", "task"] ["history", "tasks"] (defScope s_is_order) := ⟨rfl, rfl, rfl, by decide +kernel, rfl, by decide +kernel, by decide +kernel⟩
def spis_order (K : PySem.W.Frag) : Sp := fun vs H Q _ => ∃ (v : V) (T : Addr) (h : List HRow) (ts : List Int), vs = [v, .ref T] ∧ Dp K H v (.list (h.map hD)) ∧ SqL K H T (ts.map V.int) ∧ h.length ≤ 61 ∧ ts.length ≤ 1000 ∧ (h.map HRow.t).Nodup ∧ (∀ r ∈ h, 0 ≤ r.b ∧ r.b < r.e) ∧ ∀ H' c, Same H H' → (c = true ↔ OrdP h ts) → Q (.bl c) H'
theorem ok_is_order {f : Addr} {fd : FuncData} (F : Fun K "is_order" "is_order" s_is_order f fd) (gm : mg "is_order" = some (.ref f)) (N : Fre K mg) (c_keeps_times : C8.Cal P w K mg base 1 "keeps_times" (spkeeps K) []) (c_sees_last_writes : C8.Cal P w K mg base 1 "sees_last_writes" (spsees K) []) : C8.Cal P w K mg base 2 "is_order" (spis_order K) [] := by
  refine mkCal F gm sc_is_order (F.binds (ps := ["history", "tasks"]) fun _ _ _ _ _ _ us hl => match us, hl with | [_, _], _ => rfl) (fun vs H Q E h => ?_) (fun cdv A outer s H vs Q E hr h => ?_)
  · obtain ⟨v, T, h, ts, rfl, _⟩ := h
    rfl
  · obtain ⟨v, T, h, ts, rfl, hv, hT, hlen, htl, nd, tm, q⟩ := h
    refine ⟨_, (pss_cons (ps_set (i := 2) sc_is_order.nd rfl (.inr rfl) (pe_dc (own := [("row", 4)]) (g := gName 4) (tt := tYes) rfl sc_is_order.nd (pi_list (pv 0)) (blkOk_by (N := ["history", "tasks", "by_task", "rows", "row", "task"]) (sc := defScope s_is_order) (by decide +kernel)) (fun _ _ _ _ _ => pg_name (i := 4) sc_is_order.nd rfl (Or.inl rfl)) (fun _ _ _ _ _ => pts_nil) (fun _ _ _ _ _ => (pe_ix (show IxR _ (rIxT K) from ix_tup) (pv 4) pe_int (fun _ _ => rfl))) (fun _ _ _ _ _ => (pv 4))))
 (pss_cons (ps_if (pt_cmpR (op_neD hr.units) (pe_callB (show CallR _ _ (rSortedI K) from cr_sortedI) (by rfl) N.sorted (by decide +kernel) (pa_cons (pv 1) pa_nil)) (pe_callB (call_sortedDI rfl) (by rfl) N.sorted (by decide +kernel) (pa_cons (pv 2) pa_nil)) (nomark _))
 (pss_one (ps_ret pe_bl))
 pss_nil)
 (pss_cons (ps_setLc (i := 3) (own := [("task", 5)]) (g := gName 5) (tt := tYes) rfl sc_is_order.nd rfl rfl (sw_true rfl rfl rfl (by decide +kernel)) (pi_list (pv 1)) (blkOk_by (N := ["history", "tasks", "by_task", "rows", "row", "task"]) (sc := defScope s_is_order) (by decide +kernel)) (fun _ _ _ _ _ => pg_name (i := 5) sc_is_order.nd rfl (Or.inl rfl)) (fun _ _ _ _ _ => pts_nil) (fun _ _ _ _ _ => (pe_dget (hu_of hr) (pv 2) (pv 5) (fun _ _ => rfl))))
 (pss_one (ps_ret (pe_and (C8.pe_c c_keeps_times hr (by decide) rfl (pa_cons (pv 3) pa_nil)) (pe_one (C8.pe_c c_sees_last_writes hr (by decide) rfl (pa_cons (pv 3) pa_nil))))))))), ?_⟩
    obtain ⟨a, xs, rfl, hs, ha⟩ := dp_list hv
    have el := dpAll_len ha
    rw [List.length_map] at el
    refine ⟨_, rfl, a, rfl, ⟨_, hs⟩, fun D nD => dc_it (walk_list (xs := xs)) (fun i H1 => Same H H1 ∧ ∃ kvs, H1 D = some (.dK kvs) ∧ kvs.map (·.1) = ((h.take i).map HRow.t).map Sum.inl ∧ ∀ r ∈ h.take i, ∃ x, valV kvs (.inl r.t) = some x ∧ Dp K H1 x (hD r)) ⟨same_upd nD, [], upd_same, rfl, (fun r hr => by cases hr)⟩ (fun i H1 _ z => z.1.seq hs) ?_ ?_⟩
    · rintro i v H1 H2 hi ⟨s1, kvs, hD1, hk, hv1⟩ ⟨rfl, hx⟩
      obtain ⟨d, ed, pd⟩ := dpAll_get ha hx
      rw [List.getElem?_map] at ed
      obtain ⟨r, er, rfl⟩ := Option.map_eq_some_iff.mp ed
      obtain ⟨b, rfl, hb⟩ := dp_h (dp_same s1 _ _ pd)
      have hr' : r ∈ h := List.mem_of_getElem? er
      have tk : h.take (i + 1) = h.take i ++ [r] := by
        obtain ⟨hi, ei⟩ := List.getElem?_eq_some_iff.mp er
        rw [← ei]
        exact (List.take_append_getElem hi).symm
      have ndt : ((h.take (i + 1)).map HRow.t).Nodup := ((List.take_sublist _ _).map _).nodup nd
      rw [tk, List.map_append] at ndt
      have new : r.t ∉ (h.take i).map HRow.t := fun z => (List.nodup_append.mp ndt).2.2 _ z r.t (List.mem_singleton.mpr rfl) rfl
      have vn : valV kvs (.inl r.t) = none := by
        have := key_val hk r.t
        rw [decide_eq_false new] at this
        exact Option.isSome_eq_false_iff.mp this |> Option.isNone_iff_eq_none.mp
      have kl : kvs.length ≤ 61 := by
        have : (kvs.map (·.1)).length = _ := congrArg List.length hk
        rw [List.length_map, List.length_map, List.length_map, List.length_take] at this
        omega
      refine ⟨rfl, ?_⟩
      refine ⟨_, rfl, b, _, 0, _, rfl, rfl, hb, atI_nat (j := 0) rfl, _, rfl, kvs, .inl r.t, rfl, hD1, by rw [sizeLine_eq]; omega, ?_, _, upd_same, ?_, fun w hw => ?_⟩
      · intro c o ec
        rw [upd_ne (ne_of_none ec nD)]
        exact s1 _ _ ec
      · rw [putK_new _ vn, List.map_append, hk, tk, List.map_append, List.map_append]
        rfl
      · rw [valV_put]
        rw [tk] at hw
        rcases List.mem_append.mp hw with hw | hw
        · rw [if_neg (fun z => new (by rw [← Sum.inl.inj z]; exact List.mem_map.mpr ⟨w, hw, rfl⟩))]
          obtain ⟨x, e1, e2⟩ := hv1 w hw
          exact ⟨x, e1, dp_kt (Kt.upd hD1 (fun z => z)) _ _ (hD_imm _) e2⟩
        · rw [List.mem_singleton.mp hw, if_pos rfl]
          exact ⟨_, rfl, dp_kt (Kt.upd hD1 (fun z => z)) _ _ (hD_imm _) (dp_same s1 _ _ pd)⟩
    · rintro H1 ⟨s1, kvs, hD1, hk, hv1⟩
      rw [el, List.take_length] at hk hv1
      refine ⟨_, rfl, T, ts, rfl, s1.seq hT, fun ys p1 py sy n1 => ?_⟩
      have u1 := same_upd (o := .lst (ys.map V.int)) n1
      refine ⟨_, rfl, D, kvs, h.map HRow.t, rfl, .inl (u1 _ _ hD1), hk, by rw [List.length_map]; omega, fun zs p2 pz sz n2 => ?_⟩
      have u2 := same_upd (o := .lst (zs.map V.int)) n2
      refine ⟨_, _, .lst (SqL.of (u2 _ _ upd_same)) (ints_dp ys), .lst (SqL.of upd_same) (ints_dp zs), ints_sh _, ints_sh _, _, rfl, ?_⟩
      rw [ints_eqv]
      have s2 := s1.trans (u1.trans u2)
      have hD2 := (u1.trans u2) _ _ hD1
      have hv2 : ∀ r ∈ h, ∃ x, valV kvs (.inl r.t) = some x ∧ Dp K (upd (upd H1 p1 (.lst (ys.map V.int))) p2 (.lst (zs.map V.int))) x (hD r) := fun r hr' => by
        obtain ⟨x, e1, e2⟩ := hv1 r hr'
        exact ⟨x, e1, dp_same (u1.trans u2) _ _ e2⟩
      revert s2 hD2 hv2
      generalize upd (upd H1 p1 (.lst (ys.map V.int))) p2 (.lst (zs.map V.int)) = H2
      intro s2 hD2 hv2
      by_cases hp : ts.Perm (h.map HRow.t)
      · rw [decide_eq_true ((srt_eq py sy pz sz).mpr hp)]
        refine iteF ⟨_, rfl, T, rfl, ⟨_, s2.seq hT⟩, fun L nL => lc_ty PyData.int hD (rowAt h) (s2.seq hT) (ints_dp ts) nL (by omega) hD_imm ?_ ?_⟩
        · intro i v t H3 k kf et s3 pv hy hn
          cases pv
          obtain ⟨r, hr', e⟩ := List.mem_map.mp (hp.mem_iff.mp (List.mem_of_getElem? et))
          obtain ⟨x, e1, e2⟩ := hv2 r hr'
          rw [e] at e1
          exact ⟨rfl, ⟨_, rfl, _, rfl, D, _, rfl, dget_of (k := .inl t) (s3 _ _ hD2) e1, hy r (by rw [← e]; exact rowAt_self nd hr') _ _ (Same.refl _) (dp_same s3 _ _ e2)⟩⟩
        intro H3 y3 s3 hL3 hy3
        have s4 := s2.trans s3
        have om : ∀ r ∈ rowsOf h ts, r ∈ h := fun r hr' => (rowsOf_perm nd hp).mem_iff.mp hr'
        have ol : (rowsOf h ts).length ≤ 61 := by rw [(rowsOf_perm nd hp).length_eq]; exact hlen
        have dpo : ∀ {H'}, Same H3 H' → Dp K H' (.ref L) (.list ((rowsOf h ts).map hD)) := fun s => .lst (SqL.of (s _ _ hL3)) (dp_sameAll s _ _ hy3)
        refine ⟨_, rfl, _, _, rfl, dpo (Same.refl _), ol, fun r hr' => tm r (om r hr'), fun H4 c s5 hc => ⟨_, rfl, ?_⟩⟩
        cases c with
        | true =>
          refine iteT ⟨_, rfl, _, _, rfl, dpo s5, ol, fun H5 c2 s6 hc2 => q H5 c2 (s4.trans (s5.trans s6)) ?_⟩
          rw [hc2, ordP_iff nd]
          exact ⟨fun z => ⟨hp, hc.mp rfl, z⟩, fun z => z.2.2⟩
        | false =>
          refine iteF (q H4 false (s4.trans s5) ⟨(fun z => by cases z), fun z => ?_⟩)
          exact hc.mpr ((ordP_iff nd).mp z).2.1
      · rw [decide_eq_false (fun z => hp ((srt_eq py sy pz sz).mp z))]
        exact iteT (q H2 false s2 ⟨(fun z => by cases z), fun z => absurd ((ordP_iff nd).mp z).1 hp⟩)

/-! ### the law's own walk -/
def Walked (o : List HRow) (i : Nat) : Prop := ∀ (j : Nat) (x : HRow), j < i → o[j]? = some x → ∀ y ∈ o.drop (j + 1), ¬ y.e < x.b
theorem walked_all : ∀ {o : List HRow}, Walked o o.length → NoBack o
  | [], _ => List.Pairwise.nil
  | x :: o, w => by
    refine List.pairwise_cons.mpr ⟨fun y hy => w 0 x (Nat.succ_pos _) rfl y hy, walked_all fun j z hj e y hy => ?_⟩
    exact w (j + 1) z (Nat.succ_lt_succ hj) (by simpa using e) y (by simpa using hy)
theorem noBack_at : ∀ {o : List HRow}, NoBack o → ∀ (j : Nat) (x : HRow), o[j]? = some x → ∀ y ∈ o.drop (j + 1), ¬ y.e < x.b
  | [], _, j, x, e, _, _ => by simp at e
  | z :: o, nb, 0, x, e, y, hy => by
    have : z = x := by simpa using e
    subst this
    exact (List.pairwise_cons.mp nb).1 y (by simpa using hy)
  | z :: o, nb, j + 1, x, e, y, hy => noBack_at (List.pairwise_cons.mp nb).2 j x (by simpa using e) y (by simpa using hy)
abbrev s__law_order_right : Stmt := topS 30
theorem sc__law_order_right : FnScope ["history", "tasks", "rows", "row", "last", "at", "task"] ["history", "tasks"] (defScope s__law_order_right) := ⟨rfl, rfl, rfl, by decide +kernel, rfl, by decide +kernel, by decide +kernel⟩
def sp_law_order_right (K : PySem.W.Frag) : Sp := fun vs H Q _ => ∃ (v : V) (T : Addr) (h : List HRow) (ts : List Int), vs = [v, .ref T] ∧ Dp K H v (.list (h.map hD)) ∧ SqL K H T (ts.map V.int) ∧ h.length ≤ 61 ∧ ts.length ≤ 1000 ∧ (h.map HRow.t).Nodup ∧ (∀ r ∈ h, 0 ≤ r.b ∧ r.b < r.e) ∧ ∀ H' c, Same H H' → (c = true ↔ OrdP h ts) → Q (.bl c) H'
theorem ok__law_order_right {f : Addr} {fd : FuncData} (F : Fun K "_law_order_right" "_law_order_right" s__law_order_right f fd) (gm : mg "_law_order_right" = some (.ref f)) (N : Fre K mg)  : C8.Cal P w K mg base 1 "_law_order_right" (sp_law_order_right K) [] := by
  refine mkCal F gm sc__law_order_right (F.binds (ps := ["history", "tasks"]) fun _ _ _ _ _ _ us hl => match us, hl with | [_, _], _ => rfl) (fun vs H Q E h => ?_) (fun cdv A outer s H vs Q E hr h => ?_)
  · obtain ⟨v, T, h, ts, rfl, _⟩ := h
    rfl
  · obtain ⟨v, T, h, ts, rfl, hv, hT, hlen, htl, nd, tm, q⟩ := h
    refine ⟨_, (pss_cons (ps_set (i := 2) sc__law_order_right.nd rfl (.inr rfl) pe_dnewK)
 (pss_cons (ps_for PassesOwn.never rfl (pi_list (pv 0)) (pg_name (i := 3) sc__law_order_right.nd rfl (.inr rfl))
 (pss_one (ps_dput (hu_of hr) (pv 2) (pe_ix ix_tup (pv 3) pe_int (fun _ _ => rfl)) (pv 3) rfl)))
 (pss_cons (ps_if (PW.pt (pw_or (pt_not (pt_val (pe_callB call_isi (by rfl) N.isinstance (by decide +kernel) (pa_cons (pv 1) (pa_cons (pe_bltn (v := .ty "list") (u := .type "list") rfl N.list (by decide +kernel) rfl) pa_nil))))) (pw_or1 (pt_cmpR (op_neD hr.units) (pe_callB (call_sortedDI rfl) (by rfl) N.sorted (by decide +kernel) (pa_cons (pv 2) pa_nil)) (pe_callB (show CallR _ _ (rSortedI K) from cr_sortedI) (by rfl) N.sorted (by decide +kernel) (pa_cons (pv 1) pa_nil)) (nomark _)))))
 (pss_one (ps_ret pe_bl))
 pss_nil)
 (pss_cons (ps_set (i := 4) sc__law_order_right.nd rfl (.inl rfl) pe_int)
 (pss_cons (ps_for PassesOwn.never rfl (pi_range1 (by rfl) N.range (pa_cons (pe_callB call_len_seq (by rfl) N.len (by decide +kernel) (pa_cons (pv 1) pa_nil)) pa_nil)) (pg_name (i := 5) sc__law_order_right.nd rfl (.inl rfl))
 (pss_cons (ps_set (i := 3) sc__law_order_right.nd rfl (.inr rfl) (pe_dget (hu_of hr) (pv 2) (pe_ix ix_list (pv 1) (pv 5) (fun _ _ => rfl)) (fun _ _ => rfl)))
 (pss_cons (ps_if (pt_cmpR (op_neNil (hu0 hr)) (pe_lc (own := [("task", 6)]) (g := gName 6) rfl sc__law_order_right.nd (pi_list (pe_slice sl_list (pv 1) (po_some (pe_op op_add (pv 5) pe_int)) po_none)) (blkOk_by (N := ["history", "tasks", "rows", "row", "last", "at", "task"]) (sc := defScope s__law_order_right) (by decide +kernel)) (fun _ _ _ _ _ => pg_name (i := 6) sc__law_order_right.nd rfl (Or.inl rfl)) (fun _ _ _ _ _ => pts_one (pt_cmpR op_lt (pe_ix (show IxR _ (rIxT K) from ix_tup) (pe_dget (hu_of hr) (pv 2) (pv 6) (fun _ _ => rfl)) pe_int (fun _ _ => rfl)) (pe_ix (show IxR _ (rIxT K) from ix_tup) (pv 3) pe_int (fun _ _ => rfl)) (nomark _))) (fun _ _ _ _ _ => (pv 6))) (pe_lst pa_nil) (nomark _))
 (pss_one (ps_ret pe_bl))
 pss_nil)
 (pss_cons (ps_if (PW.pt (pw_and (pt_cmpR op_eq (pe_ix ix_tup (pv 3) pe_int (fun _ _ => rfl)) pe_str (nomark _)) (pw_and1 (pt_cmpR op_ne (pe_ix ix_tup (pv 3) pe_int (fun _ _ => rfl)) (pv 4) (nomark _)))))
 (pss_one (ps_ret pe_bl))
 pss_nil)
 (pss_one (ps_set (i := 4) sc__law_order_right.nd rfl (.inl rfl) (pe_ix ix_tup (pv 3) pe_int (fun _ _ => rfl))))))))
 (pss_one (ps_ret pe_bl))))))), ?_⟩
    obtain ⟨a, xs, rfl, hs, ha⟩ := dp_list hv
    have el := dpAll_len ha
    rw [List.length_map] at el
    refine fun D nD => ?_
    refine ⟨_, rfl, a, rfl, ⟨_, (same_upd nD).seq hs⟩, for_list (xs := xs) (fun i σ H1 => (∃ y3 y4 y5 y6, σ = [some (.ref a), some (.ref T), some (.ref D), y3, y4, y5, y6]) ∧ Same H H1 ∧ ∃ kvs, H1 D = some (.dK kvs) ∧ kvs.map (·.1) = ((h.take i).map HRow.t).map Sum.inl ∧ ∀ r ∈ h.take i, ∃ x, valV kvs (.inl r.t) = some x ∧ Dp K H1 x (hD r)) ⟨⟨_, _, _, _, rfl⟩, same_upd nD, [], upd_same, rfl, (fun r hr => by cases hr)⟩ (fun i σ H1 _ z => z.2.1.seq hs) ?_ ?_⟩
    · rintro i x σ H1 hx ⟨⟨y3, y4, y5, y6, rfl⟩, s1, kvs, hD1, hk, hv1⟩
      obtain ⟨d, ed, pd⟩ := dpAll_get ha hx
      rw [List.getElem?_map] at ed
      obtain ⟨r, er, rfl⟩ := Option.map_eq_some_iff.mp ed
      obtain ⟨b, rfl, hb⟩ := dp_h (dp_same s1 _ _ pd)
      have tk : h.take (i + 1) = h.take i ++ [r] := by
        obtain ⟨hi, ei⟩ := List.getElem?_eq_some_iff.mp er
        rw [← ei]
        exact (List.take_append_getElem hi).symm
      have ndt : ((h.take (i + 1)).map HRow.t).Nodup := ((List.take_sublist _ _).map _).nodup nd
      rw [tk, List.map_append] at ndt
      have new : r.t ∉ (h.take i).map HRow.t := fun z => (List.nodup_append.mp ndt).2.2 _ z r.t (List.mem_singleton.mpr rfl) rfl
      have vn : valV kvs (.inl r.t) = none := by
        have := key_val hk r.t
        rw [decide_eq_false new] at this
        exact Option.isSome_eq_false_iff.mp this |> Option.isNone_iff_eq_none.mp
      have kl : kvs.length ≤ 61 := by
        have : (kvs.map (·.1)).length = _ := congrArg List.length hk
        rw [List.length_map, List.length_map, List.length_map, List.length_take] at this
        omega
      refine ⟨_, rfl, _, rfl, _, rfl, b, _, 0, _, rfl, rfl, hb, atI_nat (j := 0) rfl, D, _, rfl, DPut.k (k := .inl r.t) hD1 (by rw [sizeLine_eq]; omega), ⟨_, _, _, _, rfl⟩, ?_, _, upd_same, ?_, fun w hw => ?_⟩
      · intro c o ec
        rw [upd_ne (ne_of_none ec nD)]
        exact s1 _ _ ec
      · rw [putK_new _ vn, List.map_append, hk, tk, List.map_append, List.map_append]
        rfl
      · rw [valV_put]
        rw [tk] at hw
        rcases List.mem_append.mp hw with hw | hw
        · rw [if_neg (fun z => new (by rw [← Sum.inl.inj z]; exact List.mem_map.mpr ⟨w, hw, rfl⟩))]
          obtain ⟨x, e1, e2⟩ := hv1 w hw
          exact ⟨x, e1, dp_kt (Kt.upd hD1 (fun z => z)) _ _ (hD_imm _) e2⟩
        · rw [List.mem_singleton.mp hw, if_pos rfl]
          exact ⟨_, rfl, dp_kt (Kt.upd hD1 (fun z => z)) _ _ (hD_imm _) (dp_same s1 _ _ pd)⟩
    · rintro σ H1 ⟨⟨y3, y4, y5, y6, rfl⟩, s1, kvs, hD1, hk, hv1⟩
      rw [el, List.take_length] at hk hv1
      refine ⟨_, rfl, _, _, _, _, true, rfl, .ty _, dp_ty (show Dp K H1 (.ref T) (.list (ts.map PyData.int)) from .lst (s1.seq hT) (ints_dp ts)), kit_ty (show kitB "list" "list" = some true by decide +kernel), _, rfl, ?_⟩
      refine iteF ⟨_, rfl, D, kvs, h.map HRow.t, rfl, .inl hD1, hk, by rw [List.length_map]; omega, fun zs p2 pz sz n2 => ?_⟩
      have u2 := same_upd (o := .lst (zs.map V.int)) n2
      refine ⟨_, rfl, T, ts, rfl, (s1.trans u2).seq hT, fun ys p1 py sy n1 => ?_⟩
      have u1 := same_upd (o := .lst (ys.map V.int)) n1
      refine ⟨_, _, .lst (SqL.of (u1 _ _ upd_same)) (ints_dp zs), .lst (SqL.of upd_same) (ints_dp ys), ints_sh _, ints_sh _, _, rfl, ?_⟩
      rw [ints_eqv]
      have s2 := s1.trans (u2.trans u1)
      have hD2 := (u2.trans u1) _ _ hD1
      have hv2 : ∀ r ∈ h, ∃ x, valV kvs (.inl r.t) = some x ∧ Dp K (upd (upd H1 p2 (.lst (zs.map V.int))) p1 (.lst (ys.map V.int))) x (hD r) := fun r hr' => by
        obtain ⟨x, e1, e2⟩ := hv1 r hr'
        exact ⟨x, e1, dp_same (u2.trans u1) _ _ e2⟩
      revert s2 hD2 hv2
      generalize upd (upd H1 p2 (.lst (zs.map V.int))) p1 (.lst (ys.map V.int)) = H2
      intro s2 hD2 hv2
      by_cases hp : ts.Perm (h.map HRow.t)
      · rw [decide_eq_true ((srt_eq py sy pz sz).mpr hp).symm]
        refine iteF ?_
        have em := map_rowsOf (h := h) (ts := ts) fun t ht => hp.mem_iff.mp ht
        have op := rowsOf_perm nd hp
        have oiff := ordP_iff nd (ts := ts)
        revert em op oiff
        generalize rowsOf h ts = o
        intro em op oiff
        have ol : o.length = ts.length := by rw [← em, List.length_map]
        refine ⟨_, rfl, T, _, rfl, .inl (s2.seq hT), _, rfl, by omega, by rw [List.length_map]; omega, for_range (fun i σ H3 => (∃ (last : Int) (y3 y5 y6 : Option V), σ = [some (.ref a), some (.ref T), some (.ref D), y3, some (.int last), y5, y6] ∧ (seesL 0 o ↔ seesL last (o.drop i))) ∧ Walked o i ∧ Same H2 H3) ⟨⟨0, _, _, _, rfl, by rw [List.drop_zero]⟩, (fun j x hj => absurd hj (Nat.not_lt_zero _)), Same.refl _⟩ ?_ ?_⟩
        · rintro i σ H3 hi ⟨⟨last, y3, y5, y6, rfl, iv⟩, wk, s3⟩
          have hi' : i < o.length := by rw [ol]; rw [List.length_map] at hi; omega
          obtain ⟨r, er⟩ : ∃ r, o[i]? = some r := ⟨_, List.getElem?_eq_getElem hi'⟩
          have hr' : r ∈ h := op.mem_iff.mp (List.mem_of_getElem? er)
          have et : (ts.map V.int)[i]? = some (.int r.t) := by rw [← em, List.getElem?_map, List.getElem?_map, er]; rfl
          have hat : atI (ts.map V.int) (0 + (i : Int)) = some (.int r.t) := by rw [Int.zero_add]; exact atI_nat et
          have dr : o.drop i = r :: o.drop (i + 1) := by
            obtain ⟨h1, e1⟩ := List.getElem?_eq_some_iff.mp er
            rw [← e1]
            exact List.drop_eq_getElem_cons h1
          rw [dr] at iv
          obtain ⟨x, e1, e2⟩ := hv2 r hr'
          obtain ⟨b, rfl, hb⟩ := dp_h (dp_same s3 _ _ e2)
          refine ⟨_, rfl, _, rfl, _, rfl, T, _, 0 + (i : Int), _, rfl, rfl, (s2.trans s3).seq hT, hat, D, _, rfl, dget_of (k := .inl r.t) (s3 _ _ hD2) e1, ?_⟩
          refine ⟨_, rfl, _, rfl, 0 + (i : Int), 1, rfl, rfl, _, rfl, T, _, rfl, (s2.trans s3).seq hT, fun p np => ?_⟩
          have ecut : cutV (ts.map V.int) (some (0 + (i : Int) + 1)) none = (ts.drop (i + 1)).map V.int := by
            have : (0 + (i : Int) + 1) = ((i + 1 : Nat) : Int) := by omega
            rw [this]
            unfold cutV
            rw [HT.sIx_none, HT.sIx_nat]
            have e2 : min (i + 1) (ts.map V.int).length = i + 1 := by rw [List.length_map]; omega
            rw [e2, List.map_drop]
            exact List.take_of_length_le (by rw [List.length_drop]; exact Nat.le_refl _)
          rw [ecut]
          have sp := same_upd (o := .lst ((ts.drop (i + 1)).map V.int)) np
          have hp3 := upd_same (H := H3) (a := p) (o := .lst ((ts.drop (i + 1)).map V.int))
          revert sp hp3
          generalize upd H3 p (.lst ((ts.drop (i + 1)).map V.int)) = H4
          intro sp hp3
          have s4 := s3.trans sp
          have dm : (o.drop (i + 1)).map HRow.t = ts.drop (i + 1) := by rw [List.map_drop, em]
          refine ⟨p, rfl, ⟨_, SqL.of hp3⟩, fun L nL => lc_ty PyData.int PyData.int (fun t => if (match rowAt h t with | some y => decide (y.e < r.b) | none => false) = true then some t else none) (SqL.of hp3) (ints_dp _) nL (by rw [List.length_drop]; omega) (fun _ => rfl) ?_ ?_⟩
          · intro j v t H5 k kf etj s5 pv hy hn
            cases pv
            have mt := List.mem_of_getElem? etj
            rw [← dm] at mt
            obtain ⟨y, hy', ey⟩ := List.mem_map.mp mt
            have yh : y ∈ h := op.mem_iff.mp (List.mem_of_mem_drop hy')
            obtain ⟨yv, f1, f2⟩ := hv2 y yh
            obtain ⟨c, rfl, hc⟩ := dp_h (dp_same (s4.trans s5) _ _ f2)
            rw [ey] at f1
            have era : rowAt h t = some y := by rw [← ey]; exact rowAt_self nd yh
            refine ⟨rfl, ⟨_, rfl, _, rfl, D, _, rfl, dget_of (k := .inl t) ((s4.trans s5) _ _ hD2) f1, c, _, 4, _, rfl, rfl, hc, atI_nat (j := 4) rfl, _, rfl, b, _, 3, _, rfl, rfl, sqT_same (sp.trans s5) hb, atI_nat (j := 3) rfl, _, _, rfl, rfl, _, rfl, ite2 (fun e => ?_) (fun e => ?_)⟩⟩
            · exact ⟨_, rfl, hy t (by rw [era]; exact if_pos e) _ _ (Same.refl _) (.int _)⟩
            · exact hn (by rw [era]; exact if_neg e) _ (Same.refl _)
          intro H5 ws s5 hL5 hws
          refine ⟨Nat.zero_le _, fun n2 nn2 => ?_⟩
          have sn2 := same_upd (o := .lst []) nn2
          refine ⟨L, n2, _, rfl, rfl, SqL.of (sn2 _ _ hL5), SqL.of upd_same, _, rfl, ?_⟩
          have s6 := s4.trans (s5.trans sn2)
          have hb6 := sqT_same (sp.trans (s5.trans sn2)) hb
          revert s6 hb6
          generalize upd H5 n2 (.lst []) = H6
          intro s6 hb6
          have s26 := s2.trans s6
          cases hf : (ts.drop (i + 1)).filterMap (fun t => if (match rowAt h t with | some y => decide (y.e < r.b) | none => false) = true then some t else none) with
          | cons t0 _ =>
            rw [hf] at hws
            cases hws
            refine iteT (q H6 false s26 ⟨(fun z => by cases z), fun z => ?_⟩)
            have nb := (oiff.mp z).2.1
            have mt : t0 ∈ (ts.drop (i + 1)).filterMap (fun t => if (match rowAt h t with | some y => decide (y.e < r.b) | none => false) = true then some t else none) := by rw [hf]; exact List.mem_cons_self
            obtain ⟨t, ht, e⟩ := List.mem_filterMap.mp mt
            rw [← dm] at ht
            obtain ⟨y, hy', ey⟩ := List.mem_map.mp ht
            rw [← ey, rowAt_self nd (op.mem_iff.mp (List.mem_of_mem_drop hy'))] at e
            by_cases lt : y.e < r.b
            · exact absurd lt (noBack_at nb i r er y hy')
            · simp [lt] at e
          | nil =>
            rw [hf] at hws
            cases hws
            have wk' : Walked o (i + 1) := fun j z hj ez y hy' lt => by
              by_cases ej : j = i
              · subst ej
                rw [er] at ez
                cases ez
                have : y.t ∈ (ts.drop (j + 1)).filterMap (fun t => if (match rowAt h t with | some y => decide (y.e < r.b) | none => false) = true then some t else none) := List.mem_filterMap.mpr ⟨y.t, by rw [← dm]; exact List.mem_map.mpr ⟨y, hy', rfl⟩, by rw [rowAt_self nd (op.mem_iff.mp (List.mem_of_mem_drop hy'))]; exact if_pos (decide_eq_true lt)⟩
                rw [hf] at this
                cases this
              · exact wk j z (by omega) ez y hy' lt
            have go : (r.wr = true ∨ r.v = last) → (∃ (last' : Int) (z3 z5 z6 : Option V), [some (V.ref a), some (V.ref T), some (V.ref D), some (V.ref b), some (V.int r.v), some (V.int (0 + (i : Int))), y6] = [some (V.ref a), some (V.ref T), some (V.ref D), z3, some (V.int last'), z5, z6] ∧ (seesL 0 o ↔ seesL last' (o.drop (i + 1)))) ∧ Walked o (i + 1) ∧ Same H2 H6 := fun c => ⟨⟨r.v, _, _, _, rfl, iv.trans ⟨fun z => z.2, fun z => ⟨c, z⟩⟩⟩, wk', s6⟩
            refine iteF ⟨_, rfl, b, _, 1, _, rfl, rfl, hb6, atI_nat (j := 1) rfl, rfl, _, rfl, ite2 (fun e => ⟨_, rfl, b, _, 2, _, rfl, rfl, hb6, atI_nat (j := 2) rfl, _, rfl, rfl, _, rfl, ?_⟩) (fun e => ?_)⟩
            · have ew : ¬ r.wr = true := fun z => by rw [z] at e; exact absurd (V.str.inj (of_decide_eq_true e)) (by decide)
              by_cases ev : r.v = last
              · rw [ev, show (!decide (V.int last = V.int last)) = false by simp]
                exact iteF ⟨_, rfl, b, _, 2, _, rfl, rfl, hb6, atI_nat (j := 2) rfl, go (.inr ev)⟩
              · rw [decide_eq_false (fun z => ev (V.int.inj z))]
                refine iteT (q H6 false s26 ⟨(fun z => by cases z), fun z => ?_⟩)
                rcases (iv.mp (oiff.mp z).2.2).1 with z | z
                · exact absurd z ew
                · exact absurd z ev
            · have ew : r.wr = true := by
                cases hw : r.wr with
                | true => rfl
                | false => rw [hw] at e; exact absurd (decide_eq_true rfl) e
              exact ⟨_, rfl, b, _, 2, _, rfl, rfl, hb6, atI_nat (j := 2) rfl, go (.inl ew)⟩
        · rintro σ H3 ⟨⟨last, y3, y5, y6, rfl, iv⟩, wk, s3⟩
          rw [List.length_map, Int.toNat_natCast, ← ol] at wk iv
          rw [List.drop_length] at iv
          exact q H3 true (s2.trans s3) ⟨fun _ => oiff.mpr ⟨hp, walked_all wk, iv.mpr trivial⟩, fun _ => rfl⟩
      · rw [decide_eq_false (fun z => hp ((srt_eq py sy pz sz).mp z.symm))]
        exact iteT (q H2 false s2 ⟨(fun z => by cases z), fun z => absurd ((ordP_iff nd).mp z).1 hp⟩)

/-! ### defs whose promises were shown by hand, as mirrors -/
def hA (r : HRow) : A := .tup [.int r.t, .str (kindS r.wr), .int r.v, .int r.b, .int r.e]
def rowOfA : A → Option HRow
  | .tup [.int t, .str k, .int v, .int b, .int e] => if k = ("write" : Str) then some ⟨t, true, v, b, e⟩ else if k = ("read" : Str) then some ⟨t, false, v, b, e⟩ else none
  | _ => none
theorem rowOf_hA (r : HRow) : rowOfA (hA r) = some r := by
  obtain ⟨t, w, v, b, e⟩ := r
  cases w with
  | true =>
    show (if ("write" : Str) = "write" then some (⟨t, true, v, b, e⟩ : HRow) else if ("write" : Str) = "read" then some ⟨t, false, v, b, e⟩ else none) = _
    rw [if_pos rfl]
  | false =>
    show (if ("read" : Str) = "write" then some (⟨t, true, v, b, e⟩ : HRow) else if ("read" : Str) = "read" then some ⟨t, false, v, b, e⟩ else none) = _
    rw [if_neg (by decide +kernel), if_pos rfl]
theorem rowOf_is {a : A} {r : HRow} (h : rowOfA a = some r) : a = hA r := by
  unfold rowOfA at h
  split at h
  · rename_i t k v b e
    split at h
    · rename_i hk
      cases h
      rw [hk]
      rfl
    · split at h
      · rename_i hk
        cases h
        rw [hk]
        rfl
      · cases h
  · cases h
def rowsOfA : List A → Option (List HRow)
  | [] => some []
  | x :: xs => match rowOfA x, rowsOfA xs with
    | some r, some rs => some (r :: rs)
    | _, _ => none
theorem rowsOf_hA : ∀ h : List HRow, rowsOfA (h.map hA) = some h
  | [] => rfl
  | r :: h => by simp only [List.map_cons, rowsOfA, rowOf_hA, rowsOf_hA h]
theorem rowsOf_is : ∀ {xs : List A} {h : List HRow}, rowsOfA xs = some h → xs = h.map hA
  | [], h, e => by cases e; rfl
  | x :: xs, h, e => by
    unfold rowsOfA at e
    split at e
    · rename_i r rs e1 e2
      cases e
      rw [rowOf_is e1, rowsOf_is e2]
      rfl
    · cases e
def hOf (st : Sto) (a : A) : Option (List HRow) := (getL st a).bind rowsOfA
def iOf (st : Sto) (a : A) : Option (List Int) := (getL st a).bind intsOf
theorem hOf_ref {st : Sto} {n : Nat} {h : List HRow} (e : st[n]? = some (.lst (h.map hA))) : hOf st (.ref n) = some h := by
  unfold hOf
  rw [ev_getL, e]
  exact rowsOf_hA h
theorem iOf_ref {st : Sto} {n : Nat} {ns : List Int} (e : st[n]? = some (.lst (ns.map A.int))) : iOf st (.ref n) = some ns := by
  unfold iOf
  rw [ev_getL, e]
  show intsOf (ns.map A.int) = some ns
  induction ns with
  | nil => rfl
  | cons n ns ih => simp only [List.map_cons, intsOf]; rw [show intsOf (ns.map A.int) = some ns from by clear ih e; induction ns with | nil => rfl | cons n ns ih => simp only [List.map_cons, intsOf, ih, Option.map_some]]; rfl
theorem hA_dp {w : World} {ρ : List Addr} {H : Hp} {v : V} {r : HRow} (h : Rv K H ρ v (hA r)) : Dp K H v (hD r) := by
  cases h with
  | tup hs hv =>
    refine .tup hs ?_
    cases hv with
    | cons a1 hv => cases a1; cases hv with
      | cons a2 hv => cases a2; cases hv with
        | cons a3 hv => cases a3; cases hv with
          | cons a4 hv => cases a4; cases hv with
            | cons a5 hv =>
              cases a5
              cases hv
              exact .cons (.int _) (.cons (.str _) (.cons (.int _) (.cons (.int _) (.cons (.int _) .nil))))
theorem hAs_dp {w : World} {ρ : List Addr} {H : Hp} : ∀ {vs : List V} {h : List HRow}, Rvs K H ρ vs (h.map hA) → DpAll K H vs (h.map hD)
  | _, [], hv => by cases hv; exact .nil
  | _, r :: h, hv => by
    cases hv with
    | cons a hv => exact .cons (hA_dp (w := w) a) (hAs_dp (w := w) hv)
section
variable {w : World} {ρ : List Addr} {H : Hp} {st : Sto}
theorem hOf_dp {v : V} {a : A} {h : List HRow} (rel : Rel K w ρ H st) (hv : Rv K H ρ v a) (e : hOf st a = some h) : Dp K H v (.list (h.map hD)) := by
  unfold hOf at e
  cases e1 : getL st a with
  | none => rw [e1] at e; cases e
  | some xs =>
    rw [e1] at e
    obtain ⟨p, vs, rfl, h1, h2⟩ := getL_sq rel hv e1
    rw [rowsOf_is e] at h2
    exact .lst h1 (hAs_dp (w := w) h2)
theorem iOf_sq {v : V} {a : A} {ns : List Int} (rel : Rel K w ρ H st) (hv : Rv K H ρ v a) (e : iOf st a = some ns) : ∃ T, v = .ref T ∧ SqL K H T (ns.map V.int) := by
  unfold iOf at e
  cases e1 : getL st a with
  | none => rw [e1] at e; cases e
  | some xs =>
    rw [e1] at e
    obtain ⟨p, vs, rfl, h1, h2⟩ := getL_sq rel hv e1
    have : xs = ns.map A.int := by
      clear e1 h2 h1
      have key : ∀ {xs : List A} {ns : List Int}, intsOf xs = some ns → xs = ns.map A.int := fun {xs} => by
        induction xs with
        | nil => intro ns e; cases e; rfl
        | cons x xs ih =>
          intro ns e
          cases x with
          | int i =>
            simp only [intsOf] at e
            obtain ⟨ms, e2, rfl⟩ := Option.map_eq_some_iff.mp e
            rw [ih e2]
            rfl
          | _ => simp [intsOf] at e
      exact key e
    rw [this] at h2
    exact ⟨p, rfl, by rw [← Rvs.of_ints h2]; exact h1⟩
end
/-- what is_order and the law's reading ask for -/
def OrdC (h : List HRow) (ts : List Int) : Prop := h.length ≤ 61 ∧ ts.length ≤ 1000 ∧ (h.map HRow.t).Nodup ∧ ∀ r ∈ h, 0 ≤ r.b ∧ r.b < r.e
open Classical in
noncomputable def ordM (oh : Option (List HRow)) (ot : Option (List Int)) (st : Sto) : Res A := match oh, ot with
  | some h, some ts => if OrdC h ts then .ok (.bl (decide (OrdP h ts))) st else .no
  | _, _ => .no
noncomputable def m_is_order : List A → Sto → Res A := fun as st => match as with
  | [a, b] => ordM (hOf st a) (iOf st b) st
  | _ => .no
noncomputable def m__law_order_right : List A → Sto → Res A := fun as st => match as with
  | [a, b] => ordM (hOf st a) (iOf st b) st
  | _ => .no
open Classical in
theorem imp_order {w : World} {vs : List V} {H : Hp} {Q : VK} {E : XK} (h : spN K w 2 (fun as st => match as with
  | [a, b] => ordM (hOf st a) (iOf st b) st
  | _ => .no) vs H Q E) : spis_order K vs H Q E := by
  obtain ⟨ρ, st, as, hl, rel, rvs, p⟩ := h
  match vs, hl, as, rvs with
  | [v, u], _, [a, b], .cons ra (.cons rb .nil) =>
    have p : Post K w ρ H (noX (ordM (hOf st a) (iOf st b) st)) (fun a _ ρ' H' => ∀ v, Rv K H' ρ' v a → Q v H') (fun c d H' => E c d H') := p
    unfold ordM at p
    split at p
    · rename_i h ts e1 e2
      split at p
      · rename_i hc
        obtain ⟨T, rfl, hT⟩ := iOf_sq rel rb e2
        refine ⟨v, T, h, ts, rfl, hOf_dp rel ra e1, hT, hc.1, hc.2.1, hc.2.2.1, hc.2.2.2, fun H' c s hcc => ?_⟩
        have ec : c = decide (OrdP h ts) := by
          rw [Bool.eq_iff_iff, hcc]
          simp
        rw [ec]
        exact p ρ H' (Ext.same s) (rel.same s) _ (.bl _)
      · exact p.elim
    · exact p.elim
theorem br_is_order {k : Nat} (c : C8.Cal P w K mg base k "is_order" (spis_order K) []) : C8.Cal P w K mg base k "is_order" (spN K w 2 m_is_order) [] := by
  obtain ⟨f, fd, ps, ds, F, h1, h2, h3, h4⟩ := c.ex
  exact ⟨f, fd, ps, ds, F.imp (fun vs H Q E h => imp_order h), h1, h2, h3, h4⟩
theorem br__law_order_right {k : Nat} (c : C8.Cal P w K mg base k "_law_order_right" (sp_law_order_right K) []) : C8.Cal P w K mg base k "_law_order_right" (spN K w 2 m__law_order_right) [] := by
  obtain ⟨f, fd, ps, ds, F, h1, h2, h3, h4⟩ := c.ex
  exact ⟨f, fd, ps, ds, F.imp (fun vs H Q E h => imp_order h), h1, h2, h3, h4⟩
/-! shows_none -/
def reaA (x : Reason) : A := .tup [.str x.1, .int x.2.1, .int x.2.2]
def reaOf : A → Option Reason
  | .tup [.str x, .int i, .int j] => some (x, i, j)
  | _ => none
theorem reaOf_is {a : A} {x : Reason} (h : reaOf a = some x) : a = reaA x := by
  unfold reaOf at h
  split at h
  · cases h
    rfl
  · cases h
open Classical in
noncomputable def showM (oh : Option (List HRow)) (ox : Option Reason) (st : Sto) : Res A := match oh, ox with
  | some h, some x => if PyData.strOk x.1 = true ∧ h.length ≤ 61 ∧ OneW h then .ok (.bl (decide (ShowsP h x))) st else .no
  | _, _ => .no
noncomputable def m_shows_none : List A → Sto → Res A := fun as st => match as with
  | [a, b] => showM (hOf st a) (reaOf b) st
  | _ => .no
theorem rea_rv {ρ : List Addr} {H : Hp} {v : V} {x : Reason} (h : Rv K H ρ v (reaA x)) : Dp K H v (reaD x) := by
  cases h with
  | tup hs hv =>
    refine .tup hs ?_
    cases hv with
    | cons a1 hv => cases a1; cases hv with
      | cons a2 hv => cases a2; cases hv with
        | cons a3 hv =>
          cases a3
          cases hv
          exact .cons (.str _) (.cons (.int _) (.cons (.int _) .nil))
theorem rv_rea {ρ : List Addr} {H : Hp} {v : V} {x : Reason} (h : Dp K H v (reaD x)) : Rv K H ρ v (reaA x) := by
  obtain ⟨a, vs, rfl, hs, hv⟩ := dp_tuple h
  refine .tup hs ?_
  cases hv with
  | cons a1 hv => cases a1; cases hv with
    | cons a2 hv => cases a2; cases hv with
      | cons a3 hv =>
        cases a3
        cases hv
        exact .cons (.str _) (.cons (.int _) (.cons (.int _) .nil))
open Classical in
theorem br_shows_none {k : Nat} (c : C8.Cal P w K mg base k "shows_none" (spshows_none K) []) : C8.Cal P w K mg base k "shows_none" (spN K w 2 m_shows_none) [] := by
  obtain ⟨f, fd, ps, ds, F, h1, h2, h3, h4⟩ := c.ex
  refine ⟨f, fd, ps, ds, F.imp (fun vs H Q E h => ?_), h1, h2, h3, h4⟩
  obtain ⟨ρ, st, as, hl, rel, rvs, p⟩ := h
  match vs, hl, as, rvs with
  | [v, u], _, [a, b], .cons ra (.cons rb .nil) =>
    have p : Post K w ρ H (noX (showM (hOf st a) (reaOf b) st)) (fun a _ ρ' H' => ∀ v, Rv K H' ρ' v a → Q v H') (fun c d H' => E c d H') := p
    unfold showM at p
    split at p
    · rename_i h x e1 e2
      split at p
      · rename_i hc
        rw [reaOf_is e2] at rb
        refine ⟨v, u, h, x, rfl, hOf_dp rel ra e1, rea_rv rb, hc.1, hc.2.1, hc.2.2, fun H' c s hcc => ?_⟩
        have ec : c = decide (ShowsP h x) := by
          rw [Bool.eq_iff_iff, hcc]
          simp
        rw [ec]
        exact p ρ H' (Ext.same s) (rel.same s) _ (.bl _)
      · exact p.elim
    · exact p.elim
/-! ordered -/
def OneP (h : List HRow) (rs : List HRow) : Prop := ∀ rs', Placed h rs' → rs' = rs
def OneX (h : List HRow) (x : Reason) : Prop := ∀ E B W y, Reas h E B W → (E ++ B ++ W)[0]? = some y → y = x
open Classical in
noncomputable def ordrM (oh : Option (List HRow)) (st : Sto) : Res A := match oh with
  | some h => if h.length ≤ 61 ∧ OneW h then
      (if ∀ x, ¬ ShowsP h x then
        (if hx : ∃ rs, OneP h rs then .ok (.tup [.str "order", .ref st.length]) (st ++ [.lst ((hx.choose.map HRow.t).map A.int)]) else .no)
      else (if hx : ∃ x, OneX h x then .ok (reaA hx.choose) st else .no))
    else .no
  | none => .no
noncomputable def m_ordered : List A → Sto → Res A := fun as st => match as with
  | [a] => ordrM (hOf st a) st
  | _ => .no
open Classical in
theorem br_ordered {k : Nat} (c : C8.Cal P w K mg base k "ordered" (spordered K) []) : C8.Cal P w K mg base k "ordered" (spN K w 1 m_ordered) [] := by
  obtain ⟨f, fd, ps, ds, F, h1, h2, h3, h4⟩ := c.ex
  refine ⟨f, fd, ps, ds, F.imp (fun vs H Q E h => ?_), h1, h2, h3, h4⟩
  obtain ⟨ρ, st, as, hl, rel, rvs, p⟩ := h
  match vs, hl, as, rvs with
  | [v], _, [a], .cons ra .nil =>
    have p : Post K w ρ H (noX (ordrM (hOf st a) st)) (fun a _ ρ' H' => ∀ v, Rv K H' ρ' v a → Q v H') (fun c d H' => E c d H') := p
    unfold ordrM at p
    split at p
    · rename_i h e1
      split at p
      · rename_i hc
        refine ⟨v, h, rfl, hOf_dp rel ra e1, hc.1, hc.2, fun q H' E' B' W' x s r ex dx => ?_, fun q L H' rs s nL no hL pl hq => ?_⟩
        · have sx : ShowsP h x := (r.shows x).mp (List.mem_of_getElem? ex)
          split at p
          · rename_i no
            exact absurd sx (no x)
          · split at p
            · rename_i hx
              have : x = hx.choose := hx.choose_spec E' B' W' x r ex
              rw [this] at dx
              exact p ρ H' (Ext.same s) (rel.same s) _ (rv_rea dx)
            · exact p.elim
        · rw [if_pos no] at p
          split at p
          · rename_i hx
            have er : rs = hx.choose := hx.choose_spec rs pl
            rw [← er] at p
            have e0 : Ext ρ (ρ ++ [L]) H H' := ⟨⟨[L], rfl⟩, Kt.same s⟩
            have hLn : L ∉ ρ := rel.fresh nL
            have rel' : Rel K w (ρ ++ [L]) H' (st ++ [.lst ((rs.map HRow.t).map A.int)]) := by
              refine ⟨by rw [List.length_append, List.length_append, rel.len]; rfl, ?_, fun m b o' hb e' => ?_⟩
              · refine List.nodup_append.mpr ⟨rel.nd, by simp, fun x hx y hy z => ?_⟩
                rw [List.mem_singleton.mp hy] at z
                exact hLn (z ▸ hx)
              · by_cases hm : m < st.length
                · rw [List.getElem?_append_left hm] at e'
                  rw [List.getElem?_append_left (by rw [rel.len]; exact hm)] at hb
                  exact (rel.obj m b o' hb e').ext e0 fun u hu => s _ _ hu
                · have e2 : m = st.length := by
                    have := (List.getElem?_eq_some_iff.mp e').1
                    rw [List.length_append, List.length_singleton] at this
                    omega
                  subst e2
                  rw [List.getElem?_append_right (Nat.le_refl _), Nat.sub_self] at e'
                  rw [← rel.len, List.getElem?_append_right (Nat.le_refl _), Nat.sub_self] at hb
                  cases e'
                  cases hb
                  exact ⟨_, hL, Rvs.ints _⟩
            refine p (ρ ++ [L]) H' e0 rel' _ (.tup (.inl (.inl hq)) (.cons (.str _) (.cons (.ref ?_) .nil)))
            rw [← rel.len, List.getElem?_append_right (Nat.le_refl _), Nat.sub_self]
            rfl
          · exact p.elim
      · exact p.elim
    · exact p.elim

/-! ### is_whole -/
abbrev s_is_whole : Stmt := topS 2
theorem sc_is_whole : FnScope ["thing"] ["thing"] (defScope s_is_whole) := ⟨rfl, rfl, rfl, by decide +kernel, rfl, by decide +kernel, by decide +kernel⟩

noncomputable def b_is_whole : MS := (sRet (mAnd (mCB oIsi (mCons (mVar 0) (mCons (mC (.ty "int")) mNil))) (mNot (mCB oIsi (mCons (mVar 0) (mCons (mC (.ty "bool")) mNil))))))
noncomputable def m_is_whole : List A → Sto → Res A := runB 1 b_is_whole
theorem ok_is_whole {f : Addr} {fd : FuncData} (F : Fun K "is_whole" "is_whole" s_is_whole f fd) (gm : mg "is_whole" = some (.ref f)) (N : Fre K mg)  : C8.Cal P w K mg base 1 "is_whole" (spN K w 1 m_is_whole) [] := by
  refine mkCal F gm sc_is_whole (F.binds (ps := ["thing"]) fun _ _ _ _ _ _ us hl => match us, hl with | [_], _ => rfl) (fun vs H Q E h => ?_) (fun cdv A outer s H vs Q E hr h => ?_)
  · obtain ⟨_, _, _, hl, _⟩ := h
    exact hl
  · refine ⟨_, (pss_one (ps_ret (pe_and (pe_callB (show CallR _ _ (rIsi K) from call_isi) (by rfl) N.isinstance (by decide +kernel) (pa_cons (pv 0) (pa_cons (pe_bltn (v := .ty "int") (u := .type "int") rfl N.int (by decide +kernel) rfl) pa_nil))) (pe_one (pe_not (pe_callB (show CallR _ _ (rIsi K) from call_isi) (by rfl) N.isinstance (by decide +kernel) (pa_cons (pv 0) (pa_cons (pe_bltn (v := .ty "bool") (u := .type "bool") rfl N.bool (by decide +kernel) rfl) pa_nil)))))))), ?_⟩
    exact spN_body (b := b_is_whole) (show RS K w WF _ b_is_whole from (rs_ret (re_and (re_cb rl_isi (ra_cons (re_var (i := 0)) (ra_cons (re_c fun _ _ => .ty _) ra_nil))) (re_not (re_cb rl_isi (ra_cons (re_var (i := 0)) (ra_cons (re_c fun _ _ => .ty _) ra_nil))))))) h
theorem st_is_whole (a0 : A) (st : Sto) : m_is_whole [a0] st = fin (b_is_whole [some a0] st) := rfl

/-! ### is_number -/
abbrev s_is_number : Stmt := topS 3
theorem sc_is_number : FnScope ["thing"] ["thing"] (defScope s_is_number) := ⟨rfl, rfl, rfl, by decide +kernel, rfl, by decide +kernel, by decide +kernel⟩

noncomputable def b_is_number : MS := (sRet (mAnd (mCall 1 m_is_whole (mCons (mVar 0) mNil)) (mOp oGe (mVar 0) (mC (.int 0)))))
noncomputable def m_is_number : List A → Sto → Res A := runB 1 b_is_number
theorem ok_is_number {f : Addr} {fd : FuncData} (F : Fun K "is_number" "is_number" s_is_number f fd) (gm : mg "is_number" = some (.ref f)) (N : Fre K mg) (c_is_whole : C8.Cal P w K mg base 1 "is_whole" (spN K w 1 m_is_whole) []) : C8.Cal P w K mg base 2 "is_number" (spN K w 1 m_is_number) [] := by
  refine mkCal F gm sc_is_number (F.binds (ps := ["thing"]) fun _ _ _ _ _ _ us hl => match us, hl with | [_], _ => rfl) (fun vs H Q E h => ?_) (fun cdv A outer s H vs Q E hr h => ?_)
  · obtain ⟨_, _, _, hl, _⟩ := h
    exact hl
  · refine ⟨_, (pss_one (ps_ret (pe_and (C8.pe_c c_is_whole hr (by decide) rfl (pa_cons (pv 0) pa_nil)) (pe_one (pe_cmpR (show OpR _ _ rGeD from dGe) (pv 0) pe_int (nomark _)))))), ?_⟩
    exact spN_body (b := b_is_number) (show RS K w WF _ b_is_number from (rs_ret (re_and (re_call (ra_cons (re_var (i := 0)) ra_nil)) (re_op r2_ge (re_var (i := 0)) re_int)))) h
theorem st_is_number (a0 : A) (st : Sto) : m_is_number [a0] st = fin (b_is_number [some a0] st) := rfl

/-! ### is_within -/
abbrev s_is_within : Stmt := topS 4
theorem sc_is_within : FnScope ["thing", "least", "most"] ["thing", "least", "most"] (defScope s_is_within) := ⟨rfl, rfl, rfl, by decide +kernel, rfl, by decide +kernel, by decide +kernel⟩

noncomputable def b_is_within : MS := (sRet (mAnd (mCall 1 m_is_whole (mCons (mVar 0) mNil)) (mChain oLe oLe (mVar 1) (mVar 0) (mVar 2))))
noncomputable def m_is_within : List A → Sto → Res A := runB 3 b_is_within
theorem ok_is_within {f : Addr} {fd : FuncData} (F : Fun K "is_within" "is_within" s_is_within f fd) (gm : mg "is_within" = some (.ref f)) (N : Fre K mg) (c_is_whole : C8.Cal P w K mg base 1 "is_whole" (spN K w 1 m_is_whole) []) : C8.Cal P w K mg base 2 "is_within" (spN K w 3 m_is_within) [] := by
  refine mkCal F gm sc_is_within (F.binds (ps := ["thing", "least", "most"]) fun _ _ _ _ _ _ us hl => match us, hl with | [_, _, _], _ => rfl) (fun vs H Q E h => ?_) (fun cdv A outer s H vs Q E hr h => ?_)
  · obtain ⟨_, _, _, hl, _⟩ := h
    exact hl
  · refine ⟨_, (pss_one (ps_ret (pe_and (C8.pe_c c_is_whole hr (by decide) rfl (pa_cons (pv 0) pa_nil)) (pe_one (pe_chain (show OpR _ _ rLeD from dLe) (show OpR _ _ rLeD from dLe) (pv 1) (pv 0) (pv 2)))))), ?_⟩
    exact spN_body (b := b_is_within) (show RS K w WF _ b_is_within from (rs_ret (re_and (re_call (ra_cons (re_var (i := 0)) ra_nil)) (re_chain r2_le r2_le (re_var (i := 1)) (re_var (i := 0)) (re_var (i := 2)))))) h
theorem st_is_within (a0 a1 a2 : A) (st : Sto) : m_is_within [a0, a1, a2] st = fin (b_is_within [some a0, some a1, some a2] st) := rfl

/-! ### is_tuple -/
abbrev s_is_tuple : Stmt := topS 5
theorem sc_is_tuple : FnScope ["thing", "least", "most"] ["thing", "least", "most"] (defScope s_is_tuple) := ⟨rfl, rfl, rfl, by decide +kernel, rfl, by decide +kernel, by decide +kernel⟩

noncomputable def b_is_tuple : MS := (sRet (mAnd (mCB oIsi (mCons (mVar 0) (mCons (mC (.ty "tuple")) mNil))) (mChain oLe oLe (mVar 1) (mCB oLen (mCons (mVar 0) mNil)) (mVar 2))))
noncomputable def m_is_tuple : List A → Sto → Res A := runB 3 b_is_tuple
theorem ok_is_tuple {f : Addr} {fd : FuncData} (F : Fun K "is_tuple" "is_tuple" s_is_tuple f fd) (gm : mg "is_tuple" = some (.ref f)) (N : Fre K mg)  : C8.Cal P w K mg base 1 "is_tuple" (spN K w 3 m_is_tuple) [] := by
  refine mkCal F gm sc_is_tuple (F.binds (ps := ["thing", "least", "most"]) fun _ _ _ _ _ _ us hl => match us, hl with | [_, _, _], _ => rfl) (fun vs H Q E h => ?_) (fun cdv A outer s H vs Q E hr h => ?_)
  · obtain ⟨_, _, _, hl, _⟩ := h
    exact hl
  · refine ⟨_, (pss_one (ps_ret (pe_and (pe_callB (show CallR _ _ (rIsi K) from call_isi) (by rfl) N.isinstance (by decide +kernel) (pa_cons (pv 0) (pa_cons (pe_bltn (v := .ty "tuple") (u := .type "tuple") rfl N.tuple (by decide +kernel) rfl) pa_nil))) (pe_one (pe_chain (show OpR _ _ rLeD from dLe) (show OpR _ _ rLeD from dLe) (pv 1) (pe_callB (show CallR _ _ (rLenAny K) from call_lenAny) (by rfl) N.len (by decide +kernel) (pa_cons (pv 0) pa_nil)) (pv 2)))))), ?_⟩
    exact spN_body (b := b_is_tuple) (show RS K w WF _ b_is_tuple from (rs_ret (re_and (re_cb rl_isi (ra_cons (re_var (i := 0)) (ra_cons (re_c fun _ _ => .ty _) ra_nil))) (re_chain r2_le r2_le (re_var (i := 1)) (re_cb rl_len (ra_cons (re_var (i := 0)) ra_nil)) (re_var (i := 2)))))) h
theorem st_is_tuple (a0 a1 a2 : A) (st : Sto) : m_is_tuple [a0, a1, a2] st = fin (b_is_tuple [some a0, some a1, some a2] st) := rfl

/-! ### are_unlike -/
abbrev s_are_unlike : Stmt := topS 6
theorem sc_are_unlike : FnScope ["numbers"] ["numbers"] (defScope s_are_unlike) := ⟨rfl, rfl, rfl, by decide +kernel, rfl, by decide +kernel, by decide +kernel⟩

noncomputable def b_are_unlike : MS := (sRet (mOp oEqX (mLenSet (mVar 0)) (mCB oLen (mCons (mVar 0) mNil))))
noncomputable def m_are_unlike : List A → Sto → Res A := runB 1 b_are_unlike
theorem ok_are_unlike {f : Addr} {fd : FuncData} (F : Fun K "are_unlike" "are_unlike" s_are_unlike f fd) (gm : mg "are_unlike" = some (.ref f)) (N : Fre K mg)  : C8.Cal P w K mg base 1 "are_unlike" (spN K w 1 m_are_unlike) [] := by
  refine mkCal F gm sc_are_unlike (F.binds (ps := ["numbers"]) fun _ _ _ _ _ _ us hl => match us, hl with | [_], _ => rfl) (fun vs H Q E h => ?_) (fun cdv A outer s H vs Q E hr h => ?_)
  · obtain ⟨_, _, _, hl, _⟩ := h
    exact hl
  · refine ⟨_, (pss_one (ps_ret (pe_cmpR (show OpR _ _ (rEqX K) from (dEqX hr.units)) (pe_lenSet rfl (by rfl) N.len (by rfl) N.set (pv 0)) (pe_callB (show CallR _ _ (rLenAny K) from call_lenAny) (by rfl) N.len (by decide +kernel) (pa_cons (pv 0) pa_nil)) (nomark _)))), ?_⟩
    exact spN_body (b := b_are_unlike) (show RS K w WF _ b_are_unlike from (rs_ret (re_op r2_eqX (re_lenSet (re_var (i := 0))) (re_cb rl_len (ra_cons (re_var (i := 0)) ra_nil))))) h
theorem st_are_unlike (a0 : A) (st : Sto) : m_are_unlike [a0] st = fin (b_are_unlike [some a0] st) := rfl

/-! ### is_history_row -/
abbrev s_is_history_row : Stmt := topS 10
theorem sc_is_history_row : FnScope ["thing", "task", "kind", "value", "begin", "end", "least"] ["thing"] (defScope s_is_history_row) := ⟨rfl, rfl, rfl, by decide +kernel, rfl, by decide +kernel, by decide +kernel⟩

noncomputable def b_is_history_row : MS := (sSeq (sIf (mNotT (mTest (mCall 3 m_is_tuple (mCons (mVar 0) (mCons (mC (.int 5)) (mCons (mC (.int 5)) mNil))))))
 (sRet (mC (.bl false)))
 sNext)
 (sSeq (sAsg (mVar 0) (mgTup (mgCons (mgName 1) (mgCons (mgName 2) (mgCons (mgName 3) (mgCons (mgName 4) (mgCons (mgName 5) mgNil)))))))
 (sSeq (sIf (mOrT (mNotT (mTest (mCall 1 m_is_number (mCons (mVar 1) mNil)))) (mTest (mOp oNotInX (mVar 2) (mTup (mCons (mC (.str "read")) (mCons (mC (.str "write")) mNil))))))
 (sRet (mC (.bl false)))
 sNext)
 (sSeq (sAsg (mIfE (mTest (mOp oEqX (mVar 2) (mC (.str "write")))) (mC (.int 1)) (mC (.int 0))) (mgName 6))
 (sSeq (sIf (mNotT (mTest (mCall 3 m_is_within (mCons (mVar 3) (mCons (mVar 6) (mCons (mC (.int 999)) mNil))))))
 (sRet (mC (.bl false)))
 sNext)
 (sRet (mAnd (mCall 3 m_is_within (mCons (mVar 4) (mCons (mC (.int 0)) (mCons (mC (.int 1000000)) mNil)))) (mCall 3 m_is_within (mCons (mVar 5) (mCons (mOp oAddX (mVar 4) (mC (.int 1))) (mCons (mC (.int 1000000)) mNil)))))))))))
noncomputable def m_is_history_row : List A → Sto → Res A := runB 7 b_is_history_row
theorem ok_is_history_row {f : Addr} {fd : FuncData} (F : Fun K "is_history_row" "is_history_row" s_is_history_row f fd) (gm : mg "is_history_row" = some (.ref f)) (N : Fre K mg) (c_is_number : C8.Cal P w K mg base 2 "is_number" (spN K w 1 m_is_number) []) (c_is_tuple : C8.Cal P w K mg base 1 "is_tuple" (spN K w 3 m_is_tuple) []) (c_is_within : C8.Cal P w K mg base 2 "is_within" (spN K w 3 m_is_within) []) : C8.Cal P w K mg base 3 "is_history_row" (spN K w 1 m_is_history_row) [] := by
  refine mkCal F gm sc_is_history_row (F.binds (ps := ["thing"]) fun _ _ _ _ _ _ us hl => match us, hl with | [_], _ => rfl) (fun vs H Q E h => ?_) (fun cdv A outer s H vs Q E hr h => ?_)
  · obtain ⟨_, _, _, hl, _⟩ := h
    exact hl
  · refine ⟨_, (pss_cons (ps_if (pt_not (pt_val (C8.pe_c c_is_tuple hr (by decide) rfl (pa_cons (pv 0) (pa_cons pe_int (pa_cons pe_int pa_nil))))))
 (pss_one (ps_ret pe_bl))
 pss_nil)
 (pss_cons (ps_asg (pv 0) (pg_tup rfl (pgs_cons (pg_name (i := 1) sc_is_history_row.nd rfl (.inl rfl)) (pgs_cons (pg_name (i := 2) sc_is_history_row.nd rfl (.inl rfl)) (pgs_cons (pg_name (i := 3) sc_is_history_row.nd rfl (.inl rfl)) (pgs_cons (pg_name (i := 4) sc_is_history_row.nd rfl (.inl rfl)) (pgs_cons (pg_name (i := 5) sc_is_history_row.nd rfl (.inl rfl)) pgs_nil)))))))
 (pss_cons (ps_if (PW.pt (pw_or (pt_not (pt_val (C8.pe_c c_is_number hr (by decide) rfl (pa_cons (pv 1) pa_nil)))) (pw_or1 (pt_cmpR (show OpR _ _ (rNotInX K) from (dNotInX (hu65 hr))) (pv 2) (pe_tup (pa_cons pe_str (pa_cons pe_str pa_nil))) (by with_unfolding_all rfl)))))
 (pss_one (ps_ret pe_bl))
 pss_nil)
 (pss_cons (ps_set (i := 6) sc_is_history_row.nd rfl (.inl rfl) (pe_ifExp (pt_cmpR (show OpR _ _ (rEqX K) from (dEqX hr.units)) (pv 2) pe_str (nomark _)) pe_int pe_int))
 (pss_cons (ps_if (pt_not (pt_val (C8.pe_c c_is_within hr (by decide) rfl (pa_cons (pv 3) (pa_cons (pv 6) (pa_cons (let ⟨_, h⟩ := N.c_GREATEST_VALUE; pe_glob (v := (.int 999)) rfl h ⟨_, rfl⟩) pa_nil))))))
 (pss_one (ps_ret pe_bl))
 pss_nil)
 (pss_one (ps_ret (pe_and (C8.pe_c c_is_within hr (by decide) rfl (pa_cons (pv 4) (pa_cons pe_int (pa_cons (let ⟨_, h⟩ := N.c_LAST_TIME; pe_glob (v := (.int 1000000)) rfl h ⟨_, rfl⟩) pa_nil)))) (pe_one (C8.pe_c c_is_within hr (by decide) rfl (pa_cons (pv 5) (pa_cons (pe_op (show OpR _ _ (rAddX K) from dAddX) (pv 4) pe_int) (pa_cons (let ⟨_, h⟩ := N.c_LAST_TIME; pe_glob (v := (.int 1000000)) rfl h ⟨_, rfl⟩) pa_nil))))))))))))), ?_⟩
    exact spN_body (b := b_is_history_row) (show RS K w WF _ b_is_history_row from (rs_seq (rs_if (rt_not (rt_val (re_call (ra_cons (re_var (i := 0)) (ra_cons re_int (ra_cons re_int ra_nil))))))
 (rs_ret re_bl)
 rs_next)
 (rs_seq (rs_asg (re_var (i := 0)) (rg_tup (mgs_lenS (mgs_lenS (mgs_lenS (mgs_lenS (mgs_lenS mgs_len0))))) (rgs_cons (rg_name (i := 1) (vs := [1, 2, 3, 4, 5]) (by decide)) (rgs_cons (rg_name (i := 2) (vs := [1, 2, 3, 4, 5]) (by decide)) (rgs_cons (rg_name (i := 3) (vs := [1, 2, 3, 4, 5]) (by decide)) (rgs_cons (rg_name (i := 4) (vs := [1, 2, 3, 4, 5]) (by decide)) (rgs_cons (rg_name (i := 5) (vs := [1, 2, 3, 4, 5]) (by decide)) rgs_nil)))))))
 (rs_seq (rs_if (rt_or (rt_not (rt_val (re_call (ra_cons (re_var (i := 1)) ra_nil)))) (rt_test (re_op r2_notInX (re_var (i := 2)) (re_tup (ra_cons re_str (ra_cons re_str ra_nil))))))
 (rs_ret re_bl)
 rs_next)
 (rs_seq (rs_asg (re_if (rt_test (re_op r2_eqX (re_var (i := 2)) re_str)) re_int re_int) (rg_name (i := 6) (vs := [6]) (by decide)))
 (rs_seq (rs_if (rt_not (rt_val (re_call (ra_cons (re_var (i := 3)) (ra_cons (re_var (i := 6)) (ra_cons re_int ra_nil))))))
 (rs_ret re_bl)
 rs_next)
 (rs_ret (re_and (re_call (ra_cons (re_var (i := 4)) (ra_cons re_int (ra_cons re_int ra_nil)))) (re_call (ra_cons (re_var (i := 5)) (ra_cons (re_op r2_addX (re_var (i := 4)) re_int) (ra_cons re_int ra_nil)))))))))))) h
theorem st_is_history_row (a0 : A) (st : Sto) : m_is_history_row [a0] st = fin (b_is_history_row [some a0, none, none, none, none, none, none] st) := rfl

/-! ### is_history -/
abbrev s_is_history : Stmt := topS 11
theorem sc_is_history : FnScope ["thing", "written", "row"] ["thing"] (defScope s_is_history) := ⟨rfl, rfl, rfl, by decide +kernel, rfl, by decide +kernel, by decide +kernel⟩

noncomputable def b_is_history : MS := (sSeq (sIf (mOrT (mNotT (mTest (mCB oIsi (mCons (mVar 0) (mCons (mC (.ty "list")) mNil))))) (mTest (mOp oGt (mCB oLen (mCons (mVar 0) mNil)) (mC (.int 60)))))
 (sRet (mC (.bl false)))
 sNext)
 (sSeq (sIf (mNotT (mTest (mCB (oAll fun bs => bs.all id) (mCons (mLc (miL (mVar 0)) (mgName 2) mYes (mCall 1 m_is_history_row (mCons (mVar 2) mNil)) [2]) mNil))))
 (sRet (mC (.bl false)))
 sNext)
 (sSeq (sAsg (mLc (miL (mVar 0)) (mgName 2) (mTest (mOp oEqX (mOp oIxD (mVar 2) (mC (.int 1))) (mC (.str "write")))) (mOp oIxD (mVar 2) (mC (.int 2))) [2]) (mgName 1))
 (sSeq (sIf (mOrT (mNotT (mTest (mCall 1 m_are_unlike (mCons (mVar 1) mNil)))) (mNotT (mTest (mCall 1 m_are_unlike (mCons (mLc (miL (mVar 0)) (mgName 2) mYes (mOp oIxD (mVar 2) (mC (.int 0))) [2]) mNil)))))
 (sRet (mC (.bl false)))
 sNext)
 (sRet (mCB (oAll fun bs => bs.all id) (mCons (mLc (miL (mVar 0)) (mgName 2) mYes (mOr (mOp oEqX (mOp oIxD (mVar 2) (mC (.int 2))) (mC (.int 0))) (mOp oInX (mOp oIxD (mVar 2) (mC (.int 2))) (mVar 1))) [2]) mNil)))))))
noncomputable def m_is_history : List A → Sto → Res A := runB 3 b_is_history
theorem ok_is_history {f : Addr} {fd : FuncData} (F : Fun K "is_history" "is_history" s_is_history f fd) (gm : mg "is_history" = some (.ref f)) (N : Fre K mg) (c_are_unlike : C8.Cal P w K mg base 1 "are_unlike" (spN K w 1 m_are_unlike) []) (c_is_history_row : C8.Cal P w K mg base 3 "is_history_row" (spN K w 1 m_is_history_row) []) : C8.Cal P w K mg base 4 "is_history" (spN K w 1 m_is_history) [] := by
  refine mkCal F gm sc_is_history (F.binds (ps := ["thing"]) fun _ _ _ _ _ _ us hl => match us, hl with | [_], _ => rfl) (fun vs H Q E h => ?_) (fun cdv A outer s H vs Q E hr h => ?_)
  · obtain ⟨_, _, _, hl, _⟩ := h
    exact hl
  · refine ⟨_, (pss_cons (ps_if (PW.pt (pw_or (pt_not (pt_val (pe_callB (show CallR _ _ (rIsi K) from call_isi) (by rfl) N.isinstance (by decide +kernel) (pa_cons (pv 0) (pa_cons (pe_bltn (v := .ty "list") (u := .type "list") rfl N.list (by decide +kernel) rfl) pa_nil))))) (pw_or1 (pt_cmpR (show OpR _ _ rGtD from dGt) (pe_callB (show CallR _ _ (rLenAny K) from call_lenAny) (by rfl) N.len (by decide +kernel) (pa_cons (pv 0) pa_nil)) (let ⟨_, h⟩ := N.c_MOST_TASKS; pe_glob (v := (.int 60)) rfl h ⟨_, rfl⟩) (nomark _)))))
 (pss_one (ps_ret pe_bl))
 pss_nil)
 (pss_cons (ps_if (pt_not (pt_val (pe_callB (show CallR _ _ (rAll K) from (cr_all rfl)) (by rfl) N.all (by decide +kernel) (pa_cons (pe_lc (own := [("row", 2)]) (g := gName 2) (tt := tYes) rfl sc_is_history.nd (pi_list (pv 0)) (blkOk_by (N := ["thing", "written", "row"]) (sc := defScope s_is_history) (by decide +kernel)) (fun _ _ _ _ _ => pg_name (i := 2) sc_is_history.nd rfl (Or.inl rfl)) (fun _ _ _ _ _ => pts_nil) (fun _ _ _ _ _ => (C8.pe_c c_is_history_row hr (by decide) rfl (pa_cons (pv 2) pa_nil)))) pa_nil))))
 (pss_one (ps_ret pe_bl))
 pss_nil)
 (pss_cons (ps_set (i := 1) sc_is_history.nd rfl (.inr rfl) (pe_lc (own := [("row", 2)]) (g := gName 2) rfl sc_is_history.nd (pi_list (pv 0)) (blkOk_by (N := ["thing", "written", "row"]) (sc := defScope s_is_history) (by decide +kernel)) (fun _ _ _ _ _ => pg_name (i := 2) sc_is_history.nd rfl (Or.inl rfl)) (fun _ _ _ _ _ => pts_one (pt_cmpR (show OpR _ _ (rEqX K) from (dEqX hr.units)) (pe_ix (show IxR _ (rIxAny K) from dIx) (pv 2) pe_int (fun _ _ => rfl)) pe_str (nomark _))) (fun _ _ _ _ _ => (pe_ix (show IxR _ (rIxAny K) from dIx) (pv 2) pe_int (fun _ _ => rfl)))))
 (pss_cons (ps_if (PW.pt (pw_or (pt_not (pt_val (C8.pe_c c_are_unlike hr (by decide) rfl (pa_cons (pv 1) pa_nil)))) (pw_or1 (pt_not (pt_val (C8.pe_c c_are_unlike hr (by decide) rfl (pa_cons (pe_lc (own := [("row", 2)]) (g := gName 2) (tt := tYes) rfl sc_is_history.nd (pi_list (pv 0)) (blkOk_by (N := ["thing", "written", "row"]) (sc := defScope s_is_history) (by decide +kernel)) (fun _ _ _ _ _ => pg_name (i := 2) sc_is_history.nd rfl (Or.inl rfl)) (fun _ _ _ _ _ => pts_nil) (fun _ _ _ _ _ => (pe_ix (show IxR _ (rIxAny K) from dIx) (pv 2) pe_int (fun _ _ => rfl)))) pa_nil)))))))
 (pss_one (ps_ret pe_bl))
 pss_nil)
 (pss_one (ps_ret (pe_callB (show CallR _ _ (rAll K) from (cr_all rfl)) (by rfl) N.all (by decide +kernel) (pa_cons (pe_lc (own := [("row", 2)]) (g := gName 2) (tt := tYes) rfl sc_is_history.nd (pi_list (pv 0)) (blkOk_by (N := ["thing", "written", "row"]) (sc := defScope s_is_history) (by decide +kernel)) (fun _ _ _ _ _ => pg_name (i := 2) sc_is_history.nd rfl (Or.inl rfl)) (fun _ _ _ _ _ => pts_nil) (fun _ _ _ _ _ => (pe_or (pe_cmpR (show OpR _ _ (rEqX K) from (dEqX hr.units)) (pe_ix (show IxR _ (rIxAny K) from dIx) (pv 2) pe_int (fun _ _ => rfl)) pe_int (nomark _)) (pe_one (pe_cmpR (show OpR _ _ (rInX K) from (dInX (hu65 hr))) (pe_ix (show IxR _ (rIxAny K) from dIx) (pv 2) pe_int (fun _ _ => rfl)) (pv 1) (by with_unfolding_all rfl)))))) pa_nil)))))))), ?_⟩
    exact spN_body (b := b_is_history) (show RS K w WF _ b_is_history from (rs_seq (rs_if (rt_or (rt_not (rt_val (re_cb rl_isi (ra_cons (re_var (i := 0)) (ra_cons (re_c fun _ _ => .ty _) ra_nil))))) (rt_test (re_op r2_gt (re_cb rl_len (ra_cons (re_var (i := 0)) ra_nil)) re_int)))
 (rs_ret re_bl)
 rs_next)
 (rs_seq (rs_if (rt_not (rt_val (re_cb rl_all (ra_cons (re_lc (ri_list (re_var (i := 0))) (rg_name (i := 2) (vs := [2]) (by decide)) rt_yes (re_call (ra_cons (re_var (i := 2)) ra_nil))) ra_nil))))
 (rs_ret re_bl)
 rs_next)
 (rs_seq (rs_asg (re_lc (ri_list (re_var (i := 0))) (rg_name (i := 2) (vs := [2]) (by decide)) (rt_test (re_op r2_eqX (re_op r2_ixD (re_var (i := 2)) re_int) re_str)) (re_op r2_ixD (re_var (i := 2)) re_int)) (rg_name (i := 1) (vs := [1]) (by decide)))
 (rs_seq (rs_if (rt_or (rt_not (rt_val (re_call (ra_cons (re_var (i := 1)) ra_nil)))) (rt_not (rt_val (re_call (ra_cons (re_lc (ri_list (re_var (i := 0))) (rg_name (i := 2) (vs := [2]) (by decide)) rt_yes (re_op r2_ixD (re_var (i := 2)) re_int)) ra_nil)))))
 (rs_ret re_bl)
 rs_next)
 (rs_ret (re_cb rl_all (ra_cons (re_lc (ri_list (re_var (i := 0))) (rg_name (i := 2) (vs := [2]) (by decide)) rt_yes (re_or (re_op r2_eqX (re_op r2_ixD (re_var (i := 2)) re_int) re_int) (re_op r2_inX (re_op r2_ixD (re_var (i := 2)) re_int) (re_var (i := 1))))) ra_nil)))))))) h
theorem st_is_history (a0 : A) (st : Sto) : m_is_history [a0] st = fin (b_is_history [some a0, none, none] st) := rfl

/-! ### _law_of -/
abbrev s__law_of : Stmt := topS 29
theorem sc__law_of : FnScope ["bag", "some"] ["bag", "some"] (defScope s__law_of) := ⟨rfl, rfl, rfl, by decide +kernel, rfl, by decide +kernel, by decide +kernel⟩

noncomputable def b__law_of : MS := (sRet (mOp oIxD (mVar 1) (mCall 2 m__law_take (mCons (mVar 0) (mCons (mCB oLen (mCons (mVar 1) mNil)) mNil)))))
noncomputable def m__law_of : List A → Sto → Res A := runB 2 b__law_of
theorem ok__law_of {f : Addr} {fd : FuncData} (F : Fun K "_law_of" "_law_of" s__law_of f fd) (gm : mg "_law_of" = some (.ref f)) (N : Fre K mg) (c__law_take : C8.Cal P w K mg base 1 "_law_take" (spN K w 2 m__law_take) []) : C8.Cal P w K mg base 2 "_law_of" (spN K w 2 m__law_of) [] := by
  refine mkCal F gm sc__law_of (F.binds (ps := ["bag", "some"]) fun _ _ _ _ _ _ us hl => match us, hl with | [_, _], _ => rfl) (fun vs H Q E h => ?_) (fun cdv A outer s H vs Q E hr h => ?_)
  · obtain ⟨_, _, _, hl, _⟩ := h
    exact hl
  · refine ⟨_, (pss_one (ps_ret (pe_ix (show IxR _ (rIxAny K) from dIx) (pv 1) (C8.pe_c c__law_take hr (by decide) rfl (pa_cons (pv 0) (pa_cons (pe_callB (show CallR _ _ (rLenAny K) from call_lenAny) (by rfl) N.len (by decide +kernel) (pa_cons (pv 1) pa_nil)) pa_nil))) (fun _ _ => rfl)))), ?_⟩
    exact spN_body (b := b__law_of) (show RS K w WF _ b__law_of from (rs_ret (re_op r2_ixD (re_var (i := 1)) (re_call (ra_cons (re_var (i := 0)) (ra_cons (re_cb rl_len (ra_cons (re_var (i := 1)) ra_nil)) ra_nil)))))) h
theorem st__law_of (a0 a1 : A) (st : Sto) : m__law_of [a0, a1] st = fin (b__law_of [some a0, some a1] st) := rfl

/-! ### _law_in_row -/
abbrev s__law_in_row : Stmt := topS 31
theorem sc__law_in_row : FnScope ["bag", "many", "rows", "last", "wide", "turn", "start", "end", "kind"] ["bag", "many"] (defScope s__law_in_row) := ⟨rfl, rfl, rfl, by decide +kernel, rfl, by decide +kernel, by decide +kernel⟩
noncomputable def lb__law_in_row_1 : MS := (sSeq (sAsg (mCB oMax2 (mCons (mC (.int 0)) (mCons (mOp oSubX (mOp oSubX (mOp oAddX (mC (.int 1000)) (mOp oMulX (mC (.int 10)) (mVar 5))) (mC (.int 1))) (mCall 2 m__law_take (mCons (mVar 0) (mCons (mVar 4) mNil)))) mNil))) (mgName 6))
 (sSeq (sAsg (mOp oAddX (mOp oAddX (mOp oAddX (mC (.int 1000)) (mOp oMulX (mC (.int 10)) (mVar 5))) (mC (.int 1))) (mCall 2 m__law_take (mCons (mVar 0) (mCons (mVar 4) mNil)))) (mgName 7))
 (sSeq (sAsg (mC (.str "read")) (mgName 8))
 (sSeq (sIf (mTest (mOp oGt (mCall 2 m__law_take (mCons (mVar 0) (mCons (mC (.int 3)) mNil))) (mC (.int 0))))
 (sSeq (sAsg (mC (.str "write")) (mgName 8))
 (sAsg (mOp oAddX (mC (.int 1)) (mOp oMod (mOp oAddX (mOp oMulX (mVar 5) (mC (.int 100))) (mC (.int 7))) (mC (.int 999)))) (mgName 3)))
 sNext)
 (sDrop (mMeth oInsert (mVar 2) (mCons (mCall 2 m__law_take (mCons (mVar 0) (mCons (mOp oAddX (mCB oLen (mCons (mVar 2) mNil)) (mC (.int 1))) mNil))) (mCons (mTup (mCons (mVar 5) (mCons (mVar 8) (mCons (mVar 3) (mCons (mVar 6) (mCons (mVar 7) mNil)))))) mNil))))))))
noncomputable def b__law_in_row : MS := (sSeq (sAsg (mLst mNil) (mgName 2))
 (sSeq (sAsg (mC (.int 0)) (mgName 3))
 (sSeq (sAsg (mOp oIxD (mLst (mCons (mC (.int 4)) (mCons (mC (.int 30)) (mCons (mC (.int 300)) mNil)))) (mCall 2 m__law_take (mCons (mVar 0) (mCons (mC (.int 3)) mNil)))) (mgName 4))
 (sSeq (sFor (miR1 (mCons (mVar 1) mNil)) (mgName 5)
 lb__law_in_row_1)
 (sRet (mVar 2))))))
noncomputable def m__law_in_row : List A → Sto → Res A := runB 9 b__law_in_row
theorem ok__law_in_row {f : Addr} {fd : FuncData} (F : Fun K "_law_in_row" "_law_in_row" s__law_in_row f fd) (gm : mg "_law_in_row" = some (.ref f)) (N : Fre K mg) (c__law_take : C8.Cal P w K mg base 1 "_law_take" (spN K w 2 m__law_take) []) : C8.Cal P w K mg base 2 "_law_in_row" (spN K w 2 m__law_in_row) [] := by
  refine mkCal F gm sc__law_in_row (F.binds (ps := ["bag", "many"]) fun _ _ _ _ _ _ us hl => match us, hl with | [_, _], _ => rfl) (fun vs H Q E h => ?_) (fun cdv A outer s H vs Q E hr h => ?_)
  · obtain ⟨_, _, _, hl, _⟩ := h
    exact hl
  · refine ⟨_, (pss_cons (ps_set (i := 2) sc__law_in_row.nd rfl (.inl rfl) (pe_lst pa_nil))
 (pss_cons (ps_set (i := 3) sc__law_in_row.nd rfl (.inl rfl) pe_int)
 (pss_cons (ps_set (i := 4) sc__law_in_row.nd rfl (.inl rfl) (pe_ix (show IxR _ (rIxAny K) from dIx) (pe_lst (pa_cons pe_int (pa_cons pe_int (pa_cons pe_int pa_nil)))) (C8.pe_c c__law_take hr (by decide) rfl (pa_cons (pv 0) (pa_cons pe_int pa_nil))) (fun _ _ => rfl)))
 (pss_cons (ps_for PassesOwn.never rfl (pi_range1 (by rfl) N.range (pa_cons (pv 1) pa_nil)) (pg_name (i := 5) sc__law_in_row.nd rfl (.inl rfl))
 (pss_cons (ps_set (i := 6) sc__law_in_row.nd rfl (.inl rfl) (pe_callB (call_max2 rfl) (by rfl) N.max (by decide +kernel) (pa_cons pe_int (pa_cons (pe_op (show OpR _ _ rSubX from dSubX) (pe_op (show OpR _ _ rSubX from dSubX) (pe_op (show OpR _ _ (rAddX K) from dAddX) pe_int (pe_op (show OpR _ _ rMulX from dMulX) pe_int (pv 5))) pe_int) (C8.pe_c c__law_take hr (by decide) rfl (pa_cons (pv 0) (pa_cons (pv 4) pa_nil)))) pa_nil))))
 (pss_cons (ps_set (i := 7) sc__law_in_row.nd rfl (.inl rfl) (pe_op (show OpR _ _ (rAddX K) from dAddX) (pe_op (show OpR _ _ (rAddX K) from dAddX) (pe_op (show OpR _ _ (rAddX K) from dAddX) pe_int (pe_op (show OpR _ _ rMulX from dMulX) pe_int (pv 5))) pe_int) (C8.pe_c c__law_take hr (by decide) rfl (pa_cons (pv 0) (pa_cons (pv 4) pa_nil)))))
 (pss_cons (ps_set (i := 8) sc__law_in_row.nd rfl (.inl rfl) pe_str)
 (pss_cons (ps_if (pt_cmpR (show OpR _ _ rGtD from dGt) (C8.pe_c c__law_take hr (by decide) rfl (pa_cons (pv 0) (pa_cons pe_int pa_nil))) pe_int (nomark _))
 (pss_cons (ps_set (i := 8) sc__law_in_row.nd rfl (.inl rfl) pe_str)
 (pss_one (ps_set (i := 3) sc__law_in_row.nd rfl (.inl rfl) (pe_op (show OpR _ _ (rAddX K) from dAddX) pe_int (pe_op (show OpR _ _ rModD from dMod) (pe_op (show OpR _ _ (rAddX K) from dAddX) (pe_op (show OpR _ _ rMulX from dMulX) (pv 5) pe_int) pe_int) pe_int)))))
 pss_nil)
 (pss_one (ps_expr (pe_bm PySem.F.plainAttrs_list PySem.F.slot_list_insert PySem.F.type_list_insert mt_insert (pv 2) (pa_cons (C8.pe_c c__law_take hr (by decide) rfl (pa_cons (pv 0) (pa_cons (pe_op (show OpR _ _ (rAddX K) from dAddX) (pe_callB (show CallR _ _ (rLenAny K) from call_lenAny) (by rfl) N.len (by decide +kernel) (pa_cons (pv 2) pa_nil)) pe_int) pa_nil))) (pa_cons (pe_tup (pa_cons (pv 5) (pa_cons (pv 8) (pa_cons (pv 3) (pa_cons (pv 6) (pa_cons (pv 7) pa_nil)))))) pa_nil))))))))))
 (pss_one (ps_ret (pv 2))))))), ?_⟩
    exact spN_body (b := b__law_in_row) (show RS K w WF _ b__law_in_row from (rs_seq (rs_asg (re_lst ra_nil) (rg_name (i := 2) (vs := [2]) (by decide)))
 (rs_seq (rs_asg re_int (rg_name (i := 3) (vs := [3]) (by decide)))
 (rs_seq (rs_asg (re_op r2_ixD (re_lst (ra_cons re_int (ra_cons re_int (ra_cons re_int ra_nil)))) (re_call (ra_cons (re_var (i := 0)) (ra_cons re_int ra_nil)))) (rg_name (i := 4) (vs := [4]) (by decide)))
 (rs_seq (rs_for (ri_range1 (ra_cons (re_var (i := 1)) ra_nil)) (rg_name (i := 5) (vs := [5]) (by decide))
 (rs_seq (rs_asg (re_cb rl_max2 (ra_cons re_int (ra_cons (re_op r2_subX (re_op r2_subX (re_op r2_addX re_int (re_op r2_mulX re_int (re_var (i := 5)))) re_int) (re_call (ra_cons (re_var (i := 0)) (ra_cons (re_var (i := 4)) ra_nil)))) ra_nil))) (rg_name (i := 6) (vs := [6]) (by decide)))
 (rs_seq (rs_asg (re_op r2_addX (re_op r2_addX (re_op r2_addX re_int (re_op r2_mulX re_int (re_var (i := 5)))) re_int) (re_call (ra_cons (re_var (i := 0)) (ra_cons (re_var (i := 4)) ra_nil)))) (rg_name (i := 7) (vs := [7]) (by decide)))
 (rs_seq (rs_asg re_str (rg_name (i := 8) (vs := [8]) (by decide)))
 (rs_seq (rs_if (rt_test (re_op r2_gt (re_call (ra_cons (re_var (i := 0)) (ra_cons re_int ra_nil))) re_int))
 (rs_seq (rs_asg re_str (rg_name (i := 8) (vs := [8]) (by decide)))
 (rs_asg (re_op r2_addX re_int (re_op r2_mod (re_op r2_addX (re_op r2_mulX (re_var (i := 5)) re_int) re_int) re_int)) (rg_name (i := 3) (vs := [3]) (by decide))))
 rs_next)
 (rs_drop (re_meth rm_insert (re_var (i := 2)) (ra_cons (re_call (ra_cons (re_var (i := 0)) (ra_cons (re_op r2_addX (re_cb rl_len (ra_cons (re_var (i := 2)) ra_nil)) re_int) ra_nil))) (ra_cons (re_tup (ra_cons (re_var (i := 5)) (ra_cons (re_var (i := 8)) (ra_cons (re_var (i := 3)) (ra_cons (re_var (i := 6)) (ra_cons (re_var (i := 7)) ra_nil)))))) ra_nil)))))))))
 (rs_ret (re_var (i := 2)))))))) h
theorem st__law_in_row (a0 a1 : A) (st : Sto) : m__law_in_row [a0, a1] st = fin (b__law_in_row [some a0, some a1, none, none, none, none, none, none, none] st) := rfl

/-! ### the law -/
abbrev s_law : Stmt := topS 32
theorem sc_law : FnScope ["script", "k", "bag", "history", "later", "other", "again", "rows", "told", "reads", "read", "write", "row"] ["script"] (defScope s_law) := ⟨rfl, rfl, rfl, by decide +kernel, rfl, by decide +kernel, by decide +kernel⟩
noncomputable def lb_law_1 : MS := (sSeq (sIf (mNotT (mTest (mCall 1 m_is_history (mCons (mVar 7) mNil))))
 (sRet (mC (.bl false)))
 sNext)
 (sSeq (sAsg (mCall 1 m_ordered (mCons (mVar 7) mNil)) (mgName 8))
 (sIf (mOrT (mTest (mOp oNeX (mOp oIxD (mVar 8) (mC (.int 0))) (mC (.str "order")))) (mOrT (mNotT (mTest (mCall 2 m__law_order_right (mCons (mVar 7) (mCons (mOp oIxD (mVar 8) (mC (.int 1))) mNil))))) (mNotT (mTest (mCall 2 m_is_order (mCons (mVar 7) (mCons (mOp oIxD (mVar 8) (mC (.int 1))) mNil)))))))
 (sRet (mC (.bl false)))
 sNext)))
noncomputable def lb_law_2 : MS := (sSeq (sAsg (mCall 2 m__law_bag (mCons (mVar 0) (mCons (mVar 1) mNil))) (mgName 2))
 (sSeq (sAsg (mCall 2 m__law_in_row (mCons (mVar 2) (mCons (mOp oIxD (mLst (mCons (mC (.int 5)) (mCons (mC (.int 12)) (mCons (mC (.int 30)) (mCons (mC (.int 60)) mNil))))) (mCall 2 m__law_take (mCons (mVar 2) (mCons (mC (.int 4)) mNil)))) mNil))) (mgName 3))
 (sSeq (sAsg (mOp oAddX (mC (.int 1)) (mCall 2 m__law_take (mCons (mVar 2) (mCons (mOp oPow (mC (.int 10)) (mC (.int 5))) mNil)))) (mgName 4))
 (sSeq (sAsg (mLc (miL (mVar 3)) (mgName 12) mYes (mOp oAddX (mSl oSl (mVar 12) mNoPart (mPart (mC (.int 3)))) (mTup (mCons (mOp oAddX (mOp oIxD (mVar 12) (mC (.int 3))) (mVar 4)) (mCons (mOp oAddX (mOp oIxD (mVar 12) (mC (.int 4))) (mVar 4)) mNil)))) [12]) (mgName 5))
 (sSeq (sAsg (mLc (miL (mVar 3)) (mgName 12) (mTest (mOp oNeX (mOp oIxD (mVar 12) (mC (.int 2))) (mC (.int 999)))) (mOp oAddX (mOp oAddX (mSl oSl (mVar 12) mNoPart (mPart (mC (.int 2)))) (mTup (mCons (mOp oMod (mOp oMulX (mOp oIxD (mVar 12) (mC (.int 2))) (mC (.int 500))) (mC (.int 999))) mNil))) (mSl oSl (mVar 12) (mPart (mC (.int 3))) mNoPart)) [12]) (mgName 6))
 (sSeq (sFor (miL (mLst (mCons (mVar 3) (mCons (mVar 5) (mCons (mVar 6) mNil))))) (mgName 7)
 lb_law_1)
 (sSeq (sAsg (mLc (miL (mVar 3)) (mgName 12) (mAndT (mTest (mOp oEqX (mOp oIxD (mVar 12) (mC (.int 1))) (mC (.str "read")))) (mTest (mOp oNeX (mOp oIxD (mVar 12) (mC (.int 2))) (mC (.int 0))))) (mVar 12) [12]) (mgName 9))
 (sIf (mTest (mOp oNeX (mVar 9) (mLst mNil)))
 (sSeq (sAsg (mCall 2 m__law_of (mCons (mVar 2) (mCons (mVar 9) mNil))) (mgName 10))
 (sSeq (sAsg (mOp oIxD (mLc (miL (mVar 3)) (mgName 12) (mAndT (mTest (mOp oEqX (mOp oIxD (mVar 12) (mC (.int 1))) (mC (.str "write")))) (mTest (mOp oEqX (mOp oIxD (mVar 12) (mC (.int 2))) (mOp oIxD (mVar 10) (mC (.int 2)))))) (mVar 12) [12]) (mC (.int 0))) (mgName 11))
 (sSeq (sAsg (mOp oAddX (mLc (miL (mVar 3)) (mgName 12) (mTest (mOp oNeX (mVar 12) (mVar 10))) (mVar 12) [12]) (mLst (mCons (mOp oAddX (mSl oSl (mVar 10) mNoPart (mPart (mC (.int 3)))) (mTup (mCons (mC (.int 0)) (mCons (mOp oSubX (mOp oIxD (mVar 11) (mC (.int 3))) (mC (.int 1))) mNil)))) mNil))) (mgName 7))
 (sIf (mOrT (mTest (mOp oNeX (mCall 1 m_ordered (mCons (mVar 7) mNil)) (mTup (mCons (mC (.str "early")) (mCons (mOp oIxD (mVar 10) (mC (.int 0))) (mCons (mOp oIxD (mVar 11) (mC (.int 0))) mNil)))))) (mNotT (mTest (mCall 2 m_shows_none (mCons (mVar 7) (mCons (mTup (mCons (mC (.str "early")) (mCons (mOp oIxD (mVar 10) (mC (.int 0))) (mCons (mOp oIxD (mVar 11) (mC (.int 0))) mNil)))) mNil))))))
 (sRet (mC (.bl false)))
 sNext))))
 sNext))))))))
noncomputable def b_law : MS := (sSeq (sFor (miR1 (mCons (mOp oAddX (mC (.int 1)) (mCB oMin2 (mCons (mCB oLen (mCons (mVar 0) mNil)) (mCons (mC (.int 4)) mNil)))) mNil)) (mgName 1)
 lb_law_2)
 (sRet (mC (.bl true))))
noncomputable def m_law : List A → Sto → Res A := runB 13 b_law
theorem st_law (a0 : A) (st : Sto) : m_law [a0] st = fin (b_law [some a0, none, none, none, none, none, none, none, none, none, none, none, none] st) := rfl
def splaw (K : PySem.W.Frag) : Sp := fun vs H Q _ => ∃ (a : Addr) (ns : List Int), vs = [.ref a] ∧ Only H ∧ SqL K H a (ns.map V.int) ∧ ns.length ≤ 63 ∧ ∀ H', Q (.bl true) H'
theorem law_start {w : World} {H : Hp} {a : Addr} {ns : List Int} {Q : VK} {E : XK} (ho : Only H) (hS : SqL K H a (ns.map V.int)) (h : ∃ st, m_law [.lit (ns.map A.int)] [] = .ok (.bl true) st) (q : ∀ H', Q (.bl true) H') : spN K w 1 m_law [.ref a] H Q E := by
  obtain ⟨st, e⟩ := h
  have hl : (∃ o, H a = some (.frz o (.lst (ns.map V.int)))) ∨ SqL K (fun _ => none) a (ns.map V.int) := by
    rcases hS with (h | ⟨o, h⟩) | h
    · rcases ho a with z | ⟨o, xs, z⟩
      · rw [z] at h
        cases h
      · rw [z] at h
        cases h
    · exact .inl ⟨o, h⟩
    · exact .inr (.inr h)
  refine ⟨[], [], [.lit (ns.map A.int)], rfl, ⟨rfl, List.nodup_nil, fun n a o h => by simp at h⟩, .cons (.lit hl (Rvs.ints ns)) .nil, ?_⟩
  show Post K w [] H (noX (m_law [.lit (ns.map A.int)] [])) _ _
  rw [e]
  exact fun ρ' H' e' r' v hv => by
    cases hv
    exact q H'
theorem ok_law_of (lt : ∀ ns : List Int, ns.length ≤ 63 → ∃ st, m_law [.lit (ns.map A.int)] [] = .ok (.bl true) st) {f : Addr} {fd : FuncData} (F : Fun K "law" "law" s_law f fd) (N : Fre K mg) (c__law_bag : C8.Cal P w K mg base 1 "_law_bag" (spN K w 2 m__law_bag) []) (c__law_in_row : C8.Cal P w K mg base 2 "_law_in_row" (spN K w 2 m__law_in_row) []) (c__law_of : C8.Cal P w K mg base 2 "_law_of" (spN K w 2 m__law_of) []) (c__law_order_right : C8.Cal P w K mg base 1 "_law_order_right" (spN K w 2 m__law_order_right) []) (c__law_take : C8.Cal P w K mg base 1 "_law_take" (spN K w 2 m__law_take) []) (c_is_history : C8.Cal P w K mg base 4 "is_history" (spN K w 1 m_is_history) []) (c_is_order : C8.Cal P w K mg base 2 "is_order" (spN K w 2 m_is_order) []) (c_ordered : C8.Cal P w K mg base 4 "ordered" (spN K w 1 m_ordered) []) (c_shows_none : C8.Cal P w K mg base 4 "shows_none" (spN K w 2 m_shows_none) []) : FnOk P w K mg base CX0 5 f fd ["script"] (splaw K) := by
  refine F.ok sc_law (fun vs H Q E h => ?_) (fun cdv A outer s H vs Q E hr h => ?_)
  · obtain ⟨a, ns, rfl, _⟩ := h
    rfl
  · obtain ⟨a, ns, rfl, ho, hS, hlen, q⟩ := h
    refine ⟨_, (pss_cons (ps_for PassesOwn.never rfl (pi_range1 (by rfl) N.range (pa_cons (pe_op (show OpR _ _ (rAddX K) from dAddX) pe_int (pe_callB (call_min2 rfl) (by rfl) N.min (by decide +kernel) (pa_cons (pe_callB (show CallR _ _ (rLenAny K) from call_lenAny) (by rfl) N.len (by decide +kernel) (pa_cons (pv 0) pa_nil)) (pa_cons pe_int pa_nil)))) pa_nil)) (pg_name (i := 1) sc_law.nd rfl (.inl rfl))
 (pss_cons (ps_set (i := 2) sc_law.nd rfl (.inl rfl) (C8.pe_c c__law_bag hr (by decide) rfl (pa_cons (pv 0) (pa_cons (pv 1) pa_nil))))
 (pss_cons (ps_set (i := 3) sc_law.nd rfl (.inl rfl) (C8.pe_c c__law_in_row hr (by decide) rfl (pa_cons (pv 2) (pa_cons (pe_ix (show IxR _ (rIxAny K) from dIx) (pe_lst (pa_cons pe_int (pa_cons pe_int (pa_cons pe_int (pa_cons pe_int pa_nil))))) (C8.pe_c c__law_take hr (by decide) rfl (pa_cons (pv 2) (pa_cons pe_int pa_nil))) (fun _ _ => rfl)) pa_nil))))
 (pss_cons (ps_set (i := 4) sc_law.nd rfl (.inr rfl) (pe_op (show OpR _ _ (rAddX K) from dAddX) pe_int (C8.pe_c c__law_take hr (by decide) rfl (pa_cons (pv 2) (pa_cons (pe_op (show OpR _ _ rPowD from dPow) pe_int pe_int) pa_nil)))))
 (pss_cons (ps_setLc (i := 5) (own := [("row", 12)]) (g := gName 12) (tt := tYes) rfl sc_law.nd rfl rfl (sw_true rfl rfl rfl (by decide +kernel)) (pi_list (pv 3)) (blkOk_by (N := ["script", "k", "bag", "history", "later", "other", "again", "rows", "told", "reads", "read", "write", "row"]) (sc := defScope s_law) (by decide +kernel)) (fun _ _ _ _ _ => pg_name (i := 12) sc_law.nd rfl (Or.inl rfl)) (fun _ _ _ _ _ => pts_nil) (fun _ _ _ _ _ => (pe_op (show OpR _ _ (rAddX K) from dAddX) (pe_slice (show SlR _ (rSlAny K) from sl_any) (pv 12) po_none (po_some pe_int)) (pe_tup (pa_cons (pe_op (show OpR _ _ (rAddX K) from dAddX) (pe_ix (show IxR _ (rIxAny K) from dIx) (pv 12) pe_int (fun _ _ => rfl)) (pv 4)) (pa_cons (pe_op (show OpR _ _ (rAddX K) from dAddX) (pe_ix (show IxR _ (rIxAny K) from dIx) (pv 12) pe_int (fun _ _ => rfl)) (pv 4)) pa_nil))))))
 (pss_cons (ps_setLc (i := 6) (own := [("row", 12)]) (g := gName 12) rfl sc_law.nd rfl rfl (sw_true rfl rfl rfl (by decide +kernel)) (pi_list (pv 3)) (blkOk_by (N := ["script", "k", "bag", "history", "later", "other", "again", "rows", "told", "reads", "read", "write", "row"]) (sc := defScope s_law) (by decide +kernel)) (fun _ _ _ _ _ => pg_name (i := 12) sc_law.nd rfl (Or.inl rfl)) (fun _ _ _ _ _ => pts_one (pt_cmpR (show OpR _ _ (rNeX K) from (dNeX hr.units)) (pe_ix (show IxR _ (rIxAny K) from dIx) (pv 12) pe_int (fun _ _ => rfl)) pe_int (nomark _))) (fun _ _ _ _ _ => (pe_op (show OpR _ _ (rAddX K) from dAddX) (pe_op (show OpR _ _ (rAddX K) from dAddX) (pe_slice (show SlR _ (rSlAny K) from sl_any) (pv 12) po_none (po_some pe_int)) (pe_tup (pa_cons (pe_op (show OpR _ _ rModD from dMod) (pe_op (show OpR _ _ rMulX from dMulX) (pe_ix (show IxR _ (rIxAny K) from dIx) (pv 12) pe_int (fun _ _ => rfl)) pe_int) pe_int) pa_nil))) (pe_slice (show SlR _ (rSlAny K) from sl_any) (pv 12) (po_some pe_int) po_none))))
 (pss_cons (ps_for PassesOwn.never rfl (pi_list (pe_lst (pa_cons (pv 3) (pa_cons (pv 5) (pa_cons (pv 6) pa_nil))))) (pg_name (i := 7) sc_law.nd rfl (.inl rfl))
 (pss_cons (ps_if (pt_not (pt_val (C8.pe_c c_is_history hr (by decide) rfl (pa_cons (pv 7) pa_nil))))
 (pss_one (ps_ret pe_bl))
 pss_nil)
 (pss_cons (ps_set (i := 8) sc_law.nd rfl (.inl rfl) (C8.pe_c c_ordered hr (by decide) rfl (pa_cons (pv 7) pa_nil)))
 (pss_one (ps_if (PW.pt (pw_or (pt_cmpR (show OpR _ _ (rNeX K) from (dNeX hr.units)) (pe_ix (show IxR _ (rIxAny K) from dIx) (pv 8) pe_int (fun _ _ => rfl)) pe_str (nomark _)) (pw_or (pt_not (pt_val (C8.pe_c c__law_order_right hr (by decide) rfl (pa_cons (pv 7) (pa_cons (pe_ix (show IxR _ (rIxAny K) from dIx) (pv 8) pe_int (fun _ _ => rfl)) pa_nil))))) (pw_or1 (pt_not (pt_val (C8.pe_c c_is_order hr (by decide) rfl (pa_cons (pv 7) (pa_cons (pe_ix (show IxR _ (rIxAny K) from dIx) (pv 8) pe_int (fun _ _ => rfl)) pa_nil)))))))))
 (pss_one (ps_ret pe_bl))
 pss_nil)))))
 (pss_cons (ps_setLc (i := 9) (own := [("row", 12)]) (g := gName 12) rfl sc_law.nd rfl rfl (sw_true rfl rfl rfl (by decide +kernel)) (pi_list (pv 3)) (blkOk_by (N := ["script", "k", "bag", "history", "later", "other", "again", "rows", "told", "reads", "read", "write", "row"]) (sc := defScope s_law) (by decide +kernel)) (fun _ _ _ _ _ => pg_name (i := 12) sc_law.nd rfl (Or.inl rfl)) (fun _ _ _ _ _ => pts_one (PW.pt (pw_and (pt_cmpR (show OpR _ _ (rEqX K) from (dEqX hr.units)) (pe_ix (show IxR _ (rIxAny K) from dIx) (pv 12) pe_int (fun _ _ => rfl)) pe_str (nomark _)) (pw_and1 (pt_cmpR (show OpR _ _ (rNeX K) from (dNeX hr.units)) (pe_ix (show IxR _ (rIxAny K) from dIx) (pv 12) pe_int (fun _ _ => rfl)) pe_int (nomark _)))))) (fun _ _ _ _ _ => (pv 12)))
 (pss_one (ps_if (pt_cmpR (show OpR _ _ (rNeX K) from (dNeX hr.units)) (pv 9) (pe_lst pa_nil) (nomark _))
 (pss_cons (ps_set (i := 10) sc_law.nd rfl (.inr rfl) (C8.pe_c c__law_of hr (by decide) rfl (pa_cons (pv 2) (pa_cons (pv 9) pa_nil))))
 (pss_cons (ps_set (i := 11) sc_law.nd rfl (.inl rfl) (pe_ix (show IxR _ (rIxAny K) from dIx) (pe_lc (own := [("row", 12)]) (g := gName 12) rfl sc_law.nd (pi_list (pv 3)) (blkOk_by (N := ["script", "k", "bag", "history", "later", "other", "again", "rows", "told", "reads", "read", "write", "row"]) (sc := defScope s_law) (by decide +kernel)) (fun _ _ _ _ _ => pg_name (i := 12) sc_law.nd rfl (Or.inl rfl)) (fun _ _ _ _ _ => pts_one (PW.pt (pw_and (pt_cmpR (show OpR _ _ (rEqX K) from (dEqX hr.units)) (pe_ix (show IxR _ (rIxAny K) from dIx) (pv 12) pe_int (fun _ _ => rfl)) pe_str (nomark _)) (pw_and1 (pt_cmpR (show OpR _ _ (rEqX K) from (dEqX hr.units)) (pe_ix (show IxR _ (rIxAny K) from dIx) (pv 12) pe_int (fun _ _ => rfl)) (pe_ix (show IxR _ (rIxAny K) from dIx) (pv 10) pe_int (fun _ _ => rfl)) (nomark _)))))) (fun _ _ _ _ _ => (pv 12))) pe_int (fun _ _ => rfl)))
 (pss_cons (ps_set (i := 7) sc_law.nd rfl (.inl rfl) (pe_op (show OpR _ _ (rAddX K) from dAddX) (pe_lc (own := [("row", 12)]) (g := gName 12) rfl sc_law.nd (pi_list (pv 3)) (blkOk_by (N := ["script", "k", "bag", "history", "later", "other", "again", "rows", "told", "reads", "read", "write", "row"]) (sc := defScope s_law) (by decide +kernel)) (fun _ _ _ _ _ => pg_name (i := 12) sc_law.nd rfl (Or.inl rfl)) (fun _ _ _ _ _ => pts_one (pt_cmpR (show OpR _ _ (rNeX K) from (dNeX hr.units)) (pv 12) (pv 10) (nomark _))) (fun _ _ _ _ _ => (pv 12))) (pe_lst (pa_cons (pe_op (show OpR _ _ (rAddX K) from dAddX) (pe_slice (show SlR _ (rSlAny K) from sl_any) (pv 10) po_none (po_some pe_int)) (pe_tup (pa_cons pe_int (pa_cons (pe_op (show OpR _ _ rSubX from dSubX) (pe_ix (show IxR _ (rIxAny K) from dIx) (pv 11) pe_int (fun _ _ => rfl)) pe_int) pa_nil)))) pa_nil))))
 (pss_one (ps_if (PW.pt (pw_or (pt_cmpR (show OpR _ _ (rNeX K) from (dNeX hr.units)) (C8.pe_c c_ordered hr (by decide) rfl (pa_cons (pv 7) pa_nil)) (pe_tup (pa_cons pe_str (pa_cons (pe_ix (show IxR _ (rIxAny K) from dIx) (pv 10) pe_int (fun _ _ => rfl)) (pa_cons (pe_ix (show IxR _ (rIxAny K) from dIx) (pv 11) pe_int (fun _ _ => rfl)) pa_nil)))) (nomark _)) (pw_or1 (pt_not (pt_val (C8.pe_c c_shows_none hr (by decide) rfl (pa_cons (pv 7) (pa_cons (pe_tup (pa_cons pe_str (pa_cons (pe_ix (show IxR _ (rIxAny K) from dIx) (pv 10) pe_int (fun _ _ => rfl)) (pa_cons (pe_ix (show IxR _ (rIxAny K) from dIx) (pv 11) pe_int (fun _ _ => rfl)) pa_nil)))) pa_nil))))))))
 (pss_one (ps_ret pe_bl))
 pss_nil)))))
 pss_nil))))))))))
 (pss_one (ps_ret pe_bl))), ?_⟩
    exact spN_body (b := b_law) (show RS K w WF _ b_law from (rs_seq (rs_for (ri_range1 (ra_cons (re_op r2_addX re_int (re_cb rl_min2 (ra_cons (re_cb rl_len (ra_cons (re_var (i := 0)) ra_nil)) (ra_cons re_int ra_nil)))) ra_nil)) (rg_name (i := 1) (vs := [1]) (by decide))
 (rs_seq (rs_asg (re_call (ra_cons (re_var (i := 0)) (ra_cons (re_var (i := 1)) ra_nil))) (rg_name (i := 2) (vs := [2]) (by decide)))
 (rs_seq (rs_asg (re_call (ra_cons (re_var (i := 2)) (ra_cons (re_op r2_ixD (re_lst (ra_cons re_int (ra_cons re_int (ra_cons re_int (ra_cons re_int ra_nil))))) (re_call (ra_cons (re_var (i := 2)) (ra_cons re_int ra_nil)))) ra_nil))) (rg_name (i := 3) (vs := [3]) (by decide)))
 (rs_seq (rs_asg (re_op r2_addX re_int (re_call (ra_cons (re_var (i := 2)) (ra_cons (re_op r2_pow re_int re_int) ra_nil)))) (rg_name (i := 4) (vs := [4]) (by decide)))
 (rs_seq (rs_asg (re_lc (ri_list (re_var (i := 3))) (rg_name (i := 12) (vs := [12]) (by decide)) rt_yes (re_op r2_addX (re_sl rsl_any (re_var (i := 12)) ro_none (ro_some re_int)) (re_tup (ra_cons (re_op r2_addX (re_op r2_ixD (re_var (i := 12)) re_int) (re_var (i := 4))) (ra_cons (re_op r2_addX (re_op r2_ixD (re_var (i := 12)) re_int) (re_var (i := 4))) ra_nil))))) (rg_name (i := 5) (vs := [5]) (by decide)))
 (rs_seq (rs_asg (re_lc (ri_list (re_var (i := 3))) (rg_name (i := 12) (vs := [12]) (by decide)) (rt_test (re_op r2_neX (re_op r2_ixD (re_var (i := 12)) re_int) re_int)) (re_op r2_addX (re_op r2_addX (re_sl rsl_any (re_var (i := 12)) ro_none (ro_some re_int)) (re_tup (ra_cons (re_op r2_mod (re_op r2_mulX (re_op r2_ixD (re_var (i := 12)) re_int) re_int) re_int) ra_nil))) (re_sl rsl_any (re_var (i := 12)) (ro_some re_int) ro_none))) (rg_name (i := 6) (vs := [6]) (by decide)))
 (rs_seq (rs_for (ri_list (re_lst (ra_cons (re_var (i := 3)) (ra_cons (re_var (i := 5)) (ra_cons (re_var (i := 6)) ra_nil))))) (rg_name (i := 7) (vs := [7]) (by decide))
 (rs_seq (rs_if (rt_not (rt_val (re_call (ra_cons (re_var (i := 7)) ra_nil))))
 (rs_ret re_bl)
 rs_next)
 (rs_seq (rs_asg (re_call (ra_cons (re_var (i := 7)) ra_nil)) (rg_name (i := 8) (vs := [8]) (by decide)))
 (rs_if (rt_or (rt_test (re_op r2_neX (re_op r2_ixD (re_var (i := 8)) re_int) re_str)) (rt_or (rt_not (rt_val (re_call (ra_cons (re_var (i := 7)) (ra_cons (re_op r2_ixD (re_var (i := 8)) re_int) ra_nil))))) (rt_not (rt_val (re_call (ra_cons (re_var (i := 7)) (ra_cons (re_op r2_ixD (re_var (i := 8)) re_int) ra_nil)))))))
 (rs_ret re_bl)
 rs_next))))
 (rs_seq (rs_asg (re_lc (ri_list (re_var (i := 3))) (rg_name (i := 12) (vs := [12]) (by decide)) (rt_and (rt_test (re_op r2_eqX (re_op r2_ixD (re_var (i := 12)) re_int) re_str)) (rt_test (re_op r2_neX (re_op r2_ixD (re_var (i := 12)) re_int) re_int))) (re_var (i := 12))) (rg_name (i := 9) (vs := [9]) (by decide)))
 (rs_if (rt_test (re_op r2_neX (re_var (i := 9)) (re_lst ra_nil)))
 (rs_seq (rs_asg (re_call (ra_cons (re_var (i := 2)) (ra_cons (re_var (i := 9)) ra_nil))) (rg_name (i := 10) (vs := [10]) (by decide)))
 (rs_seq (rs_asg (re_op r2_ixD (re_lc (ri_list (re_var (i := 3))) (rg_name (i := 12) (vs := [12]) (by decide)) (rt_and (rt_test (re_op r2_eqX (re_op r2_ixD (re_var (i := 12)) re_int) re_str)) (rt_test (re_op r2_eqX (re_op r2_ixD (re_var (i := 12)) re_int) (re_op r2_ixD (re_var (i := 10)) re_int)))) (re_var (i := 12))) re_int) (rg_name (i := 11) (vs := [11]) (by decide)))
 (rs_seq (rs_asg (re_op r2_addX (re_lc (ri_list (re_var (i := 3))) (rg_name (i := 12) (vs := [12]) (by decide)) (rt_test (re_op r2_neX (re_var (i := 12)) (re_var (i := 10)))) (re_var (i := 12))) (re_lst (ra_cons (re_op r2_addX (re_sl rsl_any (re_var (i := 10)) ro_none (ro_some re_int)) (re_tup (ra_cons re_int (ra_cons (re_op r2_subX (re_op r2_ixD (re_var (i := 11)) re_int) re_int) ra_nil)))) ra_nil))) (rg_name (i := 7) (vs := [7]) (by decide)))
 (rs_if (rt_or (rt_test (re_op r2_neX (re_call (ra_cons (re_var (i := 7)) ra_nil)) (re_tup (ra_cons re_str (ra_cons (re_op r2_ixD (re_var (i := 10)) re_int) (ra_cons (re_op r2_ixD (re_var (i := 11)) re_int) ra_nil)))))) (rt_not (rt_val (re_call (ra_cons (re_var (i := 7)) (ra_cons (re_tup (ra_cons re_str (ra_cons (re_op r2_ixD (re_var (i := 10)) re_int) (ra_cons (re_op r2_ixD (re_var (i := 11)) re_int) ra_nil)))) ra_nil))))))
 (rs_ret re_bl)
 rs_next))))
 rs_next)))))))))
 (rs_ret re_bl))) (law_start (E := E) ho hS (lt ns hlen) q)


/-! ### mirrors: a comprehension whose items draw -/
theorem lc_inv {n : Nat} {ok : Sto → Prop} {g : MG} {tt : MT} {te : ME} {env : AEnv} (I : Nat → List A → Sto → Prop) (hok : ∀ i acc S, I i acc S → ok S) : ∀ {xs : List A} {j : Nat},
    (∀ i x, xs[i]? = some x → ∀ acc S, I (j + i) acc S → ∃ e1 S1 y S2, g x env = some e1 ∧ tt e1 S = .ok true S1 ∧ te e1 S1 = .ok y S2 ∧ S2[n]? = some (.lst acc) ∧ acc.length < 16777216 ∧ I (j + i + 1) (acc ++ [y]) (S2.set n (.lst (acc ++ [y])))) →
    ∀ acc S, I j acc S → ∃ acc' S', lcL n ok g tt te env xs S = .ok (.ref n) S' ∧ I (j + xs.length) acc' S'
  | [], j, _, acc, S, h => ⟨acc, S, by
      unfold lcL
      rw [if_pos (hok _ _ _ h)], h⟩
  | x :: xs, j, hb, acc, S, h => by
    obtain ⟨e1, S1, y, S2, h1, h2, h3, h4, h5, h6⟩ := hb 0 x rfl acc S h
    obtain ⟨acc', S', h7, h8⟩ := lc_inv I hok (xs := xs) (j := j + 1) (fun i y hy acc S hI => by
      have := hb (i + 1) y (by simpa using hy) acc S (by rw [show j + (i + 1) = j + 1 + i by omega]; exact hI)
      rw [show j + (i + 1) + 1 = j + 1 + i + 1 by omega] at this
      exact this) _ _ h6
    refine ⟨acc', S', ?_, by rw [List.length_cons, show j + (xs.length + 1) = j + 1 + xs.length by omega]; exact h8⟩
    unfold lcL
    rw [if_pos (hok _ _ _ h), h1]
    simp only [h2, h3, ev_xok, ev_bok, if_true, h4]
    rw [if_pos (by rw [sizeLine_eq]; exact h5)]
    exact h7

/-! ### mirrors: what a loop keeps -/
theorem forL_inv {ok : Sto → Prop} {g : MG} {b : MS} (I : Nat → AEnv → Sto → Prop) (hok : ∀ i env S, I i env S → ok S) : ∀ {xs : List A} {j : Nat}, (∀ i x, xs[i]? = some x → ∀ env S, I (j + i) env S → ∃ e1 e2 S', g x env = some e1 ∧ b e1 S = .fl (.nx e2) S' ∧ I (j + i + 1) e2 S') →
    ∀ env S, I j env S → ∃ e2 S', forL ok g b xs env S = .fl (.nx e2) S' ∧ I (j + xs.length) e2 S'
  | [], j, _, env, S, h => ⟨env, S, by
      unfold forL
      rw [if_pos (hok _ _ _ h)], h⟩
  | x :: xs, j, hb, env, S, h => by
    obtain ⟨e1, e2, S', h1, h2, h3⟩ := hb 0 x rfl env S h
    obtain ⟨e3, S3, h4, h5⟩ := forL_inv I hok (xs := xs) (j := j + 1) (fun i y hy env S hI => by
      have := hb (i + 1) y (by simpa using hy) env S (by rw [show j + (i + 1) = j + 1 + i by omega]; exact hI)
      rw [show j + (i + 1) + 1 = j + 1 + i + 1 by omega] at this
      exact this) e2 S' h3
    refine ⟨e3, S3, ?_, by rw [List.length_cons, show j + (xs.length + 1) = j + 1 + xs.length by omega]; exact h5⟩
    unfold forL
    rw [if_pos (hok _ _ _ h), h1]
    simp only [h2]
    exact h4
theorem whileF_inv {c : MT} {b : MS} (J : Nat → AEnv → Sto → Prop) (h0 : ∀ env S, J 0 env S → ∃ S', c env S = .ok false S' ∧ J 0 env S') (hs : ∀ k env S, J (k + 1) env S → ∃ S' e2 S2, c env S = .ok true S' ∧ b env S' = .fl (.nx e2) S2 ∧ J k e2 S2) : ∀ (k fuel : Nat) (env : AEnv) (S : Sto), k < fuel → J k env S → ∃ e2 S2, whileF c b fuel env S = .fl (.nx e2) S2 ∧ J 0 e2 S2
  | 0, fuel + 1, env, S, _, h => by
    obtain ⟨S', e, h'⟩ := h0 env S h
    refine ⟨env, S', ?_, h'⟩
    unfold whileF
    rw [e]
    rfl
  | k + 1, fuel + 1, env, S, hf, h => by
    obtain ⟨S', e2, S2, e, eb, h'⟩ := hs k env S h
    obtain ⟨e3, S3, ew, hJ⟩ := whileF_inv J h0 hs k fuel e2 S2 (by omega) h'
    refine ⟨e3, S3, ?_, hJ⟩
    unfold whileF
    rw [e]
    simp only [ev_tok, if_true, eb]
    exact ew
  | _, 0, _, _, hf, _ => by omega
theorem pickI {ns : List Int} {i : Int} (h0 : 0 ≤ i) (h1 : i < ns.length) : ∃ m, m ∈ ns ∧ atI (ns.map A.int) i = some (.int m) ∧ ns[i.toNat]? = some m := by
  obtain ⟨k, rfl⟩ : ∃ k : Nat, i = (k : Int) := ⟨i.toNat, by omega⟩
  have hk : k < ns.length := by omega
  exact ⟨ns[k], List.getElem_mem hk, atI_nat (by rw [List.getElem?_map, List.getElem?_eq_getElem hk]; rfl), by rw [Int.toNat_natCast]; exact List.getElem?_eq_getElem hk⟩
theorem atI_end {xs : List A} {x : A} : atI (xs ++ [x]) (-1) = some x := by
  unfold atI ixN
  rw [if_neg (by decide), if_pos (by rw [List.length_append, List.length_singleton]; omega), List.length_append, List.length_singleton]
  show (xs ++ [x])[(-1 + ((xs.length + 1 : Nat) : Int)).toNat]? = _
  have : (-1 + ((xs.length + 1 : Nat) : Int)).toNat = xs.length := by omega
  rw [this]
  simp

/-! ### data of any kind, as it stands in a store -/
def asc (x : Str) : Bool := x.cps.all (· < 128)
def gs (s : Nat) : A → Prop
  | .non => True
  | .bl _ => True
  | .int i => i.natAbs < 2 ^ (100 + 8 * s)
  | .str x => asc x = true ∧ x.length ≤ 64 * 4 ^ s
  | _ => False
/-- data of depth k at most; s tells how great it may be; the bag is no part of it -/
def gd (st : Sto) (E : Nat → Prop) (s : Nat) : Nat → A → Prop
  | 0, a => gs s a
  | k + 1, a => gs s a ∨ (∃ xs, a = .tup xs ∧ xs.length ≤ 70 + s ∧ ∀ x ∈ xs, gd st E s k x) ∨ ∃ n xs, a = .ref n ∧ ¬ E n ∧ st[n]? = some (.lst xs) ∧ xs.length ≤ 70 + s ∧ ∀ x ∈ xs, gd st E s k x
theorem gs_up {s : Nat} {a : A} (h : gs s a) : gs (s + 1) a := by
  cases a with
  | non => trivial
  | bl _ => trivial
  | int i => exact Nat.lt_of_lt_of_le (show i.natAbs < _ from h) (Nat.pow_le_pow_right (by decide) (by omega))
  | str x => exact ⟨h.1, Nat.le_trans h.2 (by rw [Nat.pow_succ]; omega)⟩
  | _ => exact h
theorem gd_up {st : Sto} {E : Nat → Prop} {s : Nat} : ∀ {k : Nat} {a : A}, gd st E s k a → gd st E (s + 1) k a
  | 0, _, h => gs_up h
  | k + 1, _, h => by
    rcases h with h | ⟨xs, e, h1, h2⟩ | ⟨n, xs, e, h0, h1, h2, h3⟩
    · exact .inl (gs_up h)
    · exact .inr (.inl ⟨xs, e, by omega, fun x hx => gd_up (h2 x hx)⟩)
    · exact .inr (.inr ⟨n, xs, e, h0, h1, by omega, fun x hx => gd_up (h3 x hx)⟩)
theorem gd_ups {st : Sto} {E : Nat → Prop} {s : Nat} {k : Nat} {a : A} (h : gd st E s k a) : ∀ {s' : Nat}, s ≤ s' → gd st E s' k a
  | s', hs => by
    obtain ⟨d, rfl⟩ := Nat.exists_eq_add_of_le hs
    clear hs
    induction d with
    | zero => exact h
    | succ d ih => exact gd_up ih
theorem gd_s {st : Sto} {E : Nat → Prop} {s : Nat} : ∀ {k : Nat} {a : A}, gs s a → gd st E s k a
  | 0, _, h => h
  | _ + 1, _, h => .inl h
theorem gd_deep {st : Sto} {E : Nat → Prop} {s : Nat} : ∀ {k : Nat} {a : A}, gd st E s k a → gd st E s (k + 1) a
  | 0, _, h => .inl h
  | k + 1, _, h => by
    rcases h with h | ⟨xs, e, h1, h2⟩ | ⟨n, xs, e, h0, h1, h2, h3⟩
    · exact .inl h
    · exact .inr (.inl ⟨xs, e, h1, fun x hx => gd_deep (h2 x hx)⟩)
    · exact .inr (.inr ⟨n, xs, e, h0, h1, h2, fun x hx => gd_deep (h3 x hx)⟩)
theorem gd_deeps {st : Sto} {E : Nat → Prop} {s : Nat} {k : Nat} {a : A} (h : gd st E s k a) : ∀ {k' : Nat}, k ≤ k' → gd st E s k' a
  | k', hs => by
    obtain ⟨d, rfl⟩ := Nat.exists_eq_add_of_le hs
    clear hs
    induction d with
    | zero => exact h
    | succ d ih => exact gd_deep ih
theorem gd_old {st st' : Sto} {b : Nat} {E : Nat → Prop} {s : Nat} (hE : E b) (o : Old b st st') : ∀ {k : Nat} {a : A}, gd st E s k a → gd st' E s k a
  | 0, _, h => h
  | k + 1, _, h => by
    rcases h with h | ⟨xs, e, h1, h2⟩ | ⟨n, xs, e, h0, h1, h2, h3⟩
    · exact .inl h
    · exact .inr (.inl ⟨xs, e, h1, fun x hx => gd_old hE o (h2 x hx)⟩)
    · exact .inr (.inr ⟨n, xs, e, h0, o.get h1 (fun z => h0 (z ▸ hE)), h2, fun x hx => gd_old hE o (h3 x hx)⟩)
/-- its kind -/
theorem gd_ty {st : Sto} {E : Nat → Prop} {s k : Nat} {a : A} (h : gd st E s k a) : ∃ t, tyA st a = some t := by
  have one : gs s a → ∃ t, tyA st a = some t := fun h => by
    cases a with
    | non => exact ⟨_, rfl⟩
    | bl _ => exact ⟨_, rfl⟩
    | int _ => exact ⟨_, rfl⟩
    | str _ => exact ⟨_, rfl⟩
    | _ => exact h.elim
  cases k with
  | zero => exact one h
  | succ k =>
    rcases h with h | ⟨xs, rfl, h1, h2⟩ | ⟨n, xs, rfl, h0, h1, h2, h3⟩
    · exact one h
    · exact ⟨_, rfl⟩
    · exact ⟨"list", by simp only [tyA, h1]⟩
/-! texts of signs below 128 -/
theorem asc_mem {x : Str} : asc x = true ↔ ∀ c ∈ x.cps.toList, c < 128 := by
  unfold asc
  rw [Array.all_eq_true_iff_forall_mem]
  simp
theorem asc_app {x y : Str} (hx : asc x = true) (hy : asc y = true) : asc (x ++ y) = true := by
  rw [asc_mem] at hx hy ⊢
  intro c hc
  have : (x ++ y).cps = x.cps ++ y.cps := rfl
  rw [this, Array.toList_append, List.mem_append] at hc
  rcases hc with hc | hc
  · exact hx c hc
  · exact hy c hc
theorem len_app (x y : Str) : (x ++ y).length = x.length + y.length := by
  show (x.cps ++ y.cps).size = _
  rw [Array.size_append]
  rfl
theorem upper_one : ∀ c < 128, ∀ d ∈ Unicode.upperOf c, d < 128 := by decide +kernel
theorem asc_upper {x : Str} (hx : asc x = true) : asc (Txt.upper x) = true := by
  rw [asc_mem] at hx ⊢
  intro c hc
  have hc : c ∈ placed x fun _ c => Unicode.upperOf c := by
    rw [← Array.mem_toList_iff]
    exact hc
  unfold placed at hc
  rw [Array.mem_flatten] at hc
  obtain ⟨ys, h1, h2⟩ := hc
  rw [Array.mem_mapIdx] at h1
  obtain ⟨i, hi, rfl⟩ := h1
  exact upper_one _ (hx x.cps[i] (by simp)) _ (by simpa using h2)
theorem gs_word {s : Nat} {x : Str} (h : asc x = true) (h2 : x.length ≤ 64) : gs s (.str x) := ⟨h, Nat.le_trans h2 (Nat.le_mul_of_pos_right 64 (Nat.pow_pos (by decide)))⟩
theorem gs_num {s : Nat} {i : Int} (h : i.natAbs < 2 ^ 100) : gs s (.int i) := Nat.lt_of_lt_of_le h (Nat.pow_le_pow_right (by decide) (by omega))
theorem gd_tup {st : Sto} {E : Nat → Prop} {s k : Nat} {xs : List A} (h : xs.length ≤ 70 + s) (h2 : ∀ x ∈ xs, gd st E s k x) : gd st E s (k + 1) (.tup xs) := .inr (.inl ⟨xs, rfl, h, h2⟩)
theorem gd_ref {st : Sto} {E : Nat → Prop} {s k n : Nat} {xs : List A} (nb : ¬ E n) (e : st[n]? = some (.lst xs)) (h : xs.length ≤ 70 + s) (h2 : ∀ x ∈ xs, gd st E s k x) : gd st E s (k + 1) (.ref n) := .inr (.inr ⟨n, xs, rfl, nb, e, h, h2⟩)
theorem at_pick {xs : List A} {i : Int} (h0 : 0 ≤ i) (h1 : i < xs.length) : ∃ a, atI xs i = some a ∧ a ∈ xs ∧ xs[i.toNat]? = some a := by
  obtain ⟨k, rfl⟩ : ∃ k : Nat, i = (k : Int) := ⟨i.toNat, by omega⟩
  have hk : k < xs.length := by omega
  exact ⟨xs[k], atI_nat (List.getElem?_eq_getElem hk), List.getElem_mem hk, by rw [Int.toNat_natCast]; exact List.getElem?_eq_getElem hk⟩

/-! ### a thing with one part spoilt -/
theorem cutA_to (xs : List A) {i : Int} (h0 : 0 ≤ i) : cutA xs none (some i) = xs.take i.toNat := by
  obtain ⟨k, rfl⟩ : ∃ k : Nat, i = (k : Int) := ⟨i.toNat, by omega⟩
  unfold cutA
  rw [HT.sIx_none, HT.sIx_nat]
  have e3 : ((k : Nat) : Int).toNat = k := by omega
  rw [e3, Nat.sub_zero]
  show (xs.drop 0).take (min k xs.length) = xs.take k
  rw [List.drop_zero]
  by_cases h : k ≤ xs.length
  · rw [Nat.min_eq_left h]
  · rw [Nat.min_eq_right (by omega), List.take_of_length_le (Nat.le_refl _), List.take_of_length_le (by omega)]
theorem cutA_from (xs : List A) {i : Int} (h0 : 0 ≤ i) : cutA xs (some i) none = xs.drop i.toNat := by
  obtain ⟨k, rfl⟩ : ∃ k : Nat, i = (k : Int) := ⟨i.toNat, by omega⟩
  unfold cutA
  rw [HT.sIx_none, HT.sIx_nat]
  have e3 : ((k : Nat) : Int).toNat = k := by omega
  rw [e3]
  by_cases h : k ≤ xs.length
  · rw [Nat.min_eq_left h]
    exact List.take_of_length_le (by rw [List.length_drop]; exact Nat.le_refl _)
  · rw [Nat.min_eq_right (by omega), List.drop_of_length_le (Nat.le_refl _), List.drop_of_length_le (by omega), List.take_nil]
theorem mem_erase1 {xs : List A} {k : Nat} {x : A} (h : x ∈ xs.take k ++ xs.drop (k + 1)) : x ∈ xs := by
  rcases List.mem_append.mp h with h | h
  · exact List.mem_of_mem_take h
  · exact List.mem_of_mem_drop h
theorem mem_twice {xs : List A} {k : Nat} {x : A} (h : x ∈ xs.take (k + 1) ++ xs.drop k) : x ∈ xs := by
  rcases List.mem_append.mp h with h | h
  · exact List.mem_of_mem_take h
  · exact List.mem_of_mem_drop h
theorem ixN_is {n : Nat} {i : Int} (h0 : 0 ≤ i) (h1 : i < n) : ixN n i = some i.toNat := by
  unfold ixN
  rw [if_pos h0, if_pos h1]
theorem pow_len {s n : Nat} (hs : s ≤ 12) (h : n ≤ 64 * 4 ^ s) : n ≤ 16777216 * 64 := by
  have : 4 ^ s ≤ 4 ^ 12 := Nat.pow_le_pow_right (by decide) hs
  have e : 4 ^ 12 = 16777216 := by decide
  omega
theorem log_small {i : Int} {k : Nat} (h : i.natAbs < 2 ^ k) (hk : 0 < k) : i.natAbs.log2 < k := by
  by_cases h0 : i.natAbs = 0
  · rw [h0]
    exact hk
  · exact (Nat.log2_lt h0).mpr h
theorem asc_num (i : Int) : asc (toString i : String) = true := by
  rw [asc_mem, Str.ofString_eq_toList]
  intro c hc
  have hc : c ∈ (toString i).toList.map Char.toNat := by simpa using hc
  obtain ⟨ch, hch, rfl⟩ := List.mem_map.mp hc
  have dig : ∀ (n : Nat) (ch : Char), ch ∈ (Nat.repr n).toList → ch.toNat < 128 := fun n ch h => by
    have h : ch ∈ Nat.toDigits 10 n := by
      unfold Nat.repr at h
      simpa using h
    have := Nat.isDigit_of_mem_toDigits (by decide) (by decide) h
    simp [Char.isDigit] at this
    have h2 := this.2
    have : ch.toNat ≤ 57 := h2
    omega
  cases i with
  | ofNat n => exact dig n ch hch
  | negSucc n =>
    have hch : ch ∈ ("-" ++ Nat.repr (n + 1)).toList := hch
    rw [String.toList_append, List.mem_append] at hch
    rcases hch with h | h
    · have : ch = '-' := by simpa using h
      rw [this]
      decide
    · exact dig _ ch h
theorem asc_cut {x : Str} (hx : asc x = true) (lo hi : Option Int) : asc (cutS x lo hi) = true := by
  rw [asc_mem] at hx ⊢
  intro c hc
  unfold cutS at hc
  exact hx c (List.mem_of_mem_drop (List.mem_of_mem_take (by simpa using hc)))
theorem len_cut (x : Str) (lo hi : Option Int) : (cutS x lo hi).length ≤ x.length := by
  unfold cutS
  show ((x.cps.toList.drop _).take _).toArray.size ≤ x.cps.size
  rw [List.size_toArray, List.length_take, List.length_drop]
  have : x.cps.toList.length = x.cps.size := by simp
  omega

/-! ### mirrors: loops and comprehensions, in general -/
theorem forL_ret {ok : Sto → Prop} {g : MG} {b : MS} {st : Sto} (p : A → Bool) (Sh : AEnv → Prop) (hok : ∀ l, ok (st ++ l)) : ∀ {xs : List A}, (∀ x ∈ xs, ∀ env l, Sh env → ∃ e1 l' e2, g x env = some e1 ∧ Sh e2 ∧ b e1 (st ++ l) = (if p x = true then .fl (.nx e2) (st ++ l') else .fl (.rt (.bl false)) (st ++ l'))) →
    ∀ env l, Sh env → ∃ e2 l', Sh e2 ∧ forL ok g b xs env (st ++ l) = if xs.all p = true then .fl (.nx e2) (st ++ l') else .fl (.rt (.bl false)) (st ++ l')
  | [], _, env, l, h => ⟨env, l, h, by
      unfold forL
      rw [if_pos (hok l)]
      rfl⟩
  | x :: xs, hb, env, l, h => by
    obtain ⟨e1, l1, e2, h1, h2, h3⟩ := hb x List.mem_cons_self env l h
    unfold forL
    rw [if_pos (hok l), h1]
    simp only [h3]
    cases hp : p x with
    | false =>
      refine ⟨e2, l1, h2, ?_⟩
      simp only [List.all_cons, hp, Bool.false_and, Bool.false_eq_true, if_false]
    | true =>
      obtain ⟨e3, l3, h4, h5⟩ := forL_ret p Sh hok (fun y hy => hb y (List.mem_cons_of_mem _ hy)) e2 l1 h2
      refine ⟨e3, l3, h4, ?_⟩
      simp only [List.all_cons, hp, Bool.true_and, if_true, h5]
theorem lc_pure {n : Nat} {ok : Sto → Prop} {g : MG} {tt : MT} {te : ME} {env : AEnv} {s : Sto} (p : A → Bool) (F : A → A) (hn : n = s.length) (hok : ∀ acc, ok (s ++ [.lst acc])) : ∀ {xs acc : List A},
    (∀ x ∈ xs, ∀ acc, ∃ e1, g x env = some e1 ∧ tt e1 (s ++ [.lst acc]) = .ok (p x) (s ++ [.lst acc]) ∧ (p x = true → te e1 (s ++ [.lst acc]) = .ok (F x) (s ++ [.lst acc]))) →
    acc.length + xs.length < 16777216 → lcL n ok g tt te env xs (s ++ [.lst acc]) = .ok (.ref n) (s ++ [.lst (acc ++ (xs.filter p).map F)])
  | [], acc, _, _ => by
    unfold lcL
    rw [if_pos (hok acc)]
    simp
  | x :: xs, acc, h, hl => by
    obtain ⟨e1, h1, h2, h3⟩ := h x List.mem_cons_self acc
    unfold lcL
    rw [if_pos (hok acc), h1]
    simp only [h2, ev_xok, ev_bok]
    rw [List.length_cons] at hl
    cases hp : p x with
    | false =>
      simp only [Bool.false_eq_true, if_false, List.filter_cons, hp]
      exact lc_pure p F hn hok (fun y hy => h y (List.mem_cons_of_mem _ hy)) (by omega)
    | true =>
      have hg : (s ++ [AO.lst acc])[n]? = some (.lst acc) := by rw [hn]; exact ev_last
      have hs : (s ++ [AO.lst acc]).set n (.lst (acc ++ [F x])) = s ++ [.lst (acc ++ [F x])] := by rw [hn]; exact ev_set0
      simp only [if_true, h3 hp, ev_xok, ev_bok, hg, List.filter_cons, hp, List.map_cons]
      rw [if_pos (by rw [sizeLine_eq]; omega), hs, lc_pure p F hn hok (fun y hy => h y (List.mem_cons_of_mem _ hy)) (by rw [List.length_append, List.length_singleton]; omega)]
      simp
theorem asc_ok {x : Str} (h : asc x = true) : PyData.strOk x = true := by
  unfold asc at h
  unfold PyData.strOk
  rw [Array.all_eq_true_iff_forall_mem] at h ⊢
  intro c hc
  have := h c hc
  simp at this ⊢
  omega
theorem allD_some {f : A → Option PyData} {P : PyData → Prop} : ∀ {xs : List A}, (∀ x ∈ xs, ∃ D, f x = some D ∧ P D) → ∃ Ds, allD f xs = some Ds ∧ ∀ D ∈ Ds, P D
  | [], _ => ⟨[], rfl, (fun D h => by cases h)⟩
  | x :: xs, h => by
    obtain ⟨D, e, hp⟩ := h x List.mem_cons_self
    obtain ⟨Ds, e2, hps⟩ := allD_some fun y hy => h y (List.mem_cons_of_mem _ hy)
    refine ⟨D :: Ds, by simp only [allD, e, e2], fun E hE => ?_⟩
    rcases List.mem_cons.mp hE with rfl | hE
    · exact hp
    · exact hps E hE
theorem layA {d : Nat} : ∀ {Ds : List PyData}, (∀ D ∈ Ds, D.canLay0 = true ∧ D.depth ≤ d) → PyData.canLayAll0 Ds = true ∧ PyData.depthAll Ds ≤ d
  | [], _ => ⟨by simp [PyData.canLayAll0], by simp [PyData.depthAll]⟩
  | D :: Ds, h => by
    have h1 := h D List.mem_cons_self
    have h2 := layA fun E hE => h E (List.mem_cons_of_mem _ hE)
    exact ⟨by rw [PyData.canLayAll0, h1.1, h2.1]; rfl, by rw [PyData.depthAll]; exact Nat.max_le.mpr ⟨h1.2, h2.2⟩⟩
theorem gs_dat {st : Sto} {s n : Nat} {a : A} (h : gs s a) : ∃ D, dat st n a = some D ∧ D.canLay0 = true ∧ D.depth ≤ 0 := by
  cases a with
  | non => exact ⟨.none, by cases n <;> rfl, rfl, Nat.le_refl _⟩
  | bl c => exact ⟨.bool c, by cases n <;> rfl, rfl, Nat.le_refl _⟩
  | int c => exact ⟨.int c, by cases n <;> rfl, rfl, Nat.le_refl _⟩
  | str c => exact ⟨.str c, by cases n <;> rfl, by rw [PyData.canLay0]; exact asc_ok h.1, Nat.le_refl _⟩
  | _ => exact h.elim
theorem gd_dat {st : Sto} {E : Nat → Prop} {s : Nat} : ∀ (d n : Nat) {a : A}, d ≤ n → gd st E s d a → ∃ D, dat st n a = some D ∧ D.canLay0 = true ∧ D.depth ≤ d
  | 0, n, _, _, h => gs_dat h
  | d + 1, 0, _, hn, _ => by omega
  | d + 1, n + 1, a, hn, h => by
    rcases h with h | ⟨xs, rfl, h1, h2⟩ | ⟨m, xs, rfl, h0, h1, h2, h3⟩
    · obtain ⟨D, e, l, dp⟩ := gs_dat (st := st) (n := n + 1) h
      exact ⟨D, e, l, by omega⟩
    · obtain ⟨Ds, e, hD⟩ := allD_some (f := dat st n) (P := fun D => D.canLay0 = true ∧ D.depth ≤ d) fun x hx => gd_dat d n (by omega) (h2 x hx)
      obtain ⟨l1, l2⟩ := layA hD
      exact ⟨.tuple Ds, by simp only [dat, e, Option.map_some], by rw [PyData.canLay0]; exact l1, by rw [PyData.depth]; omega⟩
    · obtain ⟨Ds, e, hD⟩ := allD_some (f := dat st n) (P := fun D => D.canLay0 = true ∧ D.depth ≤ d) fun x hx => gd_dat d n (by omega) (h3 x hx)
      obtain ⟨l1, l2⟩ := layA hD
      exact ⟨.list Ds, by simp only [dat, h1, e, Option.map_some], by rw [PyData.canLay0]; exact l1, by rw [PyData.depth]; omega⟩
theorem shaped_of {D : PyData} (h : D.canLay0 = true) (h2 : D.depth ≤ 64) : SeqAt.shaped D = true := by
  unfold SeqAt.shaped
  rw [h, decide_eq_true h2]
  rfl
/-- a thing in a tuple of words: it is one of them -/
def inW (ws : List Str) : A → Bool
  | .str x => ws.any (· == x)
  | _ => false
theorem notIn_words {st : Sto} {E : Nat → Prop} {s d : Nat} {a : A} {ws : List Str} (hw : ∀ x ∈ ws, asc x = true) (hd : d ≤ 30) (h : gd st E s d a) : oNotInX a (.tup (ws.map A.str)) st = .ok (.bl (!inW ws a)) st := by
  have flat : flatA a = true → oNotInX a (.tup (ws.map A.str)) st = .ok (.bl (!inW ws a)) st := fun hf => by
    have t1 : tupDeep a (.tup (ws.map A.str)) = false := by simp [tupDeep, isTup, hf]
    have t2 : (ws.map A.str).all flatA = true := by
      rw [List.all_eq_true]
      intro x hx
      obtain ⟨y, _, rfl⟩ := List.mem_map.mp hx
      rfl
    have t3 : (ws.map A.str).any (fun y => eqF y a) = inW ws a := by
      rw [List.any_map]
      cases a with
      | str x => rfl
      | non => exact List.any_eq_false.mpr fun _ _ => by simp [eqF]
      | bl c => exact List.any_eq_false.mpr fun _ _ => by simp [eqF]
      | int c => exact List.any_eq_false.mpr fun _ _ => by simp [eqF]
      | _ => cases hf
    show oOr tupDeep oNotInTD oNotIn a (.tup (ws.map A.str)) st = _
    unfold oOr
    rw [t1]
    show (if false = true then _ else oNotInF a (.tup (ws.map A.str)) st) = _
    rw [if_neg Bool.false_ne_true]
    unfold oNotInF inA
    show lift ((if flatA a = true ∧ (ws.map A.str).all flatA = true then some ((ws.map A.str).any fun y => eqF y a) else none).map fun c => A.bl (!c)) st = _
    rw [if_pos ⟨hf, t2⟩, t3]
    rfl
  have deepc : flatA a = false → inW ws a = false → (∃ D, dat st deep a = some D ∧ SeqAt.shaped D = true ∧ ∀ x : Str, PyData.eqv (.str x) D = false) → oNotInX a (.tup (ws.map A.str)) st = .ok (.bl (!inW ws a)) st := fun hf hi ⟨D, e, sh, ne⟩ => by
    have t1 : tupDeep a (.tup (ws.map A.str)) = true := by simp [tupDeep, isTup, hf]
    have e2 : dat st deep (.tup (ws.map A.str)) = some (.tuple (ws.map PyData.str)) := by
      show (allD (dat st 29) (ws.map A.str)).map PyData.tuple = _
      have : ∀ l : List Str, allD (dat st 29) (l.map A.str) = some (l.map PyData.str) := fun l => by
        induction l with
        | nil => rfl
        | cons x l ih => simp only [List.map_cons, allD, ih, dat]
      rw [this]
      rfl
    have sh2 : SeqAt.shaped (.tuple (ws.map PyData.str)) = true := by
      have := layA (d := 0) (Ds := ws.map PyData.str) fun D hD => by
        obtain ⟨x, hx, rfl⟩ := List.mem_map.mp hD
        exact ⟨by rw [PyData.canLay0]; exact asc_ok (hw x hx), Nat.le_refl _⟩
      exact shaped_of (by rw [PyData.canLay0]; exact this.1) (by rw [PyData.depth]; omega)
    have an : ((ws.map PyData.str).any fun z => PyData.eqv z D) = false := by
      rw [List.any_map]
      exact List.any_eq_false.mpr fun x _ => by simp [ne x]
    show oOr tupDeep oNotInTD oNotIn a (.tup (ws.map A.str)) st = _
    unfold oOr
    rw [t1, if_pos rfl]
    unfold oNotInTD inTD
    rw [e, e2]
    simp only [sh, sh2, and_self, if_true, an, hi]
    rfl
  cases d with
  | zero =>
    refine flat ?_
    cases a with
    | non => rfl
    | bl _ => rfl
    | int _ => rfl
    | str _ => rfl
    | _ => exact h.elim
  | succ d =>
    rcases id h with h' | ⟨xs, rfl, h1, h2⟩ | ⟨m, xs, rfl, h0, h1, h2, h3⟩
    · refine flat ?_
      cases a with
      | non => rfl
      | bl _ => rfl
      | int _ => rfl
      | str _ => rfl
      | _ => exact h'.elim
    · obtain ⟨D, e, l, dp⟩ := gd_dat (d + 1) 30 hd h
      refine deepc rfl rfl ⟨D, e, shaped_of l (by omega), fun x => ?_⟩
      have e : (allD (dat st 29) xs).map PyData.tuple = some D := e
      obtain ⟨Ds, _, rfl⟩ := Option.map_eq_some_iff.mp e
      simp [PyData.eqv]
    · obtain ⟨D, e, l, dp⟩ := gd_dat (d + 1) 30 hd h
      refine deepc rfl rfl ⟨D, e, shaped_of l (by omega), fun x => ?_⟩
      simp only [dat, h1] at e
      obtain ⟨Ds, _, rfl⟩ := Option.map_eq_some_iff.mp e
      simp [PyData.eqv]

theorem popAt_is {xs : List A} {i : Int} {a : A} (h0 : 0 ≤ i) (h1 : i < xs.length) (h2 : (xs.length : Int) < 2 ^ 62) (e : xs[i.toNat]? = some a) : oPopAt xs [.int i] = some (a, xs.eraseIdx i.toNat) := by
  unfold oPopAt
  have hs : seqIndex? i xs.length = some i.toNat := by
    have := (ixN_seq (ixN_is h0 h1)).1
    exact this
  simp only
  rw [if_pos ⟨by omega, by omega⟩, hs]
  simp only [e]
  rfl
theorem negOne {xs : List A} : mUn oNegX (mC (.int 1)) [] [] = .ok (.int (-1)) [] := rfl

/-! ### what the small readings tell of data -/
def wholeA : A → Bool
  | .int _ => true
  | _ => false
def numA : A → Bool
  | .int i => decide (0 ≤ i)
  | _ => false
def withinA (lo hi : Int) : A → Bool
  | .int i => decide (lo ≤ i) && decide (i ≤ hi)
  | _ => false
def tupleA (lo hi : Int) : A → Bool
  | .tup xs => decide (lo ≤ xs.length) && decide ((xs.length : Int) ≤ hi)
  | _ => false
theorem ty_ref {st : Sto} {n : Nat} {t : String} (h : tyA st (.ref n) = some t) : ∃ xs, st[n]? = some (.lst xs) := by
  rw [ev_tyR] at h
  unfold tyR at h
  split at h
  · rename_i xs e
    exact ⟨xs, e⟩
  · cases h
theorem whole_ev {st : Sto} {a : A} (h : ∃ t, tyA st a = some t) : m_is_whole [a] st = .ok (.bl (wholeA a)) st := by
  obtain ⟨t, ht⟩ := h
  rw [st_is_whole]
  unfold b_is_whole
  cases a with
  | ref n =>
    obtain ⟨xs, e⟩ := ty_ref ht
    simp only [ev_bok, ev_bno, ev_bex, ev_tok, ev_tno, ev_tex, ev_nnx, ev_nrt, ev_nbk, ev_nct, ev_nex, ev_nno, ev_frt, ev_fnx, ev_fex, ev_xok, ev_lsome, ev_lnone, ev_seq, ev_if, ev_ret, ev_retN, ev_drop, ev_nop, ev_brk, ev_cont, ev_asgN, ev_asgT, ev_asgO, ev_mgTup, ev_mgN, ev_mgC, ev_mg0, ev_putL, ev_putO, ev_var, ev_vr, ev_c, ev_op, ev_un, ev_test, ev_tb, ev_notT, ev_andT, ev_orT, ev_ifE, ev_not, ev_nb, ev_and, ev_andK, ev_or, ev_orK, ev_chain, ev_chK, ev_nil, ev_cons, ev_tup, ev_lst, ev_new, ev_call, ev_cb, ev_size, ev_addI, ev_addS, ev_addT, ev_addL, ev_catO, ev_sub, ev_mul, ev_div, ev_mod, ev_p5, ev_p6, ev_p12, ev_p18, ev_p30, ev_neg, ev_ltI, ev_ltS, ev_leI, ev_leS, ev_gt, ev_ge, ev_eqI, ev_eqS, ev_neI, ev_neS, ev_neB, ev_eqB, ev_is, ev_isnot, ev_ixT, ev_ixS, ev_ixR, ev_ixL, ev_ixK, ev_getL, ev_getM, ev_gL, ev_gM, ev_at0, ev_at1, ev_at2, ev_at3, ev_at4, ev_lenS, ev_lenR, ev_lenT, ev_lenL, ev_lenO, ev_lenD, ev_abs, ev_min2, ev_max2, ev_intI, ev_intB, ev_set, ev_fc, ev_setset, ev_last, ev_appk, ev_app0, ev_setk, ev_set0, ev_assoc, ev_lapp, ev_lappA, ev_sl, ev_nopart, ev_part, ev_ptK, ev_slT, ev_slS, ev_slR, ev_slK, ev_tyN, ev_tyB, ev_tyI, ev_tyS, ev_tyT, ev_tyL, ev_tyR, ev_tyRL, ev_isi, ev_isi1, ev_isi2, ev_isi3, ev_isi4, ev_isi5, ev_isiT, ev_isi2K, ev_isTy, ev_list, ev_listK, ev_tuple, ev_tupK, ev_getST, ev_getSR, ev_getSL, ev_all, ev_allK, ev_eqXI, ev_eqXS, ev_neXI, ev_neXS, ev_neXB, ev_eqXB, ev_eqXR, ev_neXR, ev_nil2, ev_eqK, ev_neK, ev_meth, ev_meth0, ev_mth1, ev_mth2, ev_mth3, ev_append, ev_m0, ev_m0K, ev_str, ev_for, ev_miR1, ev_rg1K, ev_miL, ev_liK, ev_miT, ev_tiK, ev_lc, ev_wipe0, ev_wipeS, ev_yes, ev_lenSet, ev_lenSetK, ev_listR, ev_lrK, ev_put2, ev_p2A, ev_p2K, ev_p2E, ev_put1, ev_pt1, ev_addXI, ev_addXB, ev_addXS, ev_addXT, ev_addXL, ev_subXI, ev_subXB, ev_mulXI, ev_mulXB, ev_mulXL, ev_negXI, ev_negXB, ev_strXI, ev_strXB, ev_mulYI, ev_mulYB, ev_mulYL, ev_mulYT, ev_dnew, ev_dnewT, ev_dgetE, ev_getD, ev_gD, ev_keyI, ev_keyS, ev_dgK, ev_dinE, ev_diK, ev_dputE, ev_dpK, ev_dget2E, ev_isDA, ev_isSome, ev_isNone, ev_dg2K, ev_dpop2E, ev_dp2K, ev_dp3S, ev_dp3N, ev_sortedE, ev_srO1, ev_srO2, ev_gLd, ev_srKS, ev_srKI, ev_gDT, ev_gT, ev_tinE, ev_tiKK, ev_keysA, ev_keysN, ev_keysC, ev_dputTE, ev_dptK, ev_dispE, ev_mpN, ev_mpC, ev_pcK, ev_dsK, ev_dsK2, ev_lc2E, List.getElem?_cons_zero, List.getElem?_cons_succ, List.set_cons_zero, List.set_cons_succ, List.length_cons, List.length_nil, List.cons_append, List.nil_append, if_true, if_false, Bool.false_eq_true, Bool.true_eq_false, reduceIte, Bool.not_true, Bool.not_false, Bool.and_true, Bool.true_and, Bool.and_false, Bool.false_and, Bool.or_true, Bool.true_or, Bool.or_false, Bool.false_or, decide_eq_true_eq, Nat.reduceAdd, Nat.reduceLeDiff, Nat.zero_add, Int.reduceLT, Int.reduceLE, Int.reduceEq, Int.reduceNeg, Nat.reduceEqDiff, and_self, and_true, true_and, decide_true, decide_false, eq_self, ite_true, ite_false, Int.reduceSub, Int.reduceAdd, Int.cast_ofNat_Int, Int.natCast_add, Int.cast_ofNat_Int, Nat.reduceSub, Nat.add_assoc, String.reduceBEq, String.reduceEq, Bool.or_not_self, beq_self_eq_true, e]
    rfl
  | adr x => cases ht
  | ty x => cases ht
  | _ =>
    simp only [ev_bok, ev_bno, ev_bex, ev_tok, ev_tno, ev_tex, ev_nnx, ev_nrt, ev_nbk, ev_nct, ev_nex, ev_nno, ev_frt, ev_fnx, ev_fex, ev_xok, ev_lsome, ev_lnone, ev_seq, ev_if, ev_ret, ev_retN, ev_drop, ev_nop, ev_brk, ev_cont, ev_asgN, ev_asgT, ev_asgO, ev_mgTup, ev_mgN, ev_mgC, ev_mg0, ev_putL, ev_putO, ev_var, ev_vr, ev_c, ev_op, ev_un, ev_test, ev_tb, ev_notT, ev_andT, ev_orT, ev_ifE, ev_not, ev_nb, ev_and, ev_andK, ev_or, ev_orK, ev_chain, ev_chK, ev_nil, ev_cons, ev_tup, ev_lst, ev_new, ev_call, ev_cb, ev_size, ev_addI, ev_addS, ev_addT, ev_addL, ev_catO, ev_sub, ev_mul, ev_div, ev_mod, ev_p5, ev_p6, ev_p12, ev_p18, ev_p30, ev_neg, ev_ltI, ev_ltS, ev_leI, ev_leS, ev_gt, ev_ge, ev_eqI, ev_eqS, ev_neI, ev_neS, ev_neB, ev_eqB, ev_is, ev_isnot, ev_ixT, ev_ixS, ev_ixR, ev_ixL, ev_ixK, ev_getL, ev_getM, ev_gL, ev_gM, ev_at0, ev_at1, ev_at2, ev_at3, ev_at4, ev_lenS, ev_lenR, ev_lenT, ev_lenL, ev_lenO, ev_lenD, ev_abs, ev_min2, ev_max2, ev_intI, ev_intB, ev_set, ev_fc, ev_setset, ev_last, ev_appk, ev_app0, ev_setk, ev_set0, ev_assoc, ev_lapp, ev_lappA, ev_sl, ev_nopart, ev_part, ev_ptK, ev_slT, ev_slS, ev_slR, ev_slK, ev_tyN, ev_tyB, ev_tyI, ev_tyS, ev_tyT, ev_tyL, ev_tyR, ev_tyRL, ev_isi, ev_isi1, ev_isi2, ev_isi3, ev_isi4, ev_isi5, ev_isiT, ev_isi2K, ev_isTy, ev_list, ev_listK, ev_tuple, ev_tupK, ev_getST, ev_getSR, ev_getSL, ev_all, ev_allK, ev_eqXI, ev_eqXS, ev_neXI, ev_neXS, ev_neXB, ev_eqXB, ev_eqXR, ev_neXR, ev_nil2, ev_eqK, ev_neK, ev_meth, ev_meth0, ev_mth1, ev_mth2, ev_mth3, ev_append, ev_m0, ev_m0K, ev_str, ev_for, ev_miR1, ev_rg1K, ev_miL, ev_liK, ev_miT, ev_tiK, ev_lc, ev_wipe0, ev_wipeS, ev_yes, ev_lenSet, ev_lenSetK, ev_listR, ev_lrK, ev_put2, ev_p2A, ev_p2K, ev_p2E, ev_put1, ev_pt1, ev_addXI, ev_addXB, ev_addXS, ev_addXT, ev_addXL, ev_subXI, ev_subXB, ev_mulXI, ev_mulXB, ev_mulXL, ev_negXI, ev_negXB, ev_strXI, ev_strXB, ev_mulYI, ev_mulYB, ev_mulYL, ev_mulYT, ev_dnew, ev_dnewT, ev_dgetE, ev_getD, ev_gD, ev_keyI, ev_keyS, ev_dgK, ev_dinE, ev_diK, ev_dputE, ev_dpK, ev_dget2E, ev_isDA, ev_isSome, ev_isNone, ev_dg2K, ev_dpop2E, ev_dp2K, ev_dp3S, ev_dp3N, ev_sortedE, ev_srO1, ev_srO2, ev_gLd, ev_srKS, ev_srKI, ev_gDT, ev_gT, ev_tinE, ev_tiKK, ev_keysA, ev_keysN, ev_keysC, ev_dputTE, ev_dptK, ev_dispE, ev_mpN, ev_mpC, ev_pcK, ev_dsK, ev_dsK2, ev_lc2E, List.getElem?_cons_zero, List.getElem?_cons_succ, List.set_cons_zero, List.set_cons_succ, List.length_cons, List.length_nil, List.cons_append, List.nil_append, if_true, if_false, Bool.false_eq_true, Bool.true_eq_false, reduceIte, Bool.not_true, Bool.not_false, Bool.and_true, Bool.true_and, Bool.and_false, Bool.false_and, Bool.or_true, Bool.true_or, Bool.or_false, Bool.false_or, decide_eq_true_eq, Nat.reduceAdd, Nat.reduceLeDiff, Nat.zero_add, Int.reduceLT, Int.reduceLE, Int.reduceEq, Int.reduceNeg, Nat.reduceEqDiff, and_self, and_true, true_and, decide_true, decide_false, eq_self, ite_true, ite_false, Int.reduceSub, Int.reduceAdd, Int.cast_ofNat_Int, Int.natCast_add, Int.cast_ofNat_Int, Nat.reduceSub, Nat.add_assoc, String.reduceBEq, String.reduceEq, Bool.or_not_self, beq_self_eq_true]
    rfl
theorem within_ev {st : Sto} {a : A} {lo hi : Int} (h : ∃ t, tyA st a = some t) : m_is_within [a, .int lo, .int hi] st = .ok (.bl (withinA lo hi a)) st := by
  have e1 := whole_ev h
  rw [st_is_within]
  unfold b_is_within
  cases a with
  | int i =>
    by_cases c : lo ≤ i
    · simp only [ev_bok, ev_bno, ev_bex, ev_tok, ev_tno, ev_tex, ev_nnx, ev_nrt, ev_nbk, ev_nct, ev_nex, ev_nno, ev_frt, ev_fnx, ev_fex, ev_xok, ev_lsome, ev_lnone, ev_seq, ev_if, ev_ret, ev_retN, ev_drop, ev_nop, ev_brk, ev_cont, ev_asgN, ev_asgT, ev_asgO, ev_mgTup, ev_mgN, ev_mgC, ev_mg0, ev_putL, ev_putO, ev_var, ev_vr, ev_c, ev_op, ev_un, ev_test, ev_tb, ev_notT, ev_andT, ev_orT, ev_ifE, ev_not, ev_nb, ev_and, ev_andK, ev_or, ev_orK, ev_chain, ev_chK, ev_nil, ev_cons, ev_tup, ev_lst, ev_new, ev_call, ev_cb, ev_size, ev_addI, ev_addS, ev_addT, ev_addL, ev_catO, ev_sub, ev_mul, ev_div, ev_mod, ev_p5, ev_p6, ev_p12, ev_p18, ev_p30, ev_neg, ev_ltI, ev_ltS, ev_leI, ev_leS, ev_gt, ev_ge, ev_eqI, ev_eqS, ev_neI, ev_neS, ev_neB, ev_eqB, ev_is, ev_isnot, ev_ixT, ev_ixS, ev_ixR, ev_ixL, ev_ixK, ev_getL, ev_getM, ev_gL, ev_gM, ev_at0, ev_at1, ev_at2, ev_at3, ev_at4, ev_lenS, ev_lenR, ev_lenT, ev_lenL, ev_lenO, ev_lenD, ev_abs, ev_min2, ev_max2, ev_intI, ev_intB, ev_set, ev_fc, ev_setset, ev_last, ev_appk, ev_app0, ev_setk, ev_set0, ev_assoc, ev_lapp, ev_lappA, ev_sl, ev_nopart, ev_part, ev_ptK, ev_slT, ev_slS, ev_slR, ev_slK, ev_tyN, ev_tyB, ev_tyI, ev_tyS, ev_tyT, ev_tyL, ev_tyR, ev_tyRL, ev_isi, ev_isi1, ev_isi2, ev_isi3, ev_isi4, ev_isi5, ev_isiT, ev_isi2K, ev_isTy, ev_list, ev_listK, ev_tuple, ev_tupK, ev_getST, ev_getSR, ev_getSL, ev_all, ev_allK, ev_eqXI, ev_eqXS, ev_neXI, ev_neXS, ev_neXB, ev_eqXB, ev_eqXR, ev_neXR, ev_nil2, ev_eqK, ev_neK, ev_meth, ev_meth0, ev_mth1, ev_mth2, ev_mth3, ev_append, ev_m0, ev_m0K, ev_str, ev_for, ev_miR1, ev_rg1K, ev_miL, ev_liK, ev_miT, ev_tiK, ev_lc, ev_wipe0, ev_wipeS, ev_yes, ev_lenSet, ev_lenSetK, ev_listR, ev_lrK, ev_put2, ev_p2A, ev_p2K, ev_p2E, ev_put1, ev_pt1, ev_addXI, ev_addXB, ev_addXS, ev_addXT, ev_addXL, ev_subXI, ev_subXB, ev_mulXI, ev_mulXB, ev_mulXL, ev_negXI, ev_negXB, ev_strXI, ev_strXB, ev_mulYI, ev_mulYB, ev_mulYL, ev_mulYT, ev_dnew, ev_dnewT, ev_dgetE, ev_getD, ev_gD, ev_keyI, ev_keyS, ev_dgK, ev_dinE, ev_diK, ev_dputE, ev_dpK, ev_dget2E, ev_isDA, ev_isSome, ev_isNone, ev_dg2K, ev_dpop2E, ev_dp2K, ev_dp3S, ev_dp3N, ev_sortedE, ev_srO1, ev_srO2, ev_gLd, ev_srKS, ev_srKI, ev_gDT, ev_gT, ev_tinE, ev_tiKK, ev_keysA, ev_keysN, ev_keysC, ev_dputTE, ev_dptK, ev_dispE, ev_mpN, ev_mpC, ev_pcK, ev_dsK, ev_dsK2, ev_lc2E, List.getElem?_cons_zero, List.getElem?_cons_succ, List.set_cons_zero, List.set_cons_succ, List.length_cons, List.length_nil, List.cons_append, List.nil_append, if_true, if_false, Bool.false_eq_true, Bool.true_eq_false, reduceIte, Bool.not_true, Bool.not_false, Bool.and_true, Bool.true_and, Bool.and_false, Bool.false_and, Bool.or_true, Bool.true_or, Bool.or_false, Bool.false_or, decide_eq_true_eq, Nat.reduceAdd, Nat.reduceLeDiff, Nat.zero_add, Int.reduceLT, Int.reduceLE, Int.reduceEq, Int.reduceNeg, Nat.reduceEqDiff, and_self, and_true, true_and, decide_true, decide_false, eq_self, ite_true, ite_false, Int.reduceSub, Int.reduceAdd, Int.cast_ofNat_Int, Int.natCast_add, Int.cast_ofNat_Int, Nat.reduceSub, Nat.add_assoc, String.reduceBEq, String.reduceEq, Bool.or_not_self, beq_self_eq_true, e1, wholeA, withinA, c]
    · simp only [ev_bok, ev_bno, ev_bex, ev_tok, ev_tno, ev_tex, ev_nnx, ev_nrt, ev_nbk, ev_nct, ev_nex, ev_nno, ev_frt, ev_fnx, ev_fex, ev_xok, ev_lsome, ev_lnone, ev_seq, ev_if, ev_ret, ev_retN, ev_drop, ev_nop, ev_brk, ev_cont, ev_asgN, ev_asgT, ev_asgO, ev_mgTup, ev_mgN, ev_mgC, ev_mg0, ev_putL, ev_putO, ev_var, ev_vr, ev_c, ev_op, ev_un, ev_test, ev_tb, ev_notT, ev_andT, ev_orT, ev_ifE, ev_not, ev_nb, ev_and, ev_andK, ev_or, ev_orK, ev_chain, ev_chK, ev_nil, ev_cons, ev_tup, ev_lst, ev_new, ev_call, ev_cb, ev_size, ev_addI, ev_addS, ev_addT, ev_addL, ev_catO, ev_sub, ev_mul, ev_div, ev_mod, ev_p5, ev_p6, ev_p12, ev_p18, ev_p30, ev_neg, ev_ltI, ev_ltS, ev_leI, ev_leS, ev_gt, ev_ge, ev_eqI, ev_eqS, ev_neI, ev_neS, ev_neB, ev_eqB, ev_is, ev_isnot, ev_ixT, ev_ixS, ev_ixR, ev_ixL, ev_ixK, ev_getL, ev_getM, ev_gL, ev_gM, ev_at0, ev_at1, ev_at2, ev_at3, ev_at4, ev_lenS, ev_lenR, ev_lenT, ev_lenL, ev_lenO, ev_lenD, ev_abs, ev_min2, ev_max2, ev_intI, ev_intB, ev_set, ev_fc, ev_setset, ev_last, ev_appk, ev_app0, ev_setk, ev_set0, ev_assoc, ev_lapp, ev_lappA, ev_sl, ev_nopart, ev_part, ev_ptK, ev_slT, ev_slS, ev_slR, ev_slK, ev_tyN, ev_tyB, ev_tyI, ev_tyS, ev_tyT, ev_tyL, ev_tyR, ev_tyRL, ev_isi, ev_isi1, ev_isi2, ev_isi3, ev_isi4, ev_isi5, ev_isiT, ev_isi2K, ev_isTy, ev_list, ev_listK, ev_tuple, ev_tupK, ev_getST, ev_getSR, ev_getSL, ev_all, ev_allK, ev_eqXI, ev_eqXS, ev_neXI, ev_neXS, ev_neXB, ev_eqXB, ev_eqXR, ev_neXR, ev_nil2, ev_eqK, ev_neK, ev_meth, ev_meth0, ev_mth1, ev_mth2, ev_mth3, ev_append, ev_m0, ev_m0K, ev_str, ev_for, ev_miR1, ev_rg1K, ev_miL, ev_liK, ev_miT, ev_tiK, ev_lc, ev_wipe0, ev_wipeS, ev_yes, ev_lenSet, ev_lenSetK, ev_listR, ev_lrK, ev_put2, ev_p2A, ev_p2K, ev_p2E, ev_put1, ev_pt1, ev_addXI, ev_addXB, ev_addXS, ev_addXT, ev_addXL, ev_subXI, ev_subXB, ev_mulXI, ev_mulXB, ev_mulXL, ev_negXI, ev_negXB, ev_strXI, ev_strXB, ev_mulYI, ev_mulYB, ev_mulYL, ev_mulYT, ev_dnew, ev_dnewT, ev_dgetE, ev_getD, ev_gD, ev_keyI, ev_keyS, ev_dgK, ev_dinE, ev_diK, ev_dputE, ev_dpK, ev_dget2E, ev_isDA, ev_isSome, ev_isNone, ev_dg2K, ev_dpop2E, ev_dp2K, ev_dp3S, ev_dp3N, ev_sortedE, ev_srO1, ev_srO2, ev_gLd, ev_srKS, ev_srKI, ev_gDT, ev_gT, ev_tinE, ev_tiKK, ev_keysA, ev_keysN, ev_keysC, ev_dputTE, ev_dptK, ev_dispE, ev_mpN, ev_mpC, ev_pcK, ev_dsK, ev_dsK2, ev_lc2E, List.getElem?_cons_zero, List.getElem?_cons_succ, List.set_cons_zero, List.set_cons_succ, List.length_cons, List.length_nil, List.cons_append, List.nil_append, if_true, if_false, Bool.false_eq_true, Bool.true_eq_false, reduceIte, Bool.not_true, Bool.not_false, Bool.and_true, Bool.true_and, Bool.and_false, Bool.false_and, Bool.or_true, Bool.true_or, Bool.or_false, Bool.false_or, decide_eq_true_eq, Nat.reduceAdd, Nat.reduceLeDiff, Nat.zero_add, Int.reduceLT, Int.reduceLE, Int.reduceEq, Int.reduceNeg, Nat.reduceEqDiff, and_self, and_true, true_and, decide_true, decide_false, eq_self, ite_true, ite_false, Int.reduceSub, Int.reduceAdd, Int.cast_ofNat_Int, Int.natCast_add, Int.cast_ofNat_Int, Nat.reduceSub, Nat.add_assoc, String.reduceBEq, String.reduceEq, Bool.or_not_self, beq_self_eq_true, e1, wholeA, withinA, c]
  | _ => simp only [ev_bok, ev_bno, ev_bex, ev_tok, ev_tno, ev_tex, ev_nnx, ev_nrt, ev_nbk, ev_nct, ev_nex, ev_nno, ev_frt, ev_fnx, ev_fex, ev_xok, ev_lsome, ev_lnone, ev_seq, ev_if, ev_ret, ev_retN, ev_drop, ev_nop, ev_brk, ev_cont, ev_asgN, ev_asgT, ev_asgO, ev_mgTup, ev_mgN, ev_mgC, ev_mg0, ev_putL, ev_putO, ev_var, ev_vr, ev_c, ev_op, ev_un, ev_test, ev_tb, ev_notT, ev_andT, ev_orT, ev_ifE, ev_not, ev_nb, ev_and, ev_andK, ev_or, ev_orK, ev_chain, ev_chK, ev_nil, ev_cons, ev_tup, ev_lst, ev_new, ev_call, ev_cb, ev_size, ev_addI, ev_addS, ev_addT, ev_addL, ev_catO, ev_sub, ev_mul, ev_div, ev_mod, ev_p5, ev_p6, ev_p12, ev_p18, ev_p30, ev_neg, ev_ltI, ev_ltS, ev_leI, ev_leS, ev_gt, ev_ge, ev_eqI, ev_eqS, ev_neI, ev_neS, ev_neB, ev_eqB, ev_is, ev_isnot, ev_ixT, ev_ixS, ev_ixR, ev_ixL, ev_ixK, ev_getL, ev_getM, ev_gL, ev_gM, ev_at0, ev_at1, ev_at2, ev_at3, ev_at4, ev_lenS, ev_lenR, ev_lenT, ev_lenL, ev_lenO, ev_lenD, ev_abs, ev_min2, ev_max2, ev_intI, ev_intB, ev_set, ev_fc, ev_setset, ev_last, ev_appk, ev_app0, ev_setk, ev_set0, ev_assoc, ev_lapp, ev_lappA, ev_sl, ev_nopart, ev_part, ev_ptK, ev_slT, ev_slS, ev_slR, ev_slK, ev_tyN, ev_tyB, ev_tyI, ev_tyS, ev_tyT, ev_tyL, ev_tyR, ev_tyRL, ev_isi, ev_isi1, ev_isi2, ev_isi3, ev_isi4, ev_isi5, ev_isiT, ev_isi2K, ev_isTy, ev_list, ev_listK, ev_tuple, ev_tupK, ev_getST, ev_getSR, ev_getSL, ev_all, ev_allK, ev_eqXI, ev_eqXS, ev_neXI, ev_neXS, ev_neXB, ev_eqXB, ev_eqXR, ev_neXR, ev_nil2, ev_eqK, ev_neK, ev_meth, ev_meth0, ev_mth1, ev_mth2, ev_mth3, ev_append, ev_m0, ev_m0K, ev_str, ev_for, ev_miR1, ev_rg1K, ev_miL, ev_liK, ev_miT, ev_tiK, ev_lc, ev_wipe0, ev_wipeS, ev_yes, ev_lenSet, ev_lenSetK, ev_listR, ev_lrK, ev_put2, ev_p2A, ev_p2K, ev_p2E, ev_put1, ev_pt1, ev_addXI, ev_addXB, ev_addXS, ev_addXT, ev_addXL, ev_subXI, ev_subXB, ev_mulXI, ev_mulXB, ev_mulXL, ev_negXI, ev_negXB, ev_strXI, ev_strXB, ev_mulYI, ev_mulYB, ev_mulYL, ev_mulYT, ev_dnew, ev_dnewT, ev_dgetE, ev_getD, ev_gD, ev_keyI, ev_keyS, ev_dgK, ev_dinE, ev_diK, ev_dputE, ev_dpK, ev_dget2E, ev_isDA, ev_isSome, ev_isNone, ev_dg2K, ev_dpop2E, ev_dp2K, ev_dp3S, ev_dp3N, ev_sortedE, ev_srO1, ev_srO2, ev_gLd, ev_srKS, ev_srKI, ev_gDT, ev_gT, ev_tinE, ev_tiKK, ev_keysA, ev_keysN, ev_keysC, ev_dputTE, ev_dptK, ev_dispE, ev_mpN, ev_mpC, ev_pcK, ev_dsK, ev_dsK2, ev_lc2E, List.getElem?_cons_zero, List.getElem?_cons_succ, List.set_cons_zero, List.set_cons_succ, List.length_cons, List.length_nil, List.cons_append, List.nil_append, if_true, if_false, Bool.false_eq_true, Bool.true_eq_false, reduceIte, Bool.not_true, Bool.not_false, Bool.and_true, Bool.true_and, Bool.and_false, Bool.false_and, Bool.or_true, Bool.true_or, Bool.or_false, Bool.false_or, decide_eq_true_eq, Nat.reduceAdd, Nat.reduceLeDiff, Nat.zero_add, Int.reduceLT, Int.reduceLE, Int.reduceEq, Int.reduceNeg, Nat.reduceEqDiff, and_self, and_true, true_and, decide_true, decide_false, eq_self, ite_true, ite_false, Int.reduceSub, Int.reduceAdd, Int.cast_ofNat_Int, Int.natCast_add, Int.cast_ofNat_Int, Nat.reduceSub, Nat.add_assoc, String.reduceBEq, String.reduceEq, Bool.or_not_self, beq_self_eq_true, e1, wholeA, withinA]
theorem tuple_ev {st : Sto} {a : A} {lo hi : Int} (h : ∃ t, tyA st a = some t) : m_is_tuple [a, .int lo, .int hi] st = .ok (.bl (tupleA lo hi a)) st := by
  obtain ⟨t, ht⟩ := h
  rw [st_is_tuple]
  unfold b_is_tuple
  cases a with
  | tup xs =>
    by_cases c : lo ≤ xs.length
    · simp only [ev_bok, ev_bno, ev_bex, ev_tok, ev_tno, ev_tex, ev_nnx, ev_nrt, ev_nbk, ev_nct, ev_nex, ev_nno, ev_frt, ev_fnx, ev_fex, ev_xok, ev_lsome, ev_lnone, ev_seq, ev_if, ev_ret, ev_retN, ev_drop, ev_nop, ev_brk, ev_cont, ev_asgN, ev_asgT, ev_asgO, ev_mgTup, ev_mgN, ev_mgC, ev_mg0, ev_putL, ev_putO, ev_var, ev_vr, ev_c, ev_op, ev_un, ev_test, ev_tb, ev_notT, ev_andT, ev_orT, ev_ifE, ev_not, ev_nb, ev_and, ev_andK, ev_or, ev_orK, ev_chain, ev_chK, ev_nil, ev_cons, ev_tup, ev_lst, ev_new, ev_call, ev_cb, ev_size, ev_addI, ev_addS, ev_addT, ev_addL, ev_catO, ev_sub, ev_mul, ev_div, ev_mod, ev_p5, ev_p6, ev_p12, ev_p18, ev_p30, ev_neg, ev_ltI, ev_ltS, ev_leI, ev_leS, ev_gt, ev_ge, ev_eqI, ev_eqS, ev_neI, ev_neS, ev_neB, ev_eqB, ev_is, ev_isnot, ev_ixT, ev_ixS, ev_ixR, ev_ixL, ev_ixK, ev_getL, ev_getM, ev_gL, ev_gM, ev_at0, ev_at1, ev_at2, ev_at3, ev_at4, ev_lenS, ev_lenR, ev_lenT, ev_lenL, ev_lenO, ev_lenD, ev_abs, ev_min2, ev_max2, ev_intI, ev_intB, ev_set, ev_fc, ev_setset, ev_last, ev_appk, ev_app0, ev_setk, ev_set0, ev_assoc, ev_lapp, ev_lappA, ev_sl, ev_nopart, ev_part, ev_ptK, ev_slT, ev_slS, ev_slR, ev_slK, ev_tyN, ev_tyB, ev_tyI, ev_tyS, ev_tyT, ev_tyL, ev_tyR, ev_tyRL, ev_isi, ev_isi1, ev_isi2, ev_isi3, ev_isi4, ev_isi5, ev_isiT, ev_isi2K, ev_isTy, ev_list, ev_listK, ev_tuple, ev_tupK, ev_getST, ev_getSR, ev_getSL, ev_all, ev_allK, ev_eqXI, ev_eqXS, ev_neXI, ev_neXS, ev_neXB, ev_eqXB, ev_eqXR, ev_neXR, ev_nil2, ev_eqK, ev_neK, ev_meth, ev_meth0, ev_mth1, ev_mth2, ev_mth3, ev_append, ev_m0, ev_m0K, ev_str, ev_for, ev_miR1, ev_rg1K, ev_miL, ev_liK, ev_miT, ev_tiK, ev_lc, ev_wipe0, ev_wipeS, ev_yes, ev_lenSet, ev_lenSetK, ev_listR, ev_lrK, ev_put2, ev_p2A, ev_p2K, ev_p2E, ev_put1, ev_pt1, ev_addXI, ev_addXB, ev_addXS, ev_addXT, ev_addXL, ev_subXI, ev_subXB, ev_mulXI, ev_mulXB, ev_mulXL, ev_negXI, ev_negXB, ev_strXI, ev_strXB, ev_mulYI, ev_mulYB, ev_mulYL, ev_mulYT, ev_dnew, ev_dnewT, ev_dgetE, ev_getD, ev_gD, ev_keyI, ev_keyS, ev_dgK, ev_dinE, ev_diK, ev_dputE, ev_dpK, ev_dget2E, ev_isDA, ev_isSome, ev_isNone, ev_dg2K, ev_dpop2E, ev_dp2K, ev_dp3S, ev_dp3N, ev_sortedE, ev_srO1, ev_srO2, ev_gLd, ev_srKS, ev_srKI, ev_gDT, ev_gT, ev_tinE, ev_tiKK, ev_keysA, ev_keysN, ev_keysC, ev_dputTE, ev_dptK, ev_dispE, ev_mpN, ev_mpC, ev_pcK, ev_dsK, ev_dsK2, ev_lc2E, List.getElem?_cons_zero, List.getElem?_cons_succ, List.set_cons_zero, List.set_cons_succ, List.length_cons, List.length_nil, List.cons_append, List.nil_append, if_true, if_false, Bool.false_eq_true, Bool.true_eq_false, reduceIte, Bool.not_true, Bool.not_false, Bool.and_true, Bool.true_and, Bool.and_false, Bool.false_and, Bool.or_true, Bool.true_or, Bool.or_false, Bool.false_or, decide_eq_true_eq, Nat.reduceAdd, Nat.reduceLeDiff, Nat.zero_add, Int.reduceLT, Int.reduceLE, Int.reduceEq, Int.reduceNeg, Nat.reduceEqDiff, and_self, and_true, true_and, decide_true, decide_false, eq_self, ite_true, ite_false, Int.reduceSub, Int.reduceAdd, Int.cast_ofNat_Int, Int.natCast_add, Int.cast_ofNat_Int, Nat.reduceSub, Nat.add_assoc, String.reduceBEq, String.reduceEq, Bool.or_not_self, beq_self_eq_true, tupleA, c]
    · simp only [ev_bok, ev_bno, ev_bex, ev_tok, ev_tno, ev_tex, ev_nnx, ev_nrt, ev_nbk, ev_nct, ev_nex, ev_nno, ev_frt, ev_fnx, ev_fex, ev_xok, ev_lsome, ev_lnone, ev_seq, ev_if, ev_ret, ev_retN, ev_drop, ev_nop, ev_brk, ev_cont, ev_asgN, ev_asgT, ev_asgO, ev_mgTup, ev_mgN, ev_mgC, ev_mg0, ev_putL, ev_putO, ev_var, ev_vr, ev_c, ev_op, ev_un, ev_test, ev_tb, ev_notT, ev_andT, ev_orT, ev_ifE, ev_not, ev_nb, ev_and, ev_andK, ev_or, ev_orK, ev_chain, ev_chK, ev_nil, ev_cons, ev_tup, ev_lst, ev_new, ev_call, ev_cb, ev_size, ev_addI, ev_addS, ev_addT, ev_addL, ev_catO, ev_sub, ev_mul, ev_div, ev_mod, ev_p5, ev_p6, ev_p12, ev_p18, ev_p30, ev_neg, ev_ltI, ev_ltS, ev_leI, ev_leS, ev_gt, ev_ge, ev_eqI, ev_eqS, ev_neI, ev_neS, ev_neB, ev_eqB, ev_is, ev_isnot, ev_ixT, ev_ixS, ev_ixR, ev_ixL, ev_ixK, ev_getL, ev_getM, ev_gL, ev_gM, ev_at0, ev_at1, ev_at2, ev_at3, ev_at4, ev_lenS, ev_lenR, ev_lenT, ev_lenL, ev_lenO, ev_lenD, ev_abs, ev_min2, ev_max2, ev_intI, ev_intB, ev_set, ev_fc, ev_setset, ev_last, ev_appk, ev_app0, ev_setk, ev_set0, ev_assoc, ev_lapp, ev_lappA, ev_sl, ev_nopart, ev_part, ev_ptK, ev_slT, ev_slS, ev_slR, ev_slK, ev_tyN, ev_tyB, ev_tyI, ev_tyS, ev_tyT, ev_tyL, ev_tyR, ev_tyRL, ev_isi, ev_isi1, ev_isi2, ev_isi3, ev_isi4, ev_isi5, ev_isiT, ev_isi2K, ev_isTy, ev_list, ev_listK, ev_tuple, ev_tupK, ev_getST, ev_getSR, ev_getSL, ev_all, ev_allK, ev_eqXI, ev_eqXS, ev_neXI, ev_neXS, ev_neXB, ev_eqXB, ev_eqXR, ev_neXR, ev_nil2, ev_eqK, ev_neK, ev_meth, ev_meth0, ev_mth1, ev_mth2, ev_mth3, ev_append, ev_m0, ev_m0K, ev_str, ev_for, ev_miR1, ev_rg1K, ev_miL, ev_liK, ev_miT, ev_tiK, ev_lc, ev_wipe0, ev_wipeS, ev_yes, ev_lenSet, ev_lenSetK, ev_listR, ev_lrK, ev_put2, ev_p2A, ev_p2K, ev_p2E, ev_put1, ev_pt1, ev_addXI, ev_addXB, ev_addXS, ev_addXT, ev_addXL, ev_subXI, ev_subXB, ev_mulXI, ev_mulXB, ev_mulXL, ev_negXI, ev_negXB, ev_strXI, ev_strXB, ev_mulYI, ev_mulYB, ev_mulYL, ev_mulYT, ev_dnew, ev_dnewT, ev_dgetE, ev_getD, ev_gD, ev_keyI, ev_keyS, ev_dgK, ev_dinE, ev_diK, ev_dputE, ev_dpK, ev_dget2E, ev_isDA, ev_isSome, ev_isNone, ev_dg2K, ev_dpop2E, ev_dp2K, ev_dp3S, ev_dp3N, ev_sortedE, ev_srO1, ev_srO2, ev_gLd, ev_srKS, ev_srKI, ev_gDT, ev_gT, ev_tinE, ev_tiKK, ev_keysA, ev_keysN, ev_keysC, ev_dputTE, ev_dptK, ev_dispE, ev_mpN, ev_mpC, ev_pcK, ev_dsK, ev_dsK2, ev_lc2E, List.getElem?_cons_zero, List.getElem?_cons_succ, List.set_cons_zero, List.set_cons_succ, List.length_cons, List.length_nil, List.cons_append, List.nil_append, if_true, if_false, Bool.false_eq_true, Bool.true_eq_false, reduceIte, Bool.not_true, Bool.not_false, Bool.and_true, Bool.true_and, Bool.and_false, Bool.false_and, Bool.or_true, Bool.true_or, Bool.or_false, Bool.false_or, decide_eq_true_eq, Nat.reduceAdd, Nat.reduceLeDiff, Nat.zero_add, Int.reduceLT, Int.reduceLE, Int.reduceEq, Int.reduceNeg, Nat.reduceEqDiff, and_self, and_true, true_and, decide_true, decide_false, eq_self, ite_true, ite_false, Int.reduceSub, Int.reduceAdd, Int.cast_ofNat_Int, Int.natCast_add, Int.cast_ofNat_Int, Nat.reduceSub, Nat.add_assoc, String.reduceBEq, String.reduceEq, Bool.or_not_self, beq_self_eq_true, tupleA, c]
  | ref n =>
    obtain ⟨xs, e⟩ := ty_ref ht
    simp only [ev_bok, ev_bno, ev_bex, ev_tok, ev_tno, ev_tex, ev_nnx, ev_nrt, ev_nbk, ev_nct, ev_nex, ev_nno, ev_frt, ev_fnx, ev_fex, ev_xok, ev_lsome, ev_lnone, ev_seq, ev_if, ev_ret, ev_retN, ev_drop, ev_nop, ev_brk, ev_cont, ev_asgN, ev_asgT, ev_asgO, ev_mgTup, ev_mgN, ev_mgC, ev_mg0, ev_putL, ev_putO, ev_var, ev_vr, ev_c, ev_op, ev_un, ev_test, ev_tb, ev_notT, ev_andT, ev_orT, ev_ifE, ev_not, ev_nb, ev_and, ev_andK, ev_or, ev_orK, ev_chain, ev_chK, ev_nil, ev_cons, ev_tup, ev_lst, ev_new, ev_call, ev_cb, ev_size, ev_addI, ev_addS, ev_addT, ev_addL, ev_catO, ev_sub, ev_mul, ev_div, ev_mod, ev_p5, ev_p6, ev_p12, ev_p18, ev_p30, ev_neg, ev_ltI, ev_ltS, ev_leI, ev_leS, ev_gt, ev_ge, ev_eqI, ev_eqS, ev_neI, ev_neS, ev_neB, ev_eqB, ev_is, ev_isnot, ev_ixT, ev_ixS, ev_ixR, ev_ixL, ev_ixK, ev_getL, ev_getM, ev_gL, ev_gM, ev_at0, ev_at1, ev_at2, ev_at3, ev_at4, ev_lenS, ev_lenR, ev_lenT, ev_lenL, ev_lenO, ev_lenD, ev_abs, ev_min2, ev_max2, ev_intI, ev_intB, ev_set, ev_fc, ev_setset, ev_last, ev_appk, ev_app0, ev_setk, ev_set0, ev_assoc, ev_lapp, ev_lappA, ev_sl, ev_nopart, ev_part, ev_ptK, ev_slT, ev_slS, ev_slR, ev_slK, ev_tyN, ev_tyB, ev_tyI, ev_tyS, ev_tyT, ev_tyL, ev_tyR, ev_tyRL, ev_isi, ev_isi1, ev_isi2, ev_isi3, ev_isi4, ev_isi5, ev_isiT, ev_isi2K, ev_isTy, ev_list, ev_listK, ev_tuple, ev_tupK, ev_getST, ev_getSR, ev_getSL, ev_all, ev_allK, ev_eqXI, ev_eqXS, ev_neXI, ev_neXS, ev_neXB, ev_eqXB, ev_eqXR, ev_neXR, ev_nil2, ev_eqK, ev_neK, ev_meth, ev_meth0, ev_mth1, ev_mth2, ev_mth3, ev_append, ev_m0, ev_m0K, ev_str, ev_for, ev_miR1, ev_rg1K, ev_miL, ev_liK, ev_miT, ev_tiK, ev_lc, ev_wipe0, ev_wipeS, ev_yes, ev_lenSet, ev_lenSetK, ev_listR, ev_lrK, ev_put2, ev_p2A, ev_p2K, ev_p2E, ev_put1, ev_pt1, ev_addXI, ev_addXB, ev_addXS, ev_addXT, ev_addXL, ev_subXI, ev_subXB, ev_mulXI, ev_mulXB, ev_mulXL, ev_negXI, ev_negXB, ev_strXI, ev_strXB, ev_mulYI, ev_mulYB, ev_mulYL, ev_mulYT, ev_dnew, ev_dnewT, ev_dgetE, ev_getD, ev_gD, ev_keyI, ev_keyS, ev_dgK, ev_dinE, ev_diK, ev_dputE, ev_dpK, ev_dget2E, ev_isDA, ev_isSome, ev_isNone, ev_dg2K, ev_dpop2E, ev_dp2K, ev_dp3S, ev_dp3N, ev_sortedE, ev_srO1, ev_srO2, ev_gLd, ev_srKS, ev_srKI, ev_gDT, ev_gT, ev_tinE, ev_tiKK, ev_keysA, ev_keysN, ev_keysC, ev_dputTE, ev_dptK, ev_dispE, ev_mpN, ev_mpC, ev_pcK, ev_dsK, ev_dsK2, ev_lc2E, List.getElem?_cons_zero, List.getElem?_cons_succ, List.set_cons_zero, List.set_cons_succ, List.length_cons, List.length_nil, List.cons_append, List.nil_append, if_true, if_false, Bool.false_eq_true, Bool.true_eq_false, reduceIte, Bool.not_true, Bool.not_false, Bool.and_true, Bool.true_and, Bool.and_false, Bool.false_and, Bool.or_true, Bool.true_or, Bool.or_false, Bool.false_or, decide_eq_true_eq, Nat.reduceAdd, Nat.reduceLeDiff, Nat.zero_add, Int.reduceLT, Int.reduceLE, Int.reduceEq, Int.reduceNeg, Nat.reduceEqDiff, and_self, and_true, true_and, decide_true, decide_false, eq_self, ite_true, ite_false, Int.reduceSub, Int.reduceAdd, Int.cast_ofNat_Int, Int.natCast_add, Int.cast_ofNat_Int, Nat.reduceSub, Nat.add_assoc, String.reduceBEq, String.reduceEq, Bool.or_not_self, beq_self_eq_true, e, tupleA]
  | adr x => cases ht
  | ty x => cases ht
  | _ => simp only [ev_bok, ev_bno, ev_bex, ev_tok, ev_tno, ev_tex, ev_nnx, ev_nrt, ev_nbk, ev_nct, ev_nex, ev_nno, ev_frt, ev_fnx, ev_fex, ev_xok, ev_lsome, ev_lnone, ev_seq, ev_if, ev_ret, ev_retN, ev_drop, ev_nop, ev_brk, ev_cont, ev_asgN, ev_asgT, ev_asgO, ev_mgTup, ev_mgN, ev_mgC, ev_mg0, ev_putL, ev_putO, ev_var, ev_vr, ev_c, ev_op, ev_un, ev_test, ev_tb, ev_notT, ev_andT, ev_orT, ev_ifE, ev_not, ev_nb, ev_and, ev_andK, ev_or, ev_orK, ev_chain, ev_chK, ev_nil, ev_cons, ev_tup, ev_lst, ev_new, ev_call, ev_cb, ev_size, ev_addI, ev_addS, ev_addT, ev_addL, ev_catO, ev_sub, ev_mul, ev_div, ev_mod, ev_p5, ev_p6, ev_p12, ev_p18, ev_p30, ev_neg, ev_ltI, ev_ltS, ev_leI, ev_leS, ev_gt, ev_ge, ev_eqI, ev_eqS, ev_neI, ev_neS, ev_neB, ev_eqB, ev_is, ev_isnot, ev_ixT, ev_ixS, ev_ixR, ev_ixL, ev_ixK, ev_getL, ev_getM, ev_gL, ev_gM, ev_at0, ev_at1, ev_at2, ev_at3, ev_at4, ev_lenS, ev_lenR, ev_lenT, ev_lenL, ev_lenO, ev_lenD, ev_abs, ev_min2, ev_max2, ev_intI, ev_intB, ev_set, ev_fc, ev_setset, ev_last, ev_appk, ev_app0, ev_setk, ev_set0, ev_assoc, ev_lapp, ev_lappA, ev_sl, ev_nopart, ev_part, ev_ptK, ev_slT, ev_slS, ev_slR, ev_slK, ev_tyN, ev_tyB, ev_tyI, ev_tyS, ev_tyT, ev_tyL, ev_tyR, ev_tyRL, ev_isi, ev_isi1, ev_isi2, ev_isi3, ev_isi4, ev_isi5, ev_isiT, ev_isi2K, ev_isTy, ev_list, ev_listK, ev_tuple, ev_tupK, ev_getST, ev_getSR, ev_getSL, ev_all, ev_allK, ev_eqXI, ev_eqXS, ev_neXI, ev_neXS, ev_neXB, ev_eqXB, ev_eqXR, ev_neXR, ev_nil2, ev_eqK, ev_neK, ev_meth, ev_meth0, ev_mth1, ev_mth2, ev_mth3, ev_append, ev_m0, ev_m0K, ev_str, ev_for, ev_miR1, ev_rg1K, ev_miL, ev_liK, ev_miT, ev_tiK, ev_lc, ev_wipe0, ev_wipeS, ev_yes, ev_lenSet, ev_lenSetK, ev_listR, ev_lrK, ev_put2, ev_p2A, ev_p2K, ev_p2E, ev_put1, ev_pt1, ev_addXI, ev_addXB, ev_addXS, ev_addXT, ev_addXL, ev_subXI, ev_subXB, ev_mulXI, ev_mulXB, ev_mulXL, ev_negXI, ev_negXB, ev_strXI, ev_strXB, ev_mulYI, ev_mulYB, ev_mulYL, ev_mulYT, ev_dnew, ev_dnewT, ev_dgetE, ev_getD, ev_gD, ev_keyI, ev_keyS, ev_dgK, ev_dinE, ev_diK, ev_dputE, ev_dpK, ev_dget2E, ev_isDA, ev_isSome, ev_isNone, ev_dg2K, ev_dpop2E, ev_dp2K, ev_dp3S, ev_dp3N, ev_sortedE, ev_srO1, ev_srO2, ev_gLd, ev_srKS, ev_srKI, ev_gDT, ev_gT, ev_tinE, ev_tiKK, ev_keysA, ev_keysN, ev_keysC, ev_dputTE, ev_dptK, ev_dispE, ev_mpN, ev_mpC, ev_pcK, ev_dsK, ev_dsK2, ev_lc2E, List.getElem?_cons_zero, List.getElem?_cons_succ, List.set_cons_zero, List.set_cons_succ, List.length_cons, List.length_nil, List.cons_append, List.nil_append, if_true, if_false, Bool.false_eq_true, Bool.true_eq_false, reduceIte, Bool.not_true, Bool.not_false, Bool.and_true, Bool.true_and, Bool.and_false, Bool.false_and, Bool.or_true, Bool.true_or, Bool.or_false, Bool.false_or, decide_eq_true_eq, Nat.reduceAdd, Nat.reduceLeDiff, Nat.zero_add, Int.reduceLT, Int.reduceLE, Int.reduceEq, Int.reduceNeg, Nat.reduceEqDiff, and_self, and_true, true_and, decide_true, decide_false, eq_self, ite_true, ite_false, Int.reduceSub, Int.reduceAdd, Int.cast_ofNat_Int, Int.natCast_add, Int.cast_ofNat_Int, Nat.reduceSub, Nat.add_assoc, String.reduceBEq, String.reduceEq, Bool.or_not_self, beq_self_eq_true, tupleA]

theorem number_ev {st : Sto} {a : A} (h : ∃ t, tyA st a = some t) : m_is_number [a] st = .ok (.bl (numA a)) st := by
  have e1 := whole_ev h
  rw [st_is_number]
  unfold b_is_number
  cases a with
  | int i => simp only [ev_bok, ev_bno, ev_bex, ev_tok, ev_tno, ev_tex, ev_nnx, ev_nrt, ev_nbk, ev_nct, ev_nex, ev_nno, ev_frt, ev_fnx, ev_fex, ev_xok, ev_lsome, ev_lnone, ev_seq, ev_if, ev_ret, ev_retN, ev_drop, ev_nop, ev_brk, ev_cont, ev_asgN, ev_asgT, ev_asgO, ev_mgTup, ev_mgN, ev_mgC, ev_mg0, ev_putL, ev_putO, ev_var, ev_vr, ev_c, ev_op, ev_un, ev_test, ev_tb, ev_notT, ev_andT, ev_orT, ev_ifE, ev_not, ev_nb, ev_and, ev_andK, ev_or, ev_orK, ev_chain, ev_chK, ev_nil, ev_cons, ev_tup, ev_lst, ev_new, ev_call, ev_cb, ev_size, ev_addI, ev_addS, ev_addT, ev_addL, ev_catO, ev_sub, ev_mul, ev_div, ev_mod, ev_p5, ev_p6, ev_p12, ev_p18, ev_p30, ev_neg, ev_ltI, ev_ltS, ev_leI, ev_leS, ev_gt, ev_ge, ev_eqI, ev_eqS, ev_neI, ev_neS, ev_neB, ev_eqB, ev_is, ev_isnot, ev_ixT, ev_ixS, ev_ixR, ev_ixL, ev_ixK, ev_getL, ev_getM, ev_gL, ev_gM, ev_at0, ev_at1, ev_at2, ev_at3, ev_at4, ev_lenS, ev_lenR, ev_lenT, ev_lenL, ev_lenO, ev_lenD, ev_abs, ev_min2, ev_max2, ev_intI, ev_intB, ev_set, ev_fc, ev_setset, ev_last, ev_appk, ev_app0, ev_setk, ev_set0, ev_assoc, ev_lapp, ev_lappA, ev_sl, ev_nopart, ev_part, ev_ptK, ev_slT, ev_slS, ev_slR, ev_slK, ev_tyN, ev_tyB, ev_tyI, ev_tyS, ev_tyT, ev_tyL, ev_tyR, ev_tyRL, ev_isi, ev_isi1, ev_isi2, ev_isi3, ev_isi4, ev_isi5, ev_isiT, ev_isi2K, ev_isTy, ev_list, ev_listK, ev_tuple, ev_tupK, ev_getST, ev_getSR, ev_getSL, ev_all, ev_allK, ev_eqXI, ev_eqXS, ev_neXI, ev_neXS, ev_neXB, ev_eqXB, ev_eqXR, ev_neXR, ev_nil2, ev_eqK, ev_neK, ev_meth, ev_meth0, ev_mth1, ev_mth2, ev_mth3, ev_append, ev_m0, ev_m0K, ev_str, ev_for, ev_miR1, ev_rg1K, ev_miL, ev_liK, ev_miT, ev_tiK, ev_lc, ev_wipe0, ev_wipeS, ev_yes, ev_lenSet, ev_lenSetK, ev_listR, ev_lrK, ev_put2, ev_p2A, ev_p2K, ev_p2E, ev_put1, ev_pt1, ev_addXI, ev_addXB, ev_addXS, ev_addXT, ev_addXL, ev_subXI, ev_subXB, ev_mulXI, ev_mulXB, ev_mulXL, ev_negXI, ev_negXB, ev_strXI, ev_strXB, ev_mulYI, ev_mulYB, ev_mulYL, ev_mulYT, ev_dnew, ev_dnewT, ev_dgetE, ev_getD, ev_gD, ev_keyI, ev_keyS, ev_dgK, ev_dinE, ev_diK, ev_dputE, ev_dpK, ev_dget2E, ev_isDA, ev_isSome, ev_isNone, ev_dg2K, ev_dpop2E, ev_dp2K, ev_dp3S, ev_dp3N, ev_sortedE, ev_srO1, ev_srO2, ev_gLd, ev_srKS, ev_srKI, ev_gDT, ev_gT, ev_tinE, ev_tiKK, ev_keysA, ev_keysN, ev_keysC, ev_dputTE, ev_dptK, ev_dispE, ev_mpN, ev_mpC, ev_pcK, ev_dsK, ev_dsK2, ev_lc2E, List.getElem?_cons_zero, List.getElem?_cons_succ, List.set_cons_zero, List.set_cons_succ, List.length_cons, List.length_nil, List.cons_append, List.nil_append, if_true, if_false, Bool.false_eq_true, Bool.true_eq_false, reduceIte, Bool.not_true, Bool.not_false, Bool.and_true, Bool.true_and, Bool.and_false, Bool.false_and, Bool.or_true, Bool.true_or, Bool.or_false, Bool.false_or, decide_eq_true_eq, Nat.reduceAdd, Nat.reduceLeDiff, Nat.zero_add, Int.reduceLT, Int.reduceLE, Int.reduceEq, Int.reduceNeg, Nat.reduceEqDiff, and_self, and_true, true_and, decide_true, decide_false, eq_self, ite_true, ite_false, Int.reduceSub, Int.reduceAdd, Int.cast_ofNat_Int, Int.natCast_add, Int.cast_ofNat_Int, Nat.reduceSub, Nat.add_assoc, String.reduceBEq, String.reduceEq, Bool.or_not_self, beq_self_eq_true, e1, wholeA, numA]
  | _ => simp only [ev_bok, ev_bno, ev_bex, ev_tok, ev_tno, ev_tex, ev_nnx, ev_nrt, ev_nbk, ev_nct, ev_nex, ev_nno, ev_frt, ev_fnx, ev_fex, ev_xok, ev_lsome, ev_lnone, ev_seq, ev_if, ev_ret, ev_retN, ev_drop, ev_nop, ev_brk, ev_cont, ev_asgN, ev_asgT, ev_asgO, ev_mgTup, ev_mgN, ev_mgC, ev_mg0, ev_putL, ev_putO, ev_var, ev_vr, ev_c, ev_op, ev_un, ev_test, ev_tb, ev_notT, ev_andT, ev_orT, ev_ifE, ev_not, ev_nb, ev_and, ev_andK, ev_or, ev_orK, ev_chain, ev_chK, ev_nil, ev_cons, ev_tup, ev_lst, ev_new, ev_call, ev_cb, ev_size, ev_addI, ev_addS, ev_addT, ev_addL, ev_catO, ev_sub, ev_mul, ev_div, ev_mod, ev_p5, ev_p6, ev_p12, ev_p18, ev_p30, ev_neg, ev_ltI, ev_ltS, ev_leI, ev_leS, ev_gt, ev_ge, ev_eqI, ev_eqS, ev_neI, ev_neS, ev_neB, ev_eqB, ev_is, ev_isnot, ev_ixT, ev_ixS, ev_ixR, ev_ixL, ev_ixK, ev_getL, ev_getM, ev_gL, ev_gM, ev_at0, ev_at1, ev_at2, ev_at3, ev_at4, ev_lenS, ev_lenR, ev_lenT, ev_lenL, ev_lenO, ev_lenD, ev_abs, ev_min2, ev_max2, ev_intI, ev_intB, ev_set, ev_fc, ev_setset, ev_last, ev_appk, ev_app0, ev_setk, ev_set0, ev_assoc, ev_lapp, ev_lappA, ev_sl, ev_nopart, ev_part, ev_ptK, ev_slT, ev_slS, ev_slR, ev_slK, ev_tyN, ev_tyB, ev_tyI, ev_tyS, ev_tyT, ev_tyL, ev_tyR, ev_tyRL, ev_isi, ev_isi1, ev_isi2, ev_isi3, ev_isi4, ev_isi5, ev_isiT, ev_isi2K, ev_isTy, ev_list, ev_listK, ev_tuple, ev_tupK, ev_getST, ev_getSR, ev_getSL, ev_all, ev_allK, ev_eqXI, ev_eqXS, ev_neXI, ev_neXS, ev_neXB, ev_eqXB, ev_eqXR, ev_neXR, ev_nil2, ev_eqK, ev_neK, ev_meth, ev_meth0, ev_mth1, ev_mth2, ev_mth3, ev_append, ev_m0, ev_m0K, ev_str, ev_for, ev_miR1, ev_rg1K, ev_miL, ev_liK, ev_miT, ev_tiK, ev_lc, ev_wipe0, ev_wipeS, ev_yes, ev_lenSet, ev_lenSetK, ev_listR, ev_lrK, ev_put2, ev_p2A, ev_p2K, ev_p2E, ev_put1, ev_pt1, ev_addXI, ev_addXB, ev_addXS, ev_addXT, ev_addXL, ev_subXI, ev_subXB, ev_mulXI, ev_mulXB, ev_mulXL, ev_negXI, ev_negXB, ev_strXI, ev_strXB, ev_mulYI, ev_mulYB, ev_mulYL, ev_mulYT, ev_dnew, ev_dnewT, ev_dgetE, ev_getD, ev_gD, ev_keyI, ev_keyS, ev_dgK, ev_dinE, ev_diK, ev_dputE, ev_dpK, ev_dget2E, ev_isDA, ev_isSome, ev_isNone, ev_dg2K, ev_dpop2E, ev_dp2K, ev_dp3S, ev_dp3N, ev_sortedE, ev_srO1, ev_srO2, ev_gLd, ev_srKS, ev_srKI, ev_gDT, ev_gT, ev_tinE, ev_tiKK, ev_keysA, ev_keysN, ev_keysC, ev_dputTE, ev_dptK, ev_dispE, ev_mpN, ev_mpC, ev_pcK, ev_dsK, ev_dsK2, ev_lc2E, List.getElem?_cons_zero, List.getElem?_cons_succ, List.set_cons_zero, List.set_cons_succ, List.length_cons, List.length_nil, List.cons_append, List.nil_append, if_true, if_false, Bool.false_eq_true, Bool.true_eq_false, reduceIte, Bool.not_true, Bool.not_false, Bool.and_true, Bool.true_and, Bool.and_false, Bool.false_and, Bool.or_true, Bool.true_or, Bool.or_false, Bool.false_or, decide_eq_true_eq, Nat.reduceAdd, Nat.reduceLeDiff, Nat.zero_add, Int.reduceLT, Int.reduceLE, Int.reduceEq, Int.reduceNeg, Nat.reduceEqDiff, and_self, and_true, true_and, decide_true, decide_false, eq_self, ite_true, ite_false, Int.reduceSub, Int.reduceAdd, Int.cast_ofNat_Int, Int.natCast_add, Int.cast_ofNat_Int, Nat.reduceSub, Nat.add_assoc, String.reduceBEq, String.reduceEq, Bool.or_not_self, beq_self_eq_true, e1, wholeA, numA]

def rwS : List Str := ["read", "write"]
def leastA : A → Int
  | .str x => if x = ("write" : Str) then 1 else 0
  | _ => 0
def endA : A → A → Bool
  | .int i, e => withinA (i + 1) 1000000 e
  | _, _ => false
def rowH : A → Bool
  | .tup [t, k, v, b, e] => numA t && inW rwS k && withinA (leastA k) 999 v && withinA 0 1000000 b && endA b e
  | _ => false
theorem rwS_asc : ∀ x ∈ rwS, asc x = true := by decide +kernel
theorem five {xs : List A} (h : xs.length = 5) : ∃ t k v b e, xs = [t, k, v, b, e] := by
  match xs, h with
  | [t, k, v, b, e], _ => exact ⟨t, k, v, b, e, rfl⟩
theorem rowH_len {xs : List A} (h : xs.length ≠ 5) : rowH (.tup xs) = false := by
  unfold rowH
  split
  · rename_i t k v b e heq
    cases heq
    exact absurd rfl h
  · rfl
theorem hrow_ev {st : Sto} {E : Nat → Prop} {s d : Nat} {a : A} (hd : d ≤ 30) (h : gd st E s d a) : m_is_history_row [a] st = .ok (.bl (rowH a)) st := by
  have et : m_is_tuple [a, .int 5, .int 5] st = .ok (.bl (tupleA 5 5 a)) st := tuple_ev (gd_ty h)
  rw [st_is_history_row]
  unfold b_is_history_row
  by_cases h5 : ∃ t k v b e, a = .tup [t, k, v, b, e]
  · obtain ⟨t, k, v, b, e, rfl⟩ := h5
    have et : m_is_tuple [.tup [t, k, v, b, e], .int 5, .int 5] st = .ok (.bl true) st := et
    cases d with
    | zero => exact h.elim
    | succ d =>
      have hi : ∀ x ∈ [t, k, v, b, e], gd st E s d x := by
        rcases h with h | ⟨xs, e', h1, h2⟩ | ⟨n, xs, e', _⟩
        · exact h.elim
        · cases e'
          exact h2
        · cases e'
      have gt := hi t (by simp)
      have gk := hi k (by simp)
      have gv := hi v (by simp)
      have gb := hi b (by simp)
      have ge := hi e (by simp)
      have e1 := number_ev (gd_ty gt)
      have e2 : oNotInX k (.tup [.str "read", .str "write"]) st = .ok (.bl (!inW rwS k)) st := notIn_words (ws := rwS) rwS_asc (by omega) gk
      have e4 : m_is_within [b, .int 0, .int 1000000] st = .ok (.bl (withinA 0 1000000 b)) st := within_ev (gd_ty gb)
      have hr : rowH (.tup [t, k, v, b, e]) = (numA t && inW rwS k && withinA (leastA k) 999 v && withinA 0 1000000 b && endA b e) := rfl
      cases ht : numA t with
      | false =>
        rw [hr, ht]
        simp only [ev_bok, ev_bno, ev_bex, ev_tok, ev_tno, ev_tex, ev_nnx, ev_nrt, ev_nbk, ev_nct, ev_nex, ev_nno, ev_frt, ev_fnx, ev_fex, ev_xok, ev_lsome, ev_lnone, ev_seq, ev_if, ev_ret, ev_retN, ev_drop, ev_nop, ev_brk, ev_cont, ev_asgN, ev_asgT, ev_asgO, ev_mgTup, ev_mgN, ev_mgC, ev_mg0, ev_putL, ev_putO, ev_var, ev_vr, ev_c, ev_op, ev_un, ev_test, ev_tb, ev_notT, ev_andT, ev_orT, ev_ifE, ev_not, ev_nb, ev_and, ev_andK, ev_or, ev_orK, ev_chain, ev_chK, ev_nil, ev_cons, ev_tup, ev_lst, ev_new, ev_call, ev_cb, ev_size, ev_addI, ev_addS, ev_addT, ev_addL, ev_catO, ev_sub, ev_mul, ev_div, ev_mod, ev_p5, ev_p6, ev_p12, ev_p18, ev_p30, ev_neg, ev_ltI, ev_ltS, ev_leI, ev_leS, ev_gt, ev_ge, ev_eqI, ev_eqS, ev_neI, ev_neS, ev_neB, ev_eqB, ev_is, ev_isnot, ev_ixT, ev_ixS, ev_ixR, ev_ixL, ev_ixK, ev_getL, ev_getM, ev_gL, ev_gM, ev_at0, ev_at1, ev_at2, ev_at3, ev_at4, ev_lenS, ev_lenR, ev_lenT, ev_lenL, ev_lenO, ev_lenD, ev_abs, ev_min2, ev_max2, ev_intI, ev_intB, ev_set, ev_fc, ev_setset, ev_last, ev_appk, ev_app0, ev_setk, ev_set0, ev_assoc, ev_lapp, ev_lappA, ev_sl, ev_nopart, ev_part, ev_ptK, ev_slT, ev_slS, ev_slR, ev_slK, ev_tyN, ev_tyB, ev_tyI, ev_tyS, ev_tyT, ev_tyL, ev_tyR, ev_tyRL, ev_isi, ev_isi1, ev_isi2, ev_isi3, ev_isi4, ev_isi5, ev_isiT, ev_isi2K, ev_isTy, ev_list, ev_listK, ev_tuple, ev_tupK, ev_getST, ev_getSR, ev_getSL, ev_all, ev_allK, ev_eqXI, ev_eqXS, ev_neXI, ev_neXS, ev_neXB, ev_eqXB, ev_eqXR, ev_neXR, ev_nil2, ev_eqK, ev_neK, ev_meth, ev_meth0, ev_mth1, ev_mth2, ev_mth3, ev_append, ev_m0, ev_m0K, ev_str, ev_for, ev_miR1, ev_rg1K, ev_miL, ev_liK, ev_miT, ev_tiK, ev_lc, ev_wipe0, ev_wipeS, ev_yes, ev_lenSet, ev_lenSetK, ev_listR, ev_lrK, ev_put2, ev_p2A, ev_p2K, ev_p2E, ev_put1, ev_pt1, ev_addXI, ev_addXB, ev_addXS, ev_addXT, ev_addXL, ev_subXI, ev_subXB, ev_mulXI, ev_mulXB, ev_mulXL, ev_negXI, ev_negXB, ev_strXI, ev_strXB, ev_mulYI, ev_mulYB, ev_mulYL, ev_mulYT, ev_dnew, ev_dnewT, ev_dgetE, ev_getD, ev_gD, ev_keyI, ev_keyS, ev_dgK, ev_dinE, ev_diK, ev_dputE, ev_dpK, ev_dget2E, ev_isDA, ev_isSome, ev_isNone, ev_dg2K, ev_dpop2E, ev_dp2K, ev_dp3S, ev_dp3N, ev_sortedE, ev_srO1, ev_srO2, ev_gLd, ev_srKS, ev_srKI, ev_gDT, ev_gT, ev_tinE, ev_tiKK, ev_keysA, ev_keysN, ev_keysC, ev_dputTE, ev_dptK, ev_dispE, ev_mpN, ev_mpC, ev_pcK, ev_dsK, ev_dsK2, ev_lc2E, List.getElem?_cons_zero, List.getElem?_cons_succ, List.set_cons_zero, List.set_cons_succ, List.length_cons, List.length_nil, List.cons_append, List.nil_append, if_true, if_false, Bool.false_eq_true, Bool.true_eq_false, reduceIte, Bool.not_true, Bool.not_false, Bool.and_true, Bool.true_and, Bool.and_false, Bool.false_and, Bool.or_true, Bool.true_or, Bool.or_false, Bool.false_or, decide_eq_true_eq, Nat.reduceAdd, Nat.reduceLeDiff, Nat.zero_add, Int.reduceLT, Int.reduceLE, Int.reduceEq, Int.reduceNeg, Nat.reduceEqDiff, and_self, and_true, true_and, decide_true, decide_false, eq_self, ite_true, ite_false, Int.reduceSub, Int.reduceAdd, Int.cast_ofNat_Int, Int.natCast_add, Int.cast_ofNat_Int, Nat.reduceSub, Nat.add_assoc, String.reduceBEq, String.reduceEq, Bool.or_not_self, beq_self_eq_true, et, e1, ht]
      | true =>
        cases hk : inW rwS k with
        | false =>
          rw [hr, ht, hk]
          simp only [ev_bok, ev_bno, ev_bex, ev_tok, ev_tno, ev_tex, ev_nnx, ev_nrt, ev_nbk, ev_nct, ev_nex, ev_nno, ev_frt, ev_fnx, ev_fex, ev_xok, ev_lsome, ev_lnone, ev_seq, ev_if, ev_ret, ev_retN, ev_drop, ev_nop, ev_brk, ev_cont, ev_asgN, ev_asgT, ev_asgO, ev_mgTup, ev_mgN, ev_mgC, ev_mg0, ev_putL, ev_putO, ev_var, ev_vr, ev_c, ev_op, ev_un, ev_test, ev_tb, ev_notT, ev_andT, ev_orT, ev_ifE, ev_not, ev_nb, ev_and, ev_andK, ev_or, ev_orK, ev_chain, ev_chK, ev_nil, ev_cons, ev_tup, ev_lst, ev_new, ev_call, ev_cb, ev_size, ev_addI, ev_addS, ev_addT, ev_addL, ev_catO, ev_sub, ev_mul, ev_div, ev_mod, ev_p5, ev_p6, ev_p12, ev_p18, ev_p30, ev_neg, ev_ltI, ev_ltS, ev_leI, ev_leS, ev_gt, ev_ge, ev_eqI, ev_eqS, ev_neI, ev_neS, ev_neB, ev_eqB, ev_is, ev_isnot, ev_ixT, ev_ixS, ev_ixR, ev_ixL, ev_ixK, ev_getL, ev_getM, ev_gL, ev_gM, ev_at0, ev_at1, ev_at2, ev_at3, ev_at4, ev_lenS, ev_lenR, ev_lenT, ev_lenL, ev_lenO, ev_lenD, ev_abs, ev_min2, ev_max2, ev_intI, ev_intB, ev_set, ev_fc, ev_setset, ev_last, ev_appk, ev_app0, ev_setk, ev_set0, ev_assoc, ev_lapp, ev_lappA, ev_sl, ev_nopart, ev_part, ev_ptK, ev_slT, ev_slS, ev_slR, ev_slK, ev_tyN, ev_tyB, ev_tyI, ev_tyS, ev_tyT, ev_tyL, ev_tyR, ev_tyRL, ev_isi, ev_isi1, ev_isi2, ev_isi3, ev_isi4, ev_isi5, ev_isiT, ev_isi2K, ev_isTy, ev_list, ev_listK, ev_tuple, ev_tupK, ev_getST, ev_getSR, ev_getSL, ev_all, ev_allK, ev_eqXI, ev_eqXS, ev_neXI, ev_neXS, ev_neXB, ev_eqXB, ev_eqXR, ev_neXR, ev_nil2, ev_eqK, ev_neK, ev_meth, ev_meth0, ev_mth1, ev_mth2, ev_mth3, ev_append, ev_m0, ev_m0K, ev_str, ev_for, ev_miR1, ev_rg1K, ev_miL, ev_liK, ev_miT, ev_tiK, ev_lc, ev_wipe0, ev_wipeS, ev_yes, ev_lenSet, ev_lenSetK, ev_listR, ev_lrK, ev_put2, ev_p2A, ev_p2K, ev_p2E, ev_put1, ev_pt1, ev_addXI, ev_addXB, ev_addXS, ev_addXT, ev_addXL, ev_subXI, ev_subXB, ev_mulXI, ev_mulXB, ev_mulXL, ev_negXI, ev_negXB, ev_strXI, ev_strXB, ev_mulYI, ev_mulYB, ev_mulYL, ev_mulYT, ev_dnew, ev_dnewT, ev_dgetE, ev_getD, ev_gD, ev_keyI, ev_keyS, ev_dgK, ev_dinE, ev_diK, ev_dputE, ev_dpK, ev_dget2E, ev_isDA, ev_isSome, ev_isNone, ev_dg2K, ev_dpop2E, ev_dp2K, ev_dp3S, ev_dp3N, ev_sortedE, ev_srO1, ev_srO2, ev_gLd, ev_srKS, ev_srKI, ev_gDT, ev_gT, ev_tinE, ev_tiKK, ev_keysA, ev_keysN, ev_keysC, ev_dputTE, ev_dptK, ev_dispE, ev_mpN, ev_mpC, ev_pcK, ev_dsK, ev_dsK2, ev_lc2E, List.getElem?_cons_zero, List.getElem?_cons_succ, List.set_cons_zero, List.set_cons_succ, List.length_cons, List.length_nil, List.cons_append, List.nil_append, if_true, if_false, Bool.false_eq_true, Bool.true_eq_false, reduceIte, Bool.not_true, Bool.not_false, Bool.and_true, Bool.true_and, Bool.and_false, Bool.false_and, Bool.or_true, Bool.true_or, Bool.or_false, Bool.false_or, decide_eq_true_eq, Nat.reduceAdd, Nat.reduceLeDiff, Nat.zero_add, Int.reduceLT, Int.reduceLE, Int.reduceEq, Int.reduceNeg, Nat.reduceEqDiff, and_self, and_true, true_and, decide_true, decide_false, eq_self, ite_true, ite_false, Int.reduceSub, Int.reduceAdd, Int.cast_ofNat_Int, Int.natCast_add, Int.cast_ofNat_Int, Nat.reduceSub, Nat.add_assoc, String.reduceBEq, String.reduceEq, Bool.or_not_self, beq_self_eq_true, et, e1, ht, e2, hk]
        | true =>
          cases k with
          | str x =>
            have e3 : ∀ lo, m_is_within [v, .int lo, .int 999] st = .ok (.bl (withinA lo 999 v)) st := fun lo => within_ev (gd_ty gv)
            rw [hr, ht, hk]
            have fin : ∀ lo : Int, (if x = ("write" : Str) then (1 : Int) else 0) = lo → fin (((((if lo = 1 then (.ok (.int 1) st : Res A) else .ok (.int 0) st)).thenS [some (.tup [t, .str x, v, b, e]), some t, some (.str x), some v, some b, some e, none] fun a s => RF.fl (.nx [some (.tup [t, .str x, v, b, e]), some t, some (.str x), some v, some b, some e, some a]) s)).next (sSeq (sIf (mNotT (mTest (mCall 3 m_is_within (mCons (mVar 3) (mCons (mVar 6) (mCons (mC (.int 999)) mNil)))))) (sRet (mC (.bl false))) sNext) (sRet (mAnd (mCall 3 m_is_within (mCons (mVar 4) (mCons (mC (.int 0)) (mCons (mC (.int 1000000)) mNil)))) (mCall 3 m_is_within (mCons (mVar 5) (mCons (mOp oAddX (mVar 4) (mC (.int 1))) (mCons (mC (.int 1000000)) mNil)))))))) = .ok (.bl (withinA lo 999 v && withinA 0 1000000 b && endA b e)) st := fun lo hlo => by
              have hlo2 : lo = 1 ∨ lo = 0 := by
                by_cases c : x = ("write" : Str)
                · rw [if_pos c] at hlo
                  exact .inl hlo.symm
                · rw [if_neg c] at hlo
                  exact .inr hlo.symm
              have tail : fin (sSeq (sIf (mNotT (mTest (mCall 3 m_is_within (mCons (mVar 3) (mCons (mVar 6) (mCons (mC (.int 999)) mNil)))))) (sRet (mC (.bl false))) sNext) (sRet (mAnd (mCall 3 m_is_within (mCons (mVar 4) (mCons (mC (.int 0)) (mCons (mC (.int 1000000)) mNil)))) (mCall 3 m_is_within (mCons (mVar 5) (mCons (mOp oAddX (mVar 4) (mC (.int 1))) (mCons (mC (.int 1000000)) mNil)))))) [some (.tup [t, .str x, v, b, e]), some t, some (.str x), some v, some b, some e, some (.int lo)] st) = .ok (.bl (withinA lo 999 v && withinA 0 1000000 b && endA b e)) st := by
                cases hv : withinA lo 999 v with
                | false => simp only [ev_bok, ev_bno, ev_bex, ev_tok, ev_tno, ev_tex, ev_nnx, ev_nrt, ev_nbk, ev_nct, ev_nex, ev_nno, ev_frt, ev_fnx, ev_fex, ev_xok, ev_lsome, ev_lnone, ev_seq, ev_if, ev_ret, ev_retN, ev_drop, ev_nop, ev_brk, ev_cont, ev_asgN, ev_asgT, ev_asgO, ev_mgTup, ev_mgN, ev_mgC, ev_mg0, ev_putL, ev_putO, ev_var, ev_vr, ev_c, ev_op, ev_un, ev_test, ev_tb, ev_notT, ev_andT, ev_orT, ev_ifE, ev_not, ev_nb, ev_and, ev_andK, ev_or, ev_orK, ev_chain, ev_chK, ev_nil, ev_cons, ev_tup, ev_lst, ev_new, ev_call, ev_cb, ev_size, ev_addI, ev_addS, ev_addT, ev_addL, ev_catO, ev_sub, ev_mul, ev_div, ev_mod, ev_p5, ev_p6, ev_p12, ev_p18, ev_p30, ev_neg, ev_ltI, ev_ltS, ev_leI, ev_leS, ev_gt, ev_ge, ev_eqI, ev_eqS, ev_neI, ev_neS, ev_neB, ev_eqB, ev_is, ev_isnot, ev_ixT, ev_ixS, ev_ixR, ev_ixL, ev_ixK, ev_getL, ev_getM, ev_gL, ev_gM, ev_at0, ev_at1, ev_at2, ev_at3, ev_at4, ev_lenS, ev_lenR, ev_lenT, ev_lenL, ev_lenO, ev_lenD, ev_abs, ev_min2, ev_max2, ev_intI, ev_intB, ev_set, ev_fc, ev_setset, ev_last, ev_appk, ev_app0, ev_setk, ev_set0, ev_assoc, ev_lapp, ev_lappA, ev_sl, ev_nopart, ev_part, ev_ptK, ev_slT, ev_slS, ev_slR, ev_slK, ev_tyN, ev_tyB, ev_tyI, ev_tyS, ev_tyT, ev_tyL, ev_tyR, ev_tyRL, ev_isi, ev_isi1, ev_isi2, ev_isi3, ev_isi4, ev_isi5, ev_isiT, ev_isi2K, ev_isTy, ev_list, ev_listK, ev_tuple, ev_tupK, ev_getST, ev_getSR, ev_getSL, ev_all, ev_allK, ev_eqXI, ev_eqXS, ev_neXI, ev_neXS, ev_neXB, ev_eqXB, ev_eqXR, ev_neXR, ev_nil2, ev_eqK, ev_neK, ev_meth, ev_meth0, ev_mth1, ev_mth2, ev_mth3, ev_append, ev_m0, ev_m0K, ev_str, ev_for, ev_miR1, ev_rg1K, ev_miL, ev_liK, ev_miT, ev_tiK, ev_lc, ev_wipe0, ev_wipeS, ev_yes, ev_lenSet, ev_lenSetK, ev_listR, ev_lrK, ev_put2, ev_p2A, ev_p2K, ev_p2E, ev_put1, ev_pt1, ev_addXI, ev_addXB, ev_addXS, ev_addXT, ev_addXL, ev_subXI, ev_subXB, ev_mulXI, ev_mulXB, ev_mulXL, ev_negXI, ev_negXB, ev_strXI, ev_strXB, ev_mulYI, ev_mulYB, ev_mulYL, ev_mulYT, ev_dnew, ev_dnewT, ev_dgetE, ev_getD, ev_gD, ev_keyI, ev_keyS, ev_dgK, ev_dinE, ev_diK, ev_dputE, ev_dpK, ev_dget2E, ev_isDA, ev_isSome, ev_isNone, ev_dg2K, ev_dpop2E, ev_dp2K, ev_dp3S, ev_dp3N, ev_sortedE, ev_srO1, ev_srO2, ev_gLd, ev_srKS, ev_srKI, ev_gDT, ev_gT, ev_tinE, ev_tiKK, ev_keysA, ev_keysN, ev_keysC, ev_dputTE, ev_dptK, ev_dispE, ev_mpN, ev_mpC, ev_pcK, ev_dsK, ev_dsK2, ev_lc2E, List.getElem?_cons_zero, List.getElem?_cons_succ, List.set_cons_zero, List.set_cons_succ, List.length_cons, List.length_nil, List.cons_append, List.nil_append, if_true, if_false, Bool.false_eq_true, Bool.true_eq_false, reduceIte, Bool.not_true, Bool.not_false, Bool.and_true, Bool.true_and, Bool.and_false, Bool.false_and, Bool.or_true, Bool.true_or, Bool.or_false, Bool.false_or, decide_eq_true_eq, Nat.reduceAdd, Nat.reduceLeDiff, Nat.zero_add, Int.reduceLT, Int.reduceLE, Int.reduceEq, Int.reduceNeg, Nat.reduceEqDiff, and_self, and_true, true_and, decide_true, decide_false, eq_self, ite_true, ite_false, Int.reduceSub, Int.reduceAdd, Int.cast_ofNat_Int, Int.natCast_add, Int.cast_ofNat_Int, Nat.reduceSub, Nat.add_assoc, String.reduceBEq, String.reduceEq, Bool.or_not_self, beq_self_eq_true, e3, hv]
                | true =>
                  cases b with
                  | int i =>
                    have e5 : m_is_within [e, .int (i + 1), .int 1000000] st = .ok (.bl (withinA (i + 1) 1000000 e)) st := within_ev (gd_ty ge)
                    cases hb : withinA 0 1000000 (.int i) with
                    | false => simp only [ev_bok, ev_bno, ev_bex, ev_tok, ev_tno, ev_tex, ev_nnx, ev_nrt, ev_nbk, ev_nct, ev_nex, ev_nno, ev_frt, ev_fnx, ev_fex, ev_xok, ev_lsome, ev_lnone, ev_seq, ev_if, ev_ret, ev_retN, ev_drop, ev_nop, ev_brk, ev_cont, ev_asgN, ev_asgT, ev_asgO, ev_mgTup, ev_mgN, ev_mgC, ev_mg0, ev_putL, ev_putO, ev_var, ev_vr, ev_c, ev_op, ev_un, ev_test, ev_tb, ev_notT, ev_andT, ev_orT, ev_ifE, ev_not, ev_nb, ev_and, ev_andK, ev_or, ev_orK, ev_chain, ev_chK, ev_nil, ev_cons, ev_tup, ev_lst, ev_new, ev_call, ev_cb, ev_size, ev_addI, ev_addS, ev_addT, ev_addL, ev_catO, ev_sub, ev_mul, ev_div, ev_mod, ev_p5, ev_p6, ev_p12, ev_p18, ev_p30, ev_neg, ev_ltI, ev_ltS, ev_leI, ev_leS, ev_gt, ev_ge, ev_eqI, ev_eqS, ev_neI, ev_neS, ev_neB, ev_eqB, ev_is, ev_isnot, ev_ixT, ev_ixS, ev_ixR, ev_ixL, ev_ixK, ev_getL, ev_getM, ev_gL, ev_gM, ev_at0, ev_at1, ev_at2, ev_at3, ev_at4, ev_lenS, ev_lenR, ev_lenT, ev_lenL, ev_lenO, ev_lenD, ev_abs, ev_min2, ev_max2, ev_intI, ev_intB, ev_set, ev_fc, ev_setset, ev_last, ev_appk, ev_app0, ev_setk, ev_set0, ev_assoc, ev_lapp, ev_lappA, ev_sl, ev_nopart, ev_part, ev_ptK, ev_slT, ev_slS, ev_slR, ev_slK, ev_tyN, ev_tyB, ev_tyI, ev_tyS, ev_tyT, ev_tyL, ev_tyR, ev_tyRL, ev_isi, ev_isi1, ev_isi2, ev_isi3, ev_isi4, ev_isi5, ev_isiT, ev_isi2K, ev_isTy, ev_list, ev_listK, ev_tuple, ev_tupK, ev_getST, ev_getSR, ev_getSL, ev_all, ev_allK, ev_eqXI, ev_eqXS, ev_neXI, ev_neXS, ev_neXB, ev_eqXB, ev_eqXR, ev_neXR, ev_nil2, ev_eqK, ev_neK, ev_meth, ev_meth0, ev_mth1, ev_mth2, ev_mth3, ev_append, ev_m0, ev_m0K, ev_str, ev_for, ev_miR1, ev_rg1K, ev_miL, ev_liK, ev_miT, ev_tiK, ev_lc, ev_wipe0, ev_wipeS, ev_yes, ev_lenSet, ev_lenSetK, ev_listR, ev_lrK, ev_put2, ev_p2A, ev_p2K, ev_p2E, ev_put1, ev_pt1, ev_addXI, ev_addXB, ev_addXS, ev_addXT, ev_addXL, ev_subXI, ev_subXB, ev_mulXI, ev_mulXB, ev_mulXL, ev_negXI, ev_negXB, ev_strXI, ev_strXB, ev_mulYI, ev_mulYB, ev_mulYL, ev_mulYT, ev_dnew, ev_dnewT, ev_dgetE, ev_getD, ev_gD, ev_keyI, ev_keyS, ev_dgK, ev_dinE, ev_diK, ev_dputE, ev_dpK, ev_dget2E, ev_isDA, ev_isSome, ev_isNone, ev_dg2K, ev_dpop2E, ev_dp2K, ev_dp3S, ev_dp3N, ev_sortedE, ev_srO1, ev_srO2, ev_gLd, ev_srKS, ev_srKI, ev_gDT, ev_gT, ev_tinE, ev_tiKK, ev_keysA, ev_keysN, ev_keysC, ev_dputTE, ev_dptK, ev_dispE, ev_mpN, ev_mpC, ev_pcK, ev_dsK, ev_dsK2, ev_lc2E, List.getElem?_cons_zero, List.getElem?_cons_succ, List.set_cons_zero, List.set_cons_succ, List.length_cons, List.length_nil, List.cons_append, List.nil_append, if_true, if_false, Bool.false_eq_true, Bool.true_eq_false, reduceIte, Bool.not_true, Bool.not_false, Bool.and_true, Bool.true_and, Bool.and_false, Bool.false_and, Bool.or_true, Bool.true_or, Bool.or_false, Bool.false_or, decide_eq_true_eq, Nat.reduceAdd, Nat.reduceLeDiff, Nat.zero_add, Int.reduceLT, Int.reduceLE, Int.reduceEq, Int.reduceNeg, Nat.reduceEqDiff, and_self, and_true, true_and, decide_true, decide_false, eq_self, ite_true, ite_false, Int.reduceSub, Int.reduceAdd, Int.cast_ofNat_Int, Int.natCast_add, Int.cast_ofNat_Int, Nat.reduceSub, Nat.add_assoc, String.reduceBEq, String.reduceEq, Bool.or_not_self, beq_self_eq_true, e3, hv, e4, hb]
                    | true => simp only [ev_bok, ev_bno, ev_bex, ev_tok, ev_tno, ev_tex, ev_nnx, ev_nrt, ev_nbk, ev_nct, ev_nex, ev_nno, ev_frt, ev_fnx, ev_fex, ev_xok, ev_lsome, ev_lnone, ev_seq, ev_if, ev_ret, ev_retN, ev_drop, ev_nop, ev_brk, ev_cont, ev_asgN, ev_asgT, ev_asgO, ev_mgTup, ev_mgN, ev_mgC, ev_mg0, ev_putL, ev_putO, ev_var, ev_vr, ev_c, ev_op, ev_un, ev_test, ev_tb, ev_notT, ev_andT, ev_orT, ev_ifE, ev_not, ev_nb, ev_and, ev_andK, ev_or, ev_orK, ev_chain, ev_chK, ev_nil, ev_cons, ev_tup, ev_lst, ev_new, ev_call, ev_cb, ev_size, ev_addI, ev_addS, ev_addT, ev_addL, ev_catO, ev_sub, ev_mul, ev_div, ev_mod, ev_p5, ev_p6, ev_p12, ev_p18, ev_p30, ev_neg, ev_ltI, ev_ltS, ev_leI, ev_leS, ev_gt, ev_ge, ev_eqI, ev_eqS, ev_neI, ev_neS, ev_neB, ev_eqB, ev_is, ev_isnot, ev_ixT, ev_ixS, ev_ixR, ev_ixL, ev_ixK, ev_getL, ev_getM, ev_gL, ev_gM, ev_at0, ev_at1, ev_at2, ev_at3, ev_at4, ev_lenS, ev_lenR, ev_lenT, ev_lenL, ev_lenO, ev_lenD, ev_abs, ev_min2, ev_max2, ev_intI, ev_intB, ev_set, ev_fc, ev_setset, ev_last, ev_appk, ev_app0, ev_setk, ev_set0, ev_assoc, ev_lapp, ev_lappA, ev_sl, ev_nopart, ev_part, ev_ptK, ev_slT, ev_slS, ev_slR, ev_slK, ev_tyN, ev_tyB, ev_tyI, ev_tyS, ev_tyT, ev_tyL, ev_tyR, ev_tyRL, ev_isi, ev_isi1, ev_isi2, ev_isi3, ev_isi4, ev_isi5, ev_isiT, ev_isi2K, ev_isTy, ev_list, ev_listK, ev_tuple, ev_tupK, ev_getST, ev_getSR, ev_getSL, ev_all, ev_allK, ev_eqXI, ev_eqXS, ev_neXI, ev_neXS, ev_neXB, ev_eqXB, ev_eqXR, ev_neXR, ev_nil2, ev_eqK, ev_neK, ev_meth, ev_meth0, ev_mth1, ev_mth2, ev_mth3, ev_append, ev_m0, ev_m0K, ev_str, ev_for, ev_miR1, ev_rg1K, ev_miL, ev_liK, ev_miT, ev_tiK, ev_lc, ev_wipe0, ev_wipeS, ev_yes, ev_lenSet, ev_lenSetK, ev_listR, ev_lrK, ev_put2, ev_p2A, ev_p2K, ev_p2E, ev_put1, ev_pt1, ev_addXI, ev_addXB, ev_addXS, ev_addXT, ev_addXL, ev_subXI, ev_subXB, ev_mulXI, ev_mulXB, ev_mulXL, ev_negXI, ev_negXB, ev_strXI, ev_strXB, ev_mulYI, ev_mulYB, ev_mulYL, ev_mulYT, ev_dnew, ev_dnewT, ev_dgetE, ev_getD, ev_gD, ev_keyI, ev_keyS, ev_dgK, ev_dinE, ev_diK, ev_dputE, ev_dpK, ev_dget2E, ev_isDA, ev_isSome, ev_isNone, ev_dg2K, ev_dpop2E, ev_dp2K, ev_dp3S, ev_dp3N, ev_sortedE, ev_srO1, ev_srO2, ev_gLd, ev_srKS, ev_srKI, ev_gDT, ev_gT, ev_tinE, ev_tiKK, ev_keysA, ev_keysN, ev_keysC, ev_dputTE, ev_dptK, ev_dispE, ev_mpN, ev_mpC, ev_pcK, ev_dsK, ev_dsK2, ev_lc2E, List.getElem?_cons_zero, List.getElem?_cons_succ, List.set_cons_zero, List.set_cons_succ, List.length_cons, List.length_nil, List.cons_append, List.nil_append, if_true, if_false, Bool.false_eq_true, Bool.true_eq_false, reduceIte, Bool.not_true, Bool.not_false, Bool.and_true, Bool.true_and, Bool.and_false, Bool.false_and, Bool.or_true, Bool.true_or, Bool.or_false, Bool.false_or, decide_eq_true_eq, Nat.reduceAdd, Nat.reduceLeDiff, Nat.zero_add, Int.reduceLT, Int.reduceLE, Int.reduceEq, Int.reduceNeg, Nat.reduceEqDiff, and_self, and_true, true_and, decide_true, decide_false, eq_self, ite_true, ite_false, Int.reduceSub, Int.reduceAdd, Int.cast_ofNat_Int, Int.natCast_add, Int.cast_ofNat_Int, Nat.reduceSub, Nat.add_assoc, String.reduceBEq, String.reduceEq, Bool.or_not_self, beq_self_eq_true, e3, hv, e4, hb, e5, endA]
                  | _ =>
                    simp only [withinA] at e4
                    simp only [ev_bok, ev_bno, ev_bex, ev_tok, ev_tno, ev_tex, ev_nnx, ev_nrt, ev_nbk, ev_nct, ev_nex, ev_nno, ev_frt, ev_fnx, ev_fex, ev_xok, ev_lsome, ev_lnone, ev_seq, ev_if, ev_ret, ev_retN, ev_drop, ev_nop, ev_brk, ev_cont, ev_asgN, ev_asgT, ev_asgO, ev_mgTup, ev_mgN, ev_mgC, ev_mg0, ev_putL, ev_putO, ev_var, ev_vr, ev_c, ev_op, ev_un, ev_test, ev_tb, ev_notT, ev_andT, ev_orT, ev_ifE, ev_not, ev_nb, ev_and, ev_andK, ev_or, ev_orK, ev_chain, ev_chK, ev_nil, ev_cons, ev_tup, ev_lst, ev_new, ev_call, ev_cb, ev_size, ev_addI, ev_addS, ev_addT, ev_addL, ev_catO, ev_sub, ev_mul, ev_div, ev_mod, ev_p5, ev_p6, ev_p12, ev_p18, ev_p30, ev_neg, ev_ltI, ev_ltS, ev_leI, ev_leS, ev_gt, ev_ge, ev_eqI, ev_eqS, ev_neI, ev_neS, ev_neB, ev_eqB, ev_is, ev_isnot, ev_ixT, ev_ixS, ev_ixR, ev_ixL, ev_ixK, ev_getL, ev_getM, ev_gL, ev_gM, ev_at0, ev_at1, ev_at2, ev_at3, ev_at4, ev_lenS, ev_lenR, ev_lenT, ev_lenL, ev_lenO, ev_lenD, ev_abs, ev_min2, ev_max2, ev_intI, ev_intB, ev_set, ev_fc, ev_setset, ev_last, ev_appk, ev_app0, ev_setk, ev_set0, ev_assoc, ev_lapp, ev_lappA, ev_sl, ev_nopart, ev_part, ev_ptK, ev_slT, ev_slS, ev_slR, ev_slK, ev_tyN, ev_tyB, ev_tyI, ev_tyS, ev_tyT, ev_tyL, ev_tyR, ev_tyRL, ev_isi, ev_isi1, ev_isi2, ev_isi3, ev_isi4, ev_isi5, ev_isiT, ev_isi2K, ev_isTy, ev_list, ev_listK, ev_tuple, ev_tupK, ev_getST, ev_getSR, ev_getSL, ev_all, ev_allK, ev_eqXI, ev_eqXS, ev_neXI, ev_neXS, ev_neXB, ev_eqXB, ev_eqXR, ev_neXR, ev_nil2, ev_eqK, ev_neK, ev_meth, ev_meth0, ev_mth1, ev_mth2, ev_mth3, ev_append, ev_m0, ev_m0K, ev_str, ev_for, ev_miR1, ev_rg1K, ev_miL, ev_liK, ev_miT, ev_tiK, ev_lc, ev_wipe0, ev_wipeS, ev_yes, ev_lenSet, ev_lenSetK, ev_listR, ev_lrK, ev_put2, ev_p2A, ev_p2K, ev_p2E, ev_put1, ev_pt1, ev_addXI, ev_addXB, ev_addXS, ev_addXT, ev_addXL, ev_subXI, ev_subXB, ev_mulXI, ev_mulXB, ev_mulXL, ev_negXI, ev_negXB, ev_strXI, ev_strXB, ev_mulYI, ev_mulYB, ev_mulYL, ev_mulYT, ev_dnew, ev_dnewT, ev_dgetE, ev_getD, ev_gD, ev_keyI, ev_keyS, ev_dgK, ev_dinE, ev_diK, ev_dputE, ev_dpK, ev_dget2E, ev_isDA, ev_isSome, ev_isNone, ev_dg2K, ev_dpop2E, ev_dp2K, ev_dp3S, ev_dp3N, ev_sortedE, ev_srO1, ev_srO2, ev_gLd, ev_srKS, ev_srKI, ev_gDT, ev_gT, ev_tinE, ev_tiKK, ev_keysA, ev_keysN, ev_keysC, ev_dputTE, ev_dptK, ev_dispE, ev_mpN, ev_mpC, ev_pcK, ev_dsK, ev_dsK2, ev_lc2E, List.getElem?_cons_zero, List.getElem?_cons_succ, List.set_cons_zero, List.set_cons_succ, List.length_cons, List.length_nil, List.cons_append, List.nil_append, if_true, if_false, Bool.false_eq_true, Bool.true_eq_false, reduceIte, Bool.not_true, Bool.not_false, Bool.and_true, Bool.true_and, Bool.and_false, Bool.false_and, Bool.or_true, Bool.true_or, Bool.or_false, Bool.false_or, decide_eq_true_eq, Nat.reduceAdd, Nat.reduceLeDiff, Nat.zero_add, Int.reduceLT, Int.reduceLE, Int.reduceEq, Int.reduceNeg, Nat.reduceEqDiff, and_self, and_true, true_and, decide_true, decide_false, eq_self, ite_true, ite_false, Int.reduceSub, Int.reduceAdd, Int.cast_ofNat_Int, Int.natCast_add, Int.cast_ofNat_Int, Nat.reduceSub, Nat.add_assoc, String.reduceBEq, String.reduceEq, Bool.or_not_self, beq_self_eq_true, e3, hv, e4, endA]
              rcases hlo2 with rfl | rfl
              · exact tail
              · exact tail
            have f := fin _ rfl
            by_cases c : x = ("write" : Str)
            · subst c
              simp only [ev_bok, ev_bno, ev_bex, ev_tok, ev_tno, ev_tex, ev_nnx, ev_nrt, ev_nbk, ev_nct, ev_nex, ev_nno, ev_frt, ev_fnx, ev_fex, ev_xok, ev_lsome, ev_lnone, ev_seq, ev_if, ev_ret, ev_retN, ev_drop, ev_nop, ev_brk, ev_cont, ev_asgN, ev_asgT, ev_asgO, ev_mgTup, ev_mgN, ev_mgC, ev_mg0, ev_putL, ev_putO, ev_var, ev_vr, ev_c, ev_op, ev_un, ev_test, ev_tb, ev_notT, ev_andT, ev_orT, ev_ifE, ev_not, ev_nb, ev_and, ev_andK, ev_or, ev_orK, ev_chain, ev_chK, ev_nil, ev_cons, ev_tup, ev_lst, ev_new, ev_call, ev_cb, ev_size, ev_addI, ev_addS, ev_addT, ev_addL, ev_catO, ev_sub, ev_mul, ev_div, ev_mod, ev_p5, ev_p6, ev_p12, ev_p18, ev_p30, ev_neg, ev_ltI, ev_ltS, ev_leI, ev_leS, ev_gt, ev_ge, ev_eqI, ev_eqS, ev_neI, ev_neS, ev_neB, ev_eqB, ev_is, ev_isnot, ev_ixT, ev_ixS, ev_ixR, ev_ixL, ev_ixK, ev_getL, ev_getM, ev_gL, ev_gM, ev_at0, ev_at1, ev_at2, ev_at3, ev_at4, ev_lenS, ev_lenR, ev_lenT, ev_lenL, ev_lenO, ev_lenD, ev_abs, ev_min2, ev_max2, ev_intI, ev_intB, ev_set, ev_fc, ev_setset, ev_last, ev_appk, ev_app0, ev_setk, ev_set0, ev_assoc, ev_lapp, ev_lappA, ev_sl, ev_nopart, ev_part, ev_ptK, ev_slT, ev_slS, ev_slR, ev_slK, ev_tyN, ev_tyB, ev_tyI, ev_tyS, ev_tyT, ev_tyL, ev_tyR, ev_tyRL, ev_isi, ev_isi1, ev_isi2, ev_isi3, ev_isi4, ev_isi5, ev_isiT, ev_isi2K, ev_isTy, ev_list, ev_listK, ev_tuple, ev_tupK, ev_getST, ev_getSR, ev_getSL, ev_all, ev_allK, ev_eqXI, ev_eqXS, ev_neXI, ev_neXS, ev_neXB, ev_eqXB, ev_eqXR, ev_neXR, ev_nil2, ev_eqK, ev_neK, ev_meth, ev_meth0, ev_mth1, ev_mth2, ev_mth3, ev_append, ev_m0, ev_m0K, ev_str, ev_for, ev_miR1, ev_rg1K, ev_miL, ev_liK, ev_miT, ev_tiK, ev_lc, ev_wipe0, ev_wipeS, ev_yes, ev_lenSet, ev_lenSetK, ev_listR, ev_lrK, ev_put2, ev_p2A, ev_p2K, ev_p2E, ev_put1, ev_pt1, ev_addXI, ev_addXB, ev_addXS, ev_addXT, ev_addXL, ev_subXI, ev_subXB, ev_mulXI, ev_mulXB, ev_mulXL, ev_negXI, ev_negXB, ev_strXI, ev_strXB, ev_mulYI, ev_mulYB, ev_mulYL, ev_mulYT, ev_dnew, ev_dnewT, ev_dgetE, ev_getD, ev_gD, ev_keyI, ev_keyS, ev_dgK, ev_dinE, ev_diK, ev_dputE, ev_dpK, ev_dget2E, ev_isDA, ev_isSome, ev_isNone, ev_dg2K, ev_dpop2E, ev_dp2K, ev_dp3S, ev_dp3N, ev_sortedE, ev_srO1, ev_srO2, ev_gLd, ev_srKS, ev_srKI, ev_gDT, ev_gT, ev_tinE, ev_tiKK, ev_keysA, ev_keysN, ev_keysC, ev_dputTE, ev_dptK, ev_dispE, ev_mpN, ev_mpC, ev_pcK, ev_dsK, ev_dsK2, ev_lc2E, List.getElem?_cons_zero, List.getElem?_cons_succ, List.set_cons_zero, List.set_cons_succ, List.length_cons, List.length_nil, List.cons_append, List.nil_append, if_true, if_false, Bool.false_eq_true, Bool.true_eq_false, reduceIte, Bool.not_true, Bool.not_false, Bool.and_true, Bool.true_and, Bool.and_false, Bool.false_and, Bool.or_true, Bool.true_or, Bool.or_false, Bool.false_or, decide_eq_true_eq, Nat.reduceAdd, Nat.reduceLeDiff, Nat.zero_add, Int.reduceLT, Int.reduceLE, Int.reduceEq, Int.reduceNeg, Nat.reduceEqDiff, and_self, and_true, true_and, decide_true, decide_false, eq_self, ite_true, ite_false, Int.reduceSub, Int.reduceAdd, Int.cast_ofNat_Int, Int.natCast_add, Int.cast_ofNat_Int, Nat.reduceSub, Nat.add_assoc, String.reduceBEq, String.reduceEq, Bool.or_not_self, beq_self_eq_true, et, e1, ht, e2, hk, leastA] at f ⊢
              exact f
            · simp only [ev_bok, ev_bno, ev_bex, ev_tok, ev_tno, ev_tex, ev_nnx, ev_nrt, ev_nbk, ev_nct, ev_nex, ev_nno, ev_frt, ev_fnx, ev_fex, ev_xok, ev_lsome, ev_lnone, ev_seq, ev_if, ev_ret, ev_retN, ev_drop, ev_nop, ev_brk, ev_cont, ev_asgN, ev_asgT, ev_asgO, ev_mgTup, ev_mgN, ev_mgC, ev_mg0, ev_putL, ev_putO, ev_var, ev_vr, ev_c, ev_op, ev_un, ev_test, ev_tb, ev_notT, ev_andT, ev_orT, ev_ifE, ev_not, ev_nb, ev_and, ev_andK, ev_or, ev_orK, ev_chain, ev_chK, ev_nil, ev_cons, ev_tup, ev_lst, ev_new, ev_call, ev_cb, ev_size, ev_addI, ev_addS, ev_addT, ev_addL, ev_catO, ev_sub, ev_mul, ev_div, ev_mod, ev_p5, ev_p6, ev_p12, ev_p18, ev_p30, ev_neg, ev_ltI, ev_ltS, ev_leI, ev_leS, ev_gt, ev_ge, ev_eqI, ev_eqS, ev_neI, ev_neS, ev_neB, ev_eqB, ev_is, ev_isnot, ev_ixT, ev_ixS, ev_ixR, ev_ixL, ev_ixK, ev_getL, ev_getM, ev_gL, ev_gM, ev_at0, ev_at1, ev_at2, ev_at3, ev_at4, ev_lenS, ev_lenR, ev_lenT, ev_lenL, ev_lenO, ev_lenD, ev_abs, ev_min2, ev_max2, ev_intI, ev_intB, ev_set, ev_fc, ev_setset, ev_last, ev_appk, ev_app0, ev_setk, ev_set0, ev_assoc, ev_lapp, ev_lappA, ev_sl, ev_nopart, ev_part, ev_ptK, ev_slT, ev_slS, ev_slR, ev_slK, ev_tyN, ev_tyB, ev_tyI, ev_tyS, ev_tyT, ev_tyL, ev_tyR, ev_tyRL, ev_isi, ev_isi1, ev_isi2, ev_isi3, ev_isi4, ev_isi5, ev_isiT, ev_isi2K, ev_isTy, ev_list, ev_listK, ev_tuple, ev_tupK, ev_getST, ev_getSR, ev_getSL, ev_all, ev_allK, ev_eqXI, ev_eqXS, ev_neXI, ev_neXS, ev_neXB, ev_eqXB, ev_eqXR, ev_neXR, ev_nil2, ev_eqK, ev_neK, ev_meth, ev_meth0, ev_mth1, ev_mth2, ev_mth3, ev_append, ev_m0, ev_m0K, ev_str, ev_for, ev_miR1, ev_rg1K, ev_miL, ev_liK, ev_miT, ev_tiK, ev_lc, ev_wipe0, ev_wipeS, ev_yes, ev_lenSet, ev_lenSetK, ev_listR, ev_lrK, ev_put2, ev_p2A, ev_p2K, ev_p2E, ev_put1, ev_pt1, ev_addXI, ev_addXB, ev_addXS, ev_addXT, ev_addXL, ev_subXI, ev_subXB, ev_mulXI, ev_mulXB, ev_mulXL, ev_negXI, ev_negXB, ev_strXI, ev_strXB, ev_mulYI, ev_mulYB, ev_mulYL, ev_mulYT, ev_dnew, ev_dnewT, ev_dgetE, ev_getD, ev_gD, ev_keyI, ev_keyS, ev_dgK, ev_dinE, ev_diK, ev_dputE, ev_dpK, ev_dget2E, ev_isDA, ev_isSome, ev_isNone, ev_dg2K, ev_dpop2E, ev_dp2K, ev_dp3S, ev_dp3N, ev_sortedE, ev_srO1, ev_srO2, ev_gLd, ev_srKS, ev_srKI, ev_gDT, ev_gT, ev_tinE, ev_tiKK, ev_keysA, ev_keysN, ev_keysC, ev_dputTE, ev_dptK, ev_dispE, ev_mpN, ev_mpC, ev_pcK, ev_dsK, ev_dsK2, ev_lc2E, List.getElem?_cons_zero, List.getElem?_cons_succ, List.set_cons_zero, List.set_cons_succ, List.length_cons, List.length_nil, List.cons_append, List.nil_append, if_true, if_false, Bool.false_eq_true, Bool.true_eq_false, reduceIte, Bool.not_true, Bool.not_false, Bool.and_true, Bool.true_and, Bool.and_false, Bool.false_and, Bool.or_true, Bool.true_or, Bool.or_false, Bool.false_or, decide_eq_true_eq, Nat.reduceAdd, Nat.reduceLeDiff, Nat.zero_add, Int.reduceLT, Int.reduceLE, Int.reduceEq, Int.reduceNeg, Nat.reduceEqDiff, and_self, and_true, true_and, decide_true, decide_false, eq_self, ite_true, ite_false, Int.reduceSub, Int.reduceAdd, Int.cast_ofNat_Int, Int.natCast_add, Int.cast_ofNat_Int, Nat.reduceSub, Nat.add_assoc, String.reduceBEq, String.reduceEq, Bool.or_not_self, beq_self_eq_true, et, e1, ht, e2, hk, c, leastA] at f ⊢
              exact f
          | _ => cases hk
  · have hn : tupleA 5 5 a = false ∧ rowH a = false := by
      cases a with
      | tup xs =>
        have hl : xs.length ≠ 5 := fun z => by
          obtain ⟨t, k, v, b, e, rfl⟩ := five z
          exact h5 ⟨t, k, v, b, e, rfl⟩
        refine ⟨?_, rowH_len hl⟩
        show (decide ((5 : Int) ≤ xs.length) && decide ((xs.length : Int) ≤ 5)) = false
        by_cases c : (5 : Int) ≤ xs.length
        · rw [decide_eq_true c, decide_eq_false (by omega)]
          rfl
        · rw [decide_eq_false c]
          rfl
      | _ => exact ⟨rfl, rfl⟩
    simp only [ev_bok, ev_bno, ev_bex, ev_tok, ev_tno, ev_tex, ev_nnx, ev_nrt, ev_nbk, ev_nct, ev_nex, ev_nno, ev_frt, ev_fnx, ev_fex, ev_xok, ev_lsome, ev_lnone, ev_seq, ev_if, ev_ret, ev_retN, ev_drop, ev_nop, ev_brk, ev_cont, ev_asgN, ev_asgT, ev_asgO, ev_mgTup, ev_mgN, ev_mgC, ev_mg0, ev_putL, ev_putO, ev_var, ev_vr, ev_c, ev_op, ev_un, ev_test, ev_tb, ev_notT, ev_andT, ev_orT, ev_ifE, ev_not, ev_nb, ev_and, ev_andK, ev_or, ev_orK, ev_chain, ev_chK, ev_nil, ev_cons, ev_tup, ev_lst, ev_new, ev_call, ev_cb, ev_size, ev_addI, ev_addS, ev_addT, ev_addL, ev_catO, ev_sub, ev_mul, ev_div, ev_mod, ev_p5, ev_p6, ev_p12, ev_p18, ev_p30, ev_neg, ev_ltI, ev_ltS, ev_leI, ev_leS, ev_gt, ev_ge, ev_eqI, ev_eqS, ev_neI, ev_neS, ev_neB, ev_eqB, ev_is, ev_isnot, ev_ixT, ev_ixS, ev_ixR, ev_ixL, ev_ixK, ev_getL, ev_getM, ev_gL, ev_gM, ev_at0, ev_at1, ev_at2, ev_at3, ev_at4, ev_lenS, ev_lenR, ev_lenT, ev_lenL, ev_lenO, ev_lenD, ev_abs, ev_min2, ev_max2, ev_intI, ev_intB, ev_set, ev_fc, ev_setset, ev_last, ev_appk, ev_app0, ev_setk, ev_set0, ev_assoc, ev_lapp, ev_lappA, ev_sl, ev_nopart, ev_part, ev_ptK, ev_slT, ev_slS, ev_slR, ev_slK, ev_tyN, ev_tyB, ev_tyI, ev_tyS, ev_tyT, ev_tyL, ev_tyR, ev_tyRL, ev_isi, ev_isi1, ev_isi2, ev_isi3, ev_isi4, ev_isi5, ev_isiT, ev_isi2K, ev_isTy, ev_list, ev_listK, ev_tuple, ev_tupK, ev_getST, ev_getSR, ev_getSL, ev_all, ev_allK, ev_eqXI, ev_eqXS, ev_neXI, ev_neXS, ev_neXB, ev_eqXB, ev_eqXR, ev_neXR, ev_nil2, ev_eqK, ev_neK, ev_meth, ev_meth0, ev_mth1, ev_mth2, ev_mth3, ev_append, ev_m0, ev_m0K, ev_str, ev_for, ev_miR1, ev_rg1K, ev_miL, ev_liK, ev_miT, ev_tiK, ev_lc, ev_wipe0, ev_wipeS, ev_yes, ev_lenSet, ev_lenSetK, ev_listR, ev_lrK, ev_put2, ev_p2A, ev_p2K, ev_p2E, ev_put1, ev_pt1, ev_addXI, ev_addXB, ev_addXS, ev_addXT, ev_addXL, ev_subXI, ev_subXB, ev_mulXI, ev_mulXB, ev_mulXL, ev_negXI, ev_negXB, ev_strXI, ev_strXB, ev_mulYI, ev_mulYB, ev_mulYL, ev_mulYT, ev_dnew, ev_dnewT, ev_dgetE, ev_getD, ev_gD, ev_keyI, ev_keyS, ev_dgK, ev_dinE, ev_diK, ev_dputE, ev_dpK, ev_dget2E, ev_isDA, ev_isSome, ev_isNone, ev_dg2K, ev_dpop2E, ev_dp2K, ev_dp3S, ev_dp3N, ev_sortedE, ev_srO1, ev_srO2, ev_gLd, ev_srKS, ev_srKI, ev_gDT, ev_gT, ev_tinE, ev_tiKK, ev_keysA, ev_keysN, ev_keysC, ev_dputTE, ev_dptK, ev_dispE, ev_mpN, ev_mpC, ev_pcK, ev_dsK, ev_dsK2, ev_lc2E, List.getElem?_cons_zero, List.getElem?_cons_succ, List.set_cons_zero, List.set_cons_succ, List.length_cons, List.length_nil, List.cons_append, List.nil_append, if_true, if_false, Bool.false_eq_true, Bool.true_eq_false, reduceIte, Bool.not_true, Bool.not_false, Bool.and_true, Bool.true_and, Bool.and_false, Bool.false_and, Bool.or_true, Bool.true_or, Bool.or_false, Bool.false_or, decide_eq_true_eq, Nat.reduceAdd, Nat.reduceLeDiff, Nat.zero_add, Int.reduceLT, Int.reduceLE, Int.reduceEq, Int.reduceNeg, Nat.reduceEqDiff, and_self, and_true, true_and, decide_true, decide_false, eq_self, ite_true, ite_false, Int.reduceSub, Int.reduceAdd, Int.cast_ofNat_Int, Int.natCast_add, Int.cast_ofNat_Int, Nat.reduceSub, Nat.add_assoc, String.reduceBEq, String.reduceEq, Bool.or_not_self, beq_self_eq_true, et, hn]

/-! ### is_history, by what stands in the store -/
def tOf : A → Int
  | .tup (.int t :: _) => t
  | _ => 0
def vOf : A → Int
  | .tup (_ :: _ :: .int v :: _) => v
  | _ => 0
def isW : A → Bool
  | .tup (_ :: .str k :: _) => decide (k = ("write" : Str))
  | _ => false
theorem rowH_is {x : A} (h : rowH x = true) : ∃ (t v b e : Int) (k : Str), x = .tup [.int t, .str k, .int v, .int b, .int e] ∧ 0 ≤ t ∧ (k = "read" ∨ k = "write") ∧ 0 ≤ v ∧ v ≤ 999 ∧ (k = ("write" : Str) → 1 ≤ v) ∧ 0 ≤ b ∧ b < e ∧ e ≤ 1000000 := by
  unfold rowH at h
  split at h
  · rename_i t k v b e
    simp only [Bool.and_eq_true] at h
    obtain ⟨⟨⟨⟨h1, h2⟩, h3⟩, h4⟩, h5⟩ := h
    cases t <;> first | (cases h1; done) | skip
    cases k <;> first | (cases h2; done) | skip
    cases v <;> first | (cases h3; done) | skip
    cases b <;> first | (cases h4; done) | skip
    rename_i t k v b
    unfold endA at h5
    cases e <;> first | (cases h5; done) | skip
    rename_i e
    have h1 : 0 ≤ t := of_decide_eq_true h1
    have h2 : k = "read" ∨ k = "write" := by
      have : (rwS.any (· == k)) = true := h2
      unfold rwS at this
      simp only [List.any_cons, List.any_nil, Bool.or_false, Bool.or_eq_true, beq_iff_eq] at this
      exact this.imp Eq.symm Eq.symm
    simp only [withinA, Bool.and_eq_true, decide_eq_true_eq] at h4 h5
    obtain ⟨h3a, h3b⟩ := Bool.and_eq_true_iff.mp (show (decide (leastA (.str k) ≤ v) && decide (v ≤ 999)) = true from h3)
    have h3a : (if k = ("write" : Str) then (1 : Int) else 0) ≤ v := of_decide_eq_true h3a
    have h3b := of_decide_eq_true h3b
    have hk : k = ("write" : Str) → 1 ≤ v := fun z => by
      rw [if_pos z] at h3a
      exact h3a
    have h0 : 0 ≤ v := by
      split at h3a <;> omega
    exact ⟨t, v, b, e, k, rfl, h1, h2, h0, h3b, hk, h4.1, by omega, h5.2⟩
  · cases h
def wOfL (xs : List A) : List Int := (xs.filter isW).map vOf
def lastH (xs : List A) (x : A) : Bool := decide (vOf x = 0) || decide (vOf x ∈ wOfL xs)
def histL (xs : List A) : Bool := decide (xs.length ≤ 60) && (xs.all rowH && (decide ((ddup (wOfL xs)).length = (wOfL xs).length) && (decide ((ddup (xs.map tOf)).length = xs.length) && xs.all (lastH xs))))
def histA (st : Sto) : A → Bool
  | .ref n => match st[n]? with
    | some (.lst xs) => histL xs
    | _ => false
  | _ => false
theorem intsOf_map : ∀ ns : List Int, intsOf (ns.map A.int) = some ns
  | [] => rfl
  | n :: ns => by simp only [List.map_cons, intsOf, intsOf_map ns, Option.map_some]
theorem bls_map {α : Type} (f : α → Bool) : ∀ xs : List α, bls (xs.map fun x => A.bl (f x)) = some (xs.map f)
  | [] => rfl
  | n :: ns => by simp only [List.map_cons, bls, bls_map f ns, Option.map_some]
theorem unlike_ev {st : Sto} {n : Nat} {ns : List Int} (e : st[n]? = some (.lst (ns.map A.int))) (h : ns.length ≤ 4000) : m_are_unlike [.ref n] st = .ok (.bl (decide ((ddup ns).length = ns.length))) st := by
  rw [st_are_unlike]
  unfold b_are_unlike
  have e2 : (some (ns.map A.int)).bind intsOf = some ns := intsOf_map ns
  simp only [ev_bok, ev_bno, ev_bex, ev_tok, ev_tno, ev_tex, ev_nnx, ev_nrt, ev_nbk, ev_nct, ev_nex, ev_nno, ev_frt, ev_fnx, ev_fex, ev_xok, ev_lsome, ev_lnone, ev_seq, ev_if, ev_ret, ev_retN, ev_drop, ev_nop, ev_brk, ev_cont, ev_asgN, ev_asgT, ev_asgO, ev_mgTup, ev_mgN, ev_mgC, ev_mg0, ev_putL, ev_putO, ev_var, ev_vr, ev_c, ev_op, ev_un, ev_test, ev_tb, ev_notT, ev_andT, ev_orT, ev_ifE, ev_not, ev_nb, ev_and, ev_andK, ev_or, ev_orK, ev_chain, ev_chK, ev_nil, ev_cons, ev_tup, ev_lst, ev_new, ev_call, ev_cb, ev_size, ev_addI, ev_addS, ev_addT, ev_addL, ev_catO, ev_sub, ev_mul, ev_div, ev_mod, ev_p5, ev_p6, ev_p12, ev_p18, ev_p30, ev_neg, ev_ltI, ev_ltS, ev_leI, ev_leS, ev_gt, ev_ge, ev_eqI, ev_eqS, ev_neI, ev_neS, ev_neB, ev_eqB, ev_is, ev_isnot, ev_ixT, ev_ixS, ev_ixR, ev_ixL, ev_ixK, ev_getL, ev_getM, ev_gL, ev_gM, ev_at0, ev_at1, ev_at2, ev_at3, ev_at4, ev_lenS, ev_lenR, ev_lenT, ev_lenL, ev_lenO, ev_lenD, ev_abs, ev_min2, ev_max2, ev_intI, ev_intB, ev_set, ev_fc, ev_setset, ev_last, ev_appk, ev_app0, ev_setk, ev_set0, ev_assoc, ev_lapp, ev_lappA, ev_sl, ev_nopart, ev_part, ev_ptK, ev_slT, ev_slS, ev_slR, ev_slK, ev_tyN, ev_tyB, ev_tyI, ev_tyS, ev_tyT, ev_tyL, ev_tyR, ev_tyRL, ev_isi, ev_isi1, ev_isi2, ev_isi3, ev_isi4, ev_isi5, ev_isiT, ev_isi2K, ev_isTy, ev_list, ev_listK, ev_tuple, ev_tupK, ev_getST, ev_getSR, ev_getSL, ev_all, ev_allK, ev_eqXI, ev_eqXS, ev_neXI, ev_neXS, ev_neXB, ev_eqXB, ev_eqXR, ev_neXR, ev_nil2, ev_eqK, ev_neK, ev_meth, ev_meth0, ev_mth1, ev_mth2, ev_mth3, ev_append, ev_m0, ev_m0K, ev_str, ev_for, ev_miR1, ev_rg1K, ev_miL, ev_liK, ev_miT, ev_tiK, ev_lc, ev_wipe0, ev_wipeS, ev_yes, ev_lenSet, ev_lenSetK, ev_listR, ev_lrK, ev_put2, ev_p2A, ev_p2K, ev_p2E, ev_put1, ev_pt1, ev_addXI, ev_addXB, ev_addXS, ev_addXT, ev_addXL, ev_subXI, ev_subXB, ev_mulXI, ev_mulXB, ev_mulXL, ev_negXI, ev_negXB, ev_strXI, ev_strXB, ev_mulYI, ev_mulYB, ev_mulYL, ev_mulYT, ev_dnew, ev_dnewT, ev_dgetE, ev_getD, ev_gD, ev_keyI, ev_keyS, ev_dgK, ev_dinE, ev_diK, ev_dputE, ev_dpK, ev_dget2E, ev_isDA, ev_isSome, ev_isNone, ev_dg2K, ev_dpop2E, ev_dp2K, ev_dp3S, ev_dp3N, ev_sortedE, ev_srO1, ev_srO2, ev_gLd, ev_srKS, ev_srKI, ev_gDT, ev_gT, ev_tinE, ev_tiKK, ev_keysA, ev_keysN, ev_keysC, ev_dputTE, ev_dptK, ev_dispE, ev_mpN, ev_mpC, ev_pcK, ev_dsK, ev_dsK2, ev_lc2E, List.getElem?_cons_zero, List.getElem?_cons_succ, List.set_cons_zero, List.set_cons_succ, List.length_cons, List.length_nil, List.cons_append, List.nil_append, if_true, if_false, Bool.false_eq_true, Bool.true_eq_false, reduceIte, Bool.not_true, Bool.not_false, Bool.and_true, Bool.true_and, Bool.and_false, Bool.false_and, Bool.or_true, Bool.true_or, Bool.or_false, Bool.false_or, decide_eq_true_eq, Nat.reduceAdd, Nat.reduceLeDiff, Nat.zero_add, Int.reduceLT, Int.reduceLE, Int.reduceEq, Int.reduceNeg, Nat.reduceEqDiff, and_self, and_true, true_and, decide_true, decide_false, eq_self, ite_true, ite_false, Int.reduceSub, Int.reduceAdd, Int.cast_ofNat_Int, Int.natCast_add, Int.cast_ofNat_Int, Nat.reduceSub, Nat.add_assoc, String.reduceBEq, String.reduceEq, Bool.or_not_self, beq_self_eq_true, e, e2, h, List.length_map]
  congr 3
  exact propext Int.ofNat_inj
theorem in_ints {st : Sto} {n : Nat} {ns : List Int} {v : Int} (e : st[n]? = some (.lst (ns.map A.int))) : oInX (.int v) (.ref n) st = .ok (.bl (decide (v ∈ ns))) st := by
  have hg : getS st (.ref n) = some (ns.map A.int) := by simp only [ev_getSR, ev_getL, e, ev_gL]
  have hf : (ns.map A.int).all flatA = true := by
    rw [List.all_eq_true]
    intro x hx
    obtain ⟨y, _, rfl⟩ := List.mem_map.mp hx
    rfl
  have ha : ((ns.map A.int).any fun y => eqF y (.int v)) = decide (v ∈ ns) := by
    rw [List.any_map]
    by_cases h : v ∈ ns
    · rw [decide_eq_true h, List.any_eq_true]
      exact ⟨v, h, by simp [eqF]⟩
    · rw [decide_eq_false h, List.any_eq_false]
      intro x hx
      simp only [Function.comp, eqF, beq_iff_eq]
      exact fun z => h (z ▸ hx)
  show oInF (.int v) (.ref n) st = _
  unfold oInF inA
  rw [hg]
  show lift ((if flatA (.int v) = true ∧ (ns.map A.int).all flatA = true then some ((ns.map A.int).any fun y => eqF y (.int v)) else none).map A.bl) st = _
  rw [if_pos ⟨rfl, hf⟩, ha]
  rfl
theorem hist_ev {st : Sto} {E : Nat → Prop} {s d : Nat} {a : A} (hd : d ≤ 30) (hs : s ≤ 100) (h : gd st E s d a) : ∃ l, m_is_history [a] st = .ok (.bl (histA st a)) (st ++ l) := by
  rw [st_is_history]
  unfold b_is_history
  have other : ∀ t, tyA st a = some t → isTy t "list" = false → histA st a = false → ∃ l, fin (b_is_history [some a, none, none] st) = .ok (.bl (histA st a)) (st ++ l) := fun t ht hl hh => by
    refine ⟨[], ?_⟩
    unfold b_is_history
    simp only [ev_bok, ev_bno, ev_bex, ev_tok, ev_tno, ev_tex, ev_nnx, ev_nrt, ev_nbk, ev_nct, ev_nex, ev_nno, ev_frt, ev_fnx, ev_fex, ev_xok, ev_lsome, ev_lnone, ev_seq, ev_if, ev_ret, ev_retN, ev_drop, ev_nop, ev_brk, ev_cont, ev_asgN, ev_asgT, ev_asgO, ev_mgTup, ev_mgN, ev_mgC, ev_mg0, ev_putL, ev_putO, ev_var, ev_vr, ev_c, ev_op, ev_un, ev_test, ev_tb, ev_notT, ev_andT, ev_orT, ev_ifE, ev_not, ev_nb, ev_and, ev_andK, ev_or, ev_orK, ev_chain, ev_chK, ev_nil, ev_cons, ev_tup, ev_lst, ev_new, ev_call, ev_cb, ev_size, ev_addI, ev_addS, ev_addT, ev_addL, ev_catO, ev_sub, ev_mul, ev_div, ev_mod, ev_p5, ev_p6, ev_p12, ev_p18, ev_p30, ev_neg, ev_ltI, ev_ltS, ev_leI, ev_leS, ev_gt, ev_ge, ev_eqI, ev_eqS, ev_neI, ev_neS, ev_neB, ev_eqB, ev_is, ev_isnot, ev_ixT, ev_ixS, ev_ixR, ev_ixL, ev_ixK, ev_getL, ev_getM, ev_gL, ev_gM, ev_at0, ev_at1, ev_at2, ev_at3, ev_at4, ev_lenS, ev_lenR, ev_lenT, ev_lenL, ev_lenO, ev_lenD, ev_abs, ev_min2, ev_max2, ev_intI, ev_intB, ev_set, ev_fc, ev_setset, ev_last, ev_appk, ev_app0, ev_setk, ev_set0, ev_assoc, ev_lapp, ev_lappA, ev_sl, ev_nopart, ev_part, ev_ptK, ev_slT, ev_slS, ev_slR, ev_slK, ev_tyN, ev_tyB, ev_tyI, ev_tyS, ev_tyT, ev_tyL, ev_tyR, ev_tyRL, ev_isi, ev_isi1, ev_isi2, ev_isi3, ev_isi4, ev_isi5, ev_isiT, ev_isi2K, ev_list, ev_listK, ev_tuple, ev_tupK, ev_getST, ev_getSR, ev_getSL, ev_all, ev_allK, ev_eqXI, ev_eqXS, ev_neXI, ev_neXS, ev_neXB, ev_eqXB, ev_eqXR, ev_neXR, ev_nil2, ev_eqK, ev_neK, ev_meth, ev_meth0, ev_mth1, ev_mth2, ev_mth3, ev_append, ev_m0, ev_m0K, ev_str, ev_for, ev_miR1, ev_rg1K, ev_miL, ev_liK, ev_miT, ev_tiK, ev_lc, ev_wipe0, ev_wipeS, ev_yes, ev_lenSet, ev_lenSetK, ev_listR, ev_lrK, ev_put2, ev_p2A, ev_p2K, ev_p2E, ev_put1, ev_pt1, ev_addXI, ev_addXB, ev_addXS, ev_addXT, ev_addXL, ev_subXI, ev_subXB, ev_mulXI, ev_mulXB, ev_mulXL, ev_negXI, ev_negXB, ev_strXI, ev_strXB, ev_mulYI, ev_mulYB, ev_mulYL, ev_mulYT, ev_dnew, ev_dnewT, ev_dgetE, ev_getD, ev_gD, ev_keyI, ev_keyS, ev_dgK, ev_dinE, ev_diK, ev_dputE, ev_dpK, ev_dget2E, ev_isDA, ev_isSome, ev_isNone, ev_dg2K, ev_dpop2E, ev_dp2K, ev_dp3S, ev_dp3N, ev_sortedE, ev_srO1, ev_srO2, ev_gLd, ev_srKS, ev_srKI, ev_gDT, ev_gT, ev_tinE, ev_tiKK, ev_keysA, ev_keysN, ev_keysC, ev_dputTE, ev_dptK, ev_dispE, ev_mpN, ev_mpC, ev_pcK, ev_dsK, ev_dsK2, ev_lc2E, List.getElem?_cons_zero, List.getElem?_cons_succ, List.set_cons_zero, List.set_cons_succ, List.length_cons, List.length_nil, List.cons_append, List.nil_append, if_true, if_false, Bool.false_eq_true, Bool.true_eq_false, reduceIte, Bool.not_true, Bool.not_false, Bool.and_true, Bool.true_and, Bool.and_false, Bool.false_and, Bool.or_true, Bool.true_or, Bool.or_false, Bool.false_or, decide_eq_true_eq, Nat.reduceAdd, Nat.reduceLeDiff, Nat.zero_add, Int.reduceLT, Int.reduceLE, Int.reduceEq, Int.reduceNeg, Nat.reduceEqDiff, and_self, and_true, true_and, decide_true, decide_false, eq_self, ite_true, ite_false, Int.reduceSub, Int.reduceAdd, Int.cast_ofNat_Int, Int.natCast_add, Int.cast_ofNat_Int, Nat.reduceSub, Nat.add_assoc, String.reduceBEq, String.reduceEq, Bool.or_not_self, beq_self_eq_true, ht, hl, hh, List.append_nil]
  cases d with
  | zero =>
    cases a with
    | non => exact other _ rfl (by decide) rfl
    | bl _ => exact other _ rfl (by decide) rfl
    | int _ => exact other _ rfl (by decide) rfl
    | str _ => exact other _ rfl (by decide) rfl
    | _ => exact h.elim
  | succ d =>
    rcases id h with h' | ⟨xs, rfl, h1, h2⟩ | ⟨n, xs, rfl, h0, h1, h2, h3⟩
    · cases a with
      | non => exact other _ rfl (by decide) rfl
      | bl _ => exact other _ rfl (by decide) rfl
      | int _ => exact other _ rfl (by decide) rfl
      | str _ => exact other _ rfl (by decide) rfl
      | _ => exact h'.elim
    · exact other _ rfl (by decide) rfl
    · have hA : histA st (.ref n) = histL xs := by simp only [histA, h1]
      rw [hA]
      have hn : n < st.length := (List.getElem?_eq_some_iff.mp h1).1
      have hg : ∀ l, (st ++ l)[n]? = some (.lst xs) := fun l => by rw [List.getElem?_append_left hn]; exact h1
      by_cases h60 : xs.length ≤ 60
      · have c60 : ¬ (60 : Int) < (xs.length : Nat) := by omega
        have l1 : ∀ S : Sto, (∀ l, ∃ l', S ++ l = st ++ l') → lcL S.length (okL (.ref n) xs) (mgName 2) mYes (mCall 1 m_is_history_row (mCons (mVar 2) mNil)) [some (.ref n), none, none] xs (S ++ [.lst []]) = .ok (.ref S.length) (S ++ [.lst (xs.map fun x => .bl (rowH x))]) := fun S hS => by
          rw [lc_pure (s := S) (acc := []) (fun _ => true) (fun x => .bl (rowH x)) rfl ?_ ?_ (by simp only [List.length_nil]; omega)]
          · rw [List.filter_eq_self.mpr (fun _ _ => rfl), List.nil_append]
          · intro acc
            obtain ⟨l', e⟩ := hS [.lst acc]
            rw [e]
            show getL _ _ = _
            simp only [ev_getL, hg, ev_gL]
          · intro x hx acc
            obtain ⟨l', e⟩ := hS [.lst acc]
            have gx : gd (st ++ l') (fun n => E n) s d x := by
              have : ∀ {k : Nat} {a : A}, gd st E s k a → gd (st ++ l') E s k a := fun {k} => by
                induction k with
                | zero => exact fun h => h
                | succ k ihk =>
                  intro a h
                  rcases h with h | ⟨zs, e, h1, h2⟩ | ⟨n, zs, e, h0, h1, h2, h3⟩
                  · exact .inl h
                  · exact .inr (.inl ⟨zs, e, h1, fun x hx => ihk (h2 x hx)⟩)
                  · exact .inr (.inr ⟨n, zs, e, h0, by rw [List.getElem?_append_left (List.getElem?_eq_some_iff.mp h1).1]; exact h1, h2, fun x hx => ihk (h3 x hx)⟩)
              exact this (h3 x hx)
            have er := hrow_ev (by omega) gx
            rw [e]
            refine ⟨_, rfl, rfl, fun _ => ?_⟩
            simp only [ev_bok, ev_bno, ev_bex, ev_tok, ev_tno, ev_tex, ev_nnx, ev_nrt, ev_nbk, ev_nct, ev_nex, ev_nno, ev_frt, ev_fnx, ev_fex, ev_xok, ev_lsome, ev_lnone, ev_seq, ev_if, ev_ret, ev_retN, ev_drop, ev_nop, ev_brk, ev_cont, ev_asgN, ev_asgT, ev_asgO, ev_mgTup, ev_mgN, ev_mgC, ev_mg0, ev_putL, ev_putO, ev_var, ev_vr, ev_c, ev_op, ev_un, ev_test, ev_tb, ev_notT, ev_andT, ev_orT, ev_ifE, ev_not, ev_nb, ev_and, ev_andK, ev_or, ev_orK, ev_chain, ev_chK, ev_nil, ev_cons, ev_tup, ev_lst, ev_new, ev_call, ev_cb, ev_size, ev_addI, ev_addS, ev_addT, ev_addL, ev_catO, ev_sub, ev_mul, ev_div, ev_mod, ev_p5, ev_p6, ev_p12, ev_p18, ev_p30, ev_neg, ev_ltI, ev_ltS, ev_leI, ev_leS, ev_gt, ev_ge, ev_eqI, ev_eqS, ev_neI, ev_neS, ev_neB, ev_eqB, ev_is, ev_isnot, ev_ixT, ev_ixS, ev_ixR, ev_ixL, ev_ixK, ev_getL, ev_getM, ev_gL, ev_gM, ev_at0, ev_at1, ev_at2, ev_at3, ev_at4, ev_lenS, ev_lenR, ev_lenT, ev_lenL, ev_lenO, ev_lenD, ev_abs, ev_min2, ev_max2, ev_intI, ev_intB, ev_set, ev_fc, ev_setset, ev_last, ev_appk, ev_app0, ev_setk, ev_set0, ev_assoc, ev_lapp, ev_lappA, ev_sl, ev_nopart, ev_part, ev_ptK, ev_slT, ev_slS, ev_slR, ev_slK, ev_tyN, ev_tyB, ev_tyI, ev_tyS, ev_tyT, ev_tyL, ev_tyR, ev_tyRL, ev_isi, ev_isi1, ev_isi2, ev_isi3, ev_isi4, ev_isi5, ev_isiT, ev_isi2K, ev_isTy, ev_list, ev_listK, ev_tuple, ev_tupK, ev_getST, ev_getSR, ev_getSL, ev_all, ev_allK, ev_eqXI, ev_eqXS, ev_neXI, ev_neXS, ev_neXB, ev_eqXB, ev_eqXR, ev_neXR, ev_nil2, ev_eqK, ev_neK, ev_meth, ev_meth0, ev_mth1, ev_mth2, ev_mth3, ev_append, ev_m0, ev_m0K, ev_str, ev_for, ev_miR1, ev_rg1K, ev_miL, ev_liK, ev_miT, ev_tiK, ev_lc, ev_wipe0, ev_wipeS, ev_yes, ev_lenSet, ev_lenSetK, ev_listR, ev_lrK, ev_put2, ev_p2A, ev_p2K, ev_p2E, ev_put1, ev_pt1, ev_addXI, ev_addXB, ev_addXS, ev_addXT, ev_addXL, ev_subXI, ev_subXB, ev_mulXI, ev_mulXB, ev_mulXL, ev_negXI, ev_negXB, ev_strXI, ev_strXB, ev_mulYI, ev_mulYB, ev_mulYL, ev_mulYT, ev_dnew, ev_dnewT, ev_dgetE, ev_getD, ev_gD, ev_keyI, ev_keyS, ev_dgK, ev_dinE, ev_diK, ev_dputE, ev_dpK, ev_dget2E, ev_isDA, ev_isSome, ev_isNone, ev_dg2K, ev_dpop2E, ev_dp2K, ev_dp3S, ev_dp3N, ev_sortedE, ev_srO1, ev_srO2, ev_gLd, ev_srKS, ev_srKI, ev_gDT, ev_gT, ev_tinE, ev_tiKK, ev_keysA, ev_keysN, ev_keysC, ev_dputTE, ev_dptK, ev_dispE, ev_mpN, ev_mpC, ev_pcK, ev_dsK, ev_dsK2, ev_lc2E, List.getElem?_cons_zero, List.getElem?_cons_succ, List.set_cons_zero, List.set_cons_succ, List.length_cons, List.length_nil, List.cons_append, List.nil_append, if_true, if_false, Bool.false_eq_true, Bool.true_eq_false, reduceIte, Bool.not_true, Bool.not_false, Bool.and_true, Bool.true_and, Bool.and_false, Bool.false_and, Bool.or_true, Bool.true_or, Bool.or_false, Bool.false_or, decide_eq_true_eq, Nat.reduceAdd, Nat.reduceLeDiff, Nat.zero_add, Int.reduceLT, Int.reduceLE, Int.reduceEq, Int.reduceNeg, Nat.reduceEqDiff, and_self, and_true, true_and, decide_true, decide_false, eq_self, ite_true, ite_false, Int.reduceSub, Int.reduceAdd, Int.cast_ofNat_Int, Int.natCast_add, Int.cast_ofNat_Int, Nat.reduceSub, Nat.add_assoc, String.reduceBEq, String.reduceEq, Bool.or_not_self, beq_self_eq_true, er]
        have e1 := l1 st fun l => ⟨l, rfl⟩
        by_cases hall : xs.all rowH = true
        · have rows := fun x hx => rowH_is (List.all_eq_true.mp hall x hx)
          have okl : ∀ l, getL (st ++ l) (.ref n) = some xs := fun l => by simp only [ev_getL, hg, ev_gL]
          have e2 : ∀ B, lcL (st.length + 1) (okL (.ref n) xs) (mgName 2) (mTest (mOp oEqX (mOp oIxD (mVar 2) (mC (.int 1))) (mC (.str "write")))) (mOp oIxD (mVar 2) (mC (.int 2))) [some (.ref n), none, none] xs (st ++ [B, .lst []]) = .ok (.ref (st.length + 1)) (st ++ [B, .lst ((wOfL xs).map A.int)]) := fun B => by
            have z := lc_pure (n := st.length + 1) (s := st ++ [B]) (acc := []) (xs := xs) (ok := okL (.ref n) xs) (g := mgName 2) (tt := mTest (mOp oEqX (mOp oIxD (mVar 2) (mC (.int 1))) (mC (.str "write")))) (te := mOp oIxD (mVar 2) (mC (.int 2))) (env := [some (.ref n), none, none]) isW (fun x => .int (vOf x)) (by rw [List.length_append]; rfl) (fun acc => by rw [List.append_assoc]; exact okl _) (fun x hx acc => by
              obtain ⟨t, v, b, e, k, rfl, _⟩ := rows x hx
              refine ⟨_, rfl, ?_, fun _ => ?_⟩
              · simp only [ev_bok, ev_bno, ev_bex, ev_tok, ev_tno, ev_tex, ev_nnx, ev_nrt, ev_nbk, ev_nct, ev_nex, ev_nno, ev_frt, ev_fnx, ev_fex, ev_xok, ev_lsome, ev_lnone, ev_seq, ev_if, ev_ret, ev_retN, ev_drop, ev_nop, ev_brk, ev_cont, ev_asgN, ev_asgT, ev_asgO, ev_mgTup, ev_mgN, ev_mgC, ev_mg0, ev_putL, ev_putO, ev_var, ev_vr, ev_c, ev_op, ev_un, ev_test, ev_tb, ev_notT, ev_andT, ev_orT, ev_ifE, ev_not, ev_nb, ev_and, ev_andK, ev_or, ev_orK, ev_chain, ev_chK, ev_nil, ev_cons, ev_tup, ev_lst, ev_new, ev_call, ev_cb, ev_size, ev_addI, ev_addS, ev_addT, ev_addL, ev_catO, ev_sub, ev_mul, ev_div, ev_mod, ev_p5, ev_p6, ev_p12, ev_p18, ev_p30, ev_neg, ev_ltI, ev_ltS, ev_leI, ev_leS, ev_gt, ev_ge, ev_eqI, ev_eqS, ev_neI, ev_neS, ev_neB, ev_eqB, ev_is, ev_isnot, ev_ixT, ev_ixS, ev_ixR, ev_ixL, ev_ixK, ev_getL, ev_getM, ev_gL, ev_gM, ev_at0, ev_at1, ev_at2, ev_at3, ev_at4, ev_lenS, ev_lenR, ev_lenT, ev_lenL, ev_lenO, ev_lenD, ev_abs, ev_min2, ev_max2, ev_intI, ev_intB, ev_set, ev_fc, ev_setset, ev_last, ev_appk, ev_app0, ev_setk, ev_set0, ev_assoc, ev_lapp, ev_lappA, ev_sl, ev_nopart, ev_part, ev_ptK, ev_slT, ev_slS, ev_slR, ev_slK, ev_tyN, ev_tyB, ev_tyI, ev_tyS, ev_tyT, ev_tyL, ev_tyR, ev_tyRL, ev_isi, ev_isi1, ev_isi2, ev_isi3, ev_isi4, ev_isi5, ev_isiT, ev_isi2K, ev_isTy, ev_list, ev_listK, ev_tuple, ev_tupK, ev_getST, ev_getSR, ev_getSL, ev_all, ev_allK, ev_eqXI, ev_eqXS, ev_neXI, ev_neXS, ev_neXB, ev_eqXB, ev_eqXR, ev_neXR, ev_nil2, ev_eqK, ev_neK, ev_meth, ev_meth0, ev_mth1, ev_mth2, ev_mth3, ev_append, ev_m0, ev_m0K, ev_str, ev_for, ev_miR1, ev_rg1K, ev_miL, ev_liK, ev_miT, ev_tiK, ev_lc, ev_wipe0, ev_wipeS, ev_yes, ev_lenSet, ev_lenSetK, ev_listR, ev_lrK, ev_put2, ev_p2A, ev_p2K, ev_p2E, ev_put1, ev_pt1, ev_addXI, ev_addXB, ev_addXS, ev_addXT, ev_addXL, ev_subXI, ev_subXB, ev_mulXI, ev_mulXB, ev_mulXL, ev_negXI, ev_negXB, ev_strXI, ev_strXB, ev_mulYI, ev_mulYB, ev_mulYL, ev_mulYT, ev_dnew, ev_dnewT, ev_dgetE, ev_getD, ev_gD, ev_keyI, ev_keyS, ev_dgK, ev_dinE, ev_diK, ev_dputE, ev_dpK, ev_dget2E, ev_isDA, ev_isSome, ev_isNone, ev_dg2K, ev_dpop2E, ev_dp2K, ev_dp3S, ev_dp3N, ev_sortedE, ev_srO1, ev_srO2, ev_gLd, ev_srKS, ev_srKI, ev_gDT, ev_gT, ev_tinE, ev_tiKK, ev_keysA, ev_keysN, ev_keysC, ev_dputTE, ev_dptK, ev_dispE, ev_mpN, ev_mpC, ev_pcK, ev_dsK, ev_dsK2, ev_lc2E, List.getElem?_cons_zero, List.getElem?_cons_succ, List.set_cons_zero, List.set_cons_succ, List.length_cons, List.length_nil, List.cons_append, List.nil_append, if_true, if_false, Bool.false_eq_true, Bool.true_eq_false, reduceIte, Bool.not_true, Bool.not_false, Bool.and_true, Bool.true_and, Bool.and_false, Bool.false_and, Bool.or_true, Bool.true_or, Bool.or_false, Bool.false_or, decide_eq_true_eq, Nat.reduceAdd, Nat.reduceLeDiff, Nat.zero_add, Int.reduceLT, Int.reduceLE, Int.reduceEq, Int.reduceNeg, Nat.reduceEqDiff, and_self, and_true, true_and, decide_true, decide_false, eq_self, ite_true, ite_false, Int.reduceSub, Int.reduceAdd, Int.cast_ofNat_Int, Int.natCast_add, Int.cast_ofNat_Int, Nat.reduceSub, Nat.add_assoc, String.reduceBEq, String.reduceEq, Bool.or_not_self, beq_self_eq_true, isW]
              · simp only [ev_bok, ev_bno, ev_bex, ev_tok, ev_tno, ev_tex, ev_nnx, ev_nrt, ev_nbk, ev_nct, ev_nex, ev_nno, ev_frt, ev_fnx, ev_fex, ev_xok, ev_lsome, ev_lnone, ev_seq, ev_if, ev_ret, ev_retN, ev_drop, ev_nop, ev_brk, ev_cont, ev_asgN, ev_asgT, ev_asgO, ev_mgTup, ev_mgN, ev_mgC, ev_mg0, ev_putL, ev_putO, ev_var, ev_vr, ev_c, ev_op, ev_un, ev_test, ev_tb, ev_notT, ev_andT, ev_orT, ev_ifE, ev_not, ev_nb, ev_and, ev_andK, ev_or, ev_orK, ev_chain, ev_chK, ev_nil, ev_cons, ev_tup, ev_lst, ev_new, ev_call, ev_cb, ev_size, ev_addI, ev_addS, ev_addT, ev_addL, ev_catO, ev_sub, ev_mul, ev_div, ev_mod, ev_p5, ev_p6, ev_p12, ev_p18, ev_p30, ev_neg, ev_ltI, ev_ltS, ev_leI, ev_leS, ev_gt, ev_ge, ev_eqI, ev_eqS, ev_neI, ev_neS, ev_neB, ev_eqB, ev_is, ev_isnot, ev_ixT, ev_ixS, ev_ixR, ev_ixL, ev_ixK, ev_getL, ev_getM, ev_gL, ev_gM, ev_at0, ev_at1, ev_at2, ev_at3, ev_at4, ev_lenS, ev_lenR, ev_lenT, ev_lenL, ev_lenO, ev_lenD, ev_abs, ev_min2, ev_max2, ev_intI, ev_intB, ev_set, ev_fc, ev_setset, ev_last, ev_appk, ev_app0, ev_setk, ev_set0, ev_assoc, ev_lapp, ev_lappA, ev_sl, ev_nopart, ev_part, ev_ptK, ev_slT, ev_slS, ev_slR, ev_slK, ev_tyN, ev_tyB, ev_tyI, ev_tyS, ev_tyT, ev_tyL, ev_tyR, ev_tyRL, ev_isi, ev_isi1, ev_isi2, ev_isi3, ev_isi4, ev_isi5, ev_isiT, ev_isi2K, ev_isTy, ev_list, ev_listK, ev_tuple, ev_tupK, ev_getST, ev_getSR, ev_getSL, ev_all, ev_allK, ev_eqXI, ev_eqXS, ev_neXI, ev_neXS, ev_neXB, ev_eqXB, ev_eqXR, ev_neXR, ev_nil2, ev_eqK, ev_neK, ev_meth, ev_meth0, ev_mth1, ev_mth2, ev_mth3, ev_append, ev_m0, ev_m0K, ev_str, ev_for, ev_miR1, ev_rg1K, ev_miL, ev_liK, ev_miT, ev_tiK, ev_lc, ev_wipe0, ev_wipeS, ev_yes, ev_lenSet, ev_lenSetK, ev_listR, ev_lrK, ev_put2, ev_p2A, ev_p2K, ev_p2E, ev_put1, ev_pt1, ev_addXI, ev_addXB, ev_addXS, ev_addXT, ev_addXL, ev_subXI, ev_subXB, ev_mulXI, ev_mulXB, ev_mulXL, ev_negXI, ev_negXB, ev_strXI, ev_strXB, ev_mulYI, ev_mulYB, ev_mulYL, ev_mulYT, ev_dnew, ev_dnewT, ev_dgetE, ev_getD, ev_gD, ev_keyI, ev_keyS, ev_dgK, ev_dinE, ev_diK, ev_dputE, ev_dpK, ev_dget2E, ev_isDA, ev_isSome, ev_isNone, ev_dg2K, ev_dpop2E, ev_dp2K, ev_dp3S, ev_dp3N, ev_sortedE, ev_srO1, ev_srO2, ev_gLd, ev_srKS, ev_srKI, ev_gDT, ev_gT, ev_tinE, ev_tiKK, ev_keysA, ev_keysN, ev_keysC, ev_dputTE, ev_dptK, ev_dispE, ev_mpN, ev_mpC, ev_pcK, ev_dsK, ev_dsK2, ev_lc2E, List.getElem?_cons_zero, List.getElem?_cons_succ, List.set_cons_zero, List.set_cons_succ, List.length_cons, List.length_nil, List.cons_append, List.nil_append, if_true, if_false, Bool.false_eq_true, Bool.true_eq_false, reduceIte, Bool.not_true, Bool.not_false, Bool.and_true, Bool.true_and, Bool.and_false, Bool.false_and, Bool.or_true, Bool.true_or, Bool.or_false, Bool.false_or, decide_eq_true_eq, Nat.reduceAdd, Nat.reduceLeDiff, Nat.zero_add, Int.reduceLT, Int.reduceLE, Int.reduceEq, Int.reduceNeg, Nat.reduceEqDiff, and_self, and_true, true_and, decide_true, decide_false, eq_self, ite_true, ite_false, Int.reduceSub, Int.reduceAdd, Int.cast_ofNat_Int, Int.natCast_add, Int.cast_ofNat_Int, Nat.reduceSub, Nat.add_assoc, String.reduceBEq, String.reduceEq, Bool.or_not_self, beq_self_eq_true, vOf]) (by simp only [List.length_nil]; omega)
            simpa only [List.append_assoc, List.cons_append, List.nil_append, wOfL, List.map_map, Function.comp_def] using z
          have e3 : ∀ B C, lcL (st.length + 2) (okL (.ref n) xs) (mgName 2) mYes (mOp oIxD (mVar 2) (mC (.int 0))) [some (.ref n), some (.ref (st.length + 1)), none] xs (st ++ [B, C, .lst []]) = .ok (.ref (st.length + 2)) (st ++ [B, C, .lst ((xs.map tOf).map A.int)]) := fun B C => by
            have z := lc_pure (n := st.length + 2) (s := st ++ [B, C]) (acc := []) (xs := xs) (ok := okL (.ref n) xs) (g := mgName 2) (tt := mYes) (te := mOp oIxD (mVar 2) (mC (.int 0))) (env := [some (.ref n), some (.ref (st.length + 1)), none]) (fun _ => true) (fun x => .int (tOf x)) (by rw [List.length_append]; rfl) (fun acc => by rw [List.append_assoc]; exact okl _) (fun x hx acc => by
              obtain ⟨t, v, b, e, k, rfl, _⟩ := rows x hx
              refine ⟨_, rfl, rfl, fun _ => ?_⟩
              simp only [ev_bok, ev_bno, ev_bex, ev_tok, ev_tno, ev_tex, ev_nnx, ev_nrt, ev_nbk, ev_nct, ev_nex, ev_nno, ev_frt, ev_fnx, ev_fex, ev_xok, ev_lsome, ev_lnone, ev_seq, ev_if, ev_ret, ev_retN, ev_drop, ev_nop, ev_brk, ev_cont, ev_asgN, ev_asgT, ev_asgO, ev_mgTup, ev_mgN, ev_mgC, ev_mg0, ev_putL, ev_putO, ev_var, ev_vr, ev_c, ev_op, ev_un, ev_test, ev_tb, ev_notT, ev_andT, ev_orT, ev_ifE, ev_not, ev_nb, ev_and, ev_andK, ev_or, ev_orK, ev_chain, ev_chK, ev_nil, ev_cons, ev_tup, ev_lst, ev_new, ev_call, ev_cb, ev_size, ev_addI, ev_addS, ev_addT, ev_addL, ev_catO, ev_sub, ev_mul, ev_div, ev_mod, ev_p5, ev_p6, ev_p12, ev_p18, ev_p30, ev_neg, ev_ltI, ev_ltS, ev_leI, ev_leS, ev_gt, ev_ge, ev_eqI, ev_eqS, ev_neI, ev_neS, ev_neB, ev_eqB, ev_is, ev_isnot, ev_ixT, ev_ixS, ev_ixR, ev_ixL, ev_ixK, ev_getL, ev_getM, ev_gL, ev_gM, ev_at0, ev_at1, ev_at2, ev_at3, ev_at4, ev_lenS, ev_lenR, ev_lenT, ev_lenL, ev_lenO, ev_lenD, ev_abs, ev_min2, ev_max2, ev_intI, ev_intB, ev_set, ev_fc, ev_setset, ev_last, ev_appk, ev_app0, ev_setk, ev_set0, ev_assoc, ev_lapp, ev_lappA, ev_sl, ev_nopart, ev_part, ev_ptK, ev_slT, ev_slS, ev_slR, ev_slK, ev_tyN, ev_tyB, ev_tyI, ev_tyS, ev_tyT, ev_tyL, ev_tyR, ev_tyRL, ev_isi, ev_isi1, ev_isi2, ev_isi3, ev_isi4, ev_isi5, ev_isiT, ev_isi2K, ev_isTy, ev_list, ev_listK, ev_tuple, ev_tupK, ev_getST, ev_getSR, ev_getSL, ev_all, ev_allK, ev_eqXI, ev_eqXS, ev_neXI, ev_neXS, ev_neXB, ev_eqXB, ev_eqXR, ev_neXR, ev_nil2, ev_eqK, ev_neK, ev_meth, ev_meth0, ev_mth1, ev_mth2, ev_mth3, ev_append, ev_m0, ev_m0K, ev_str, ev_for, ev_miR1, ev_rg1K, ev_miL, ev_liK, ev_miT, ev_tiK, ev_lc, ev_wipe0, ev_wipeS, ev_yes, ev_lenSet, ev_lenSetK, ev_listR, ev_lrK, ev_put2, ev_p2A, ev_p2K, ev_p2E, ev_put1, ev_pt1, ev_addXI, ev_addXB, ev_addXS, ev_addXT, ev_addXL, ev_subXI, ev_subXB, ev_mulXI, ev_mulXB, ev_mulXL, ev_negXI, ev_negXB, ev_strXI, ev_strXB, ev_mulYI, ev_mulYB, ev_mulYL, ev_mulYT, ev_dnew, ev_dnewT, ev_dgetE, ev_getD, ev_gD, ev_keyI, ev_keyS, ev_dgK, ev_dinE, ev_diK, ev_dputE, ev_dpK, ev_dget2E, ev_isDA, ev_isSome, ev_isNone, ev_dg2K, ev_dpop2E, ev_dp2K, ev_dp3S, ev_dp3N, ev_sortedE, ev_srO1, ev_srO2, ev_gLd, ev_srKS, ev_srKI, ev_gDT, ev_gT, ev_tinE, ev_tiKK, ev_keysA, ev_keysN, ev_keysC, ev_dputTE, ev_dptK, ev_dispE, ev_mpN, ev_mpC, ev_pcK, ev_dsK, ev_dsK2, ev_lc2E, List.getElem?_cons_zero, List.getElem?_cons_succ, List.set_cons_zero, List.set_cons_succ, List.length_cons, List.length_nil, List.cons_append, List.nil_append, if_true, if_false, Bool.false_eq_true, Bool.true_eq_false, reduceIte, Bool.not_true, Bool.not_false, Bool.and_true, Bool.true_and, Bool.and_false, Bool.false_and, Bool.or_true, Bool.true_or, Bool.or_false, Bool.false_or, decide_eq_true_eq, Nat.reduceAdd, Nat.reduceLeDiff, Nat.zero_add, Int.reduceLT, Int.reduceLE, Int.reduceEq, Int.reduceNeg, Nat.reduceEqDiff, and_self, and_true, true_and, decide_true, decide_false, eq_self, ite_true, ite_false, Int.reduceSub, Int.reduceAdd, Int.cast_ofNat_Int, Int.natCast_add, Int.cast_ofNat_Int, Nat.reduceSub, Nat.add_assoc, String.reduceBEq, String.reduceEq, Bool.or_not_self, beq_self_eq_true, tOf]) (by simp only [List.length_nil]; omega)
            rw [List.filter_eq_self.mpr (fun _ _ => rfl)] at z
            simpa only [List.append_assoc, List.cons_append, List.nil_append, List.map_map, Function.comp_def] using z
          have e4 : ∀ B D, lcL (st.length + 3) (okL (.ref n) xs) (mgName 2) mYes (mOr (mOp oEqX (mOp oIxD (mVar 2) (mC (.int 2))) (mC (.int 0))) (mOp oInX (mOp oIxD (mVar 2) (mC (.int 2))) (mVar 1))) [some (.ref n), some (.ref (st.length + 1)), none] xs (st ++ [B, .lst ((wOfL xs).map A.int), D, .lst []]) = .ok (.ref (st.length + 3)) (st ++ [B, .lst ((wOfL xs).map A.int), D, .lst (xs.map fun x => .bl (lastH xs x))]) := fun B D => by
            have z := lc_pure (n := st.length + 3) (s := st ++ [B, .lst ((wOfL xs).map A.int), D]) (acc := []) (xs := xs) (ok := okL (.ref n) xs) (g := mgName 2) (tt := mYes) (te := mOr (mOp oEqX (mOp oIxD (mVar 2) (mC (.int 2))) (mC (.int 0))) (mOp oInX (mOp oIxD (mVar 2) (mC (.int 2))) (mVar 1))) (env := [some (.ref n), some (.ref (st.length + 1)), none]) (fun _ => true) (fun x => .bl (lastH xs x)) (by rw [List.length_append]; rfl) (fun acc => by rw [List.append_assoc]; exact okl _) (fun x hx acc => by
              obtain ⟨t, v, b, e, k, rfl, _⟩ := rows x hx
              refine ⟨_, rfl, rfl, fun _ => ?_⟩
              have ei : ∀ v, oInX (.int v) (.ref (st.length + 1)) (st ++ [B, .lst ((wOfL xs).map A.int), D, .lst acc]) = .ok (.bl (decide (v ∈ wOfL xs))) (st ++ [B, .lst ((wOfL xs).map A.int), D, .lst acc]) := fun v => in_ints ev_appk
              by_cases hv : v = 0
              · simp only [ev_bok, ev_bno, ev_bex, ev_tok, ev_tno, ev_tex, ev_nnx, ev_nrt, ev_nbk, ev_nct, ev_nex, ev_nno, ev_frt, ev_fnx, ev_fex, ev_xok, ev_lsome, ev_lnone, ev_seq, ev_if, ev_ret, ev_retN, ev_drop, ev_nop, ev_brk, ev_cont, ev_asgN, ev_asgT, ev_asgO, ev_mgTup, ev_mgN, ev_mgC, ev_mg0, ev_putL, ev_putO, ev_var, ev_vr, ev_c, ev_op, ev_un, ev_test, ev_tb, ev_notT, ev_andT, ev_orT, ev_ifE, ev_not, ev_nb, ev_and, ev_andK, ev_or, ev_orK, ev_chain, ev_chK, ev_nil, ev_cons, ev_tup, ev_lst, ev_new, ev_call, ev_cb, ev_size, ev_addI, ev_addS, ev_addT, ev_addL, ev_catO, ev_sub, ev_mul, ev_div, ev_mod, ev_p5, ev_p6, ev_p12, ev_p18, ev_p30, ev_neg, ev_ltI, ev_ltS, ev_leI, ev_leS, ev_gt, ev_ge, ev_eqI, ev_eqS, ev_neI, ev_neS, ev_neB, ev_eqB, ev_is, ev_isnot, ev_ixT, ev_ixS, ev_ixR, ev_ixL, ev_ixK, ev_getL, ev_getM, ev_gL, ev_gM, ev_at0, ev_at1, ev_at2, ev_at3, ev_at4, ev_lenS, ev_lenR, ev_lenT, ev_lenL, ev_lenO, ev_lenD, ev_abs, ev_min2, ev_max2, ev_intI, ev_intB, ev_set, ev_fc, ev_setset, ev_last, ev_appk, ev_app0, ev_setk, ev_set0, ev_assoc, ev_lapp, ev_lappA, ev_sl, ev_nopart, ev_part, ev_ptK, ev_slT, ev_slS, ev_slR, ev_slK, ev_tyN, ev_tyB, ev_tyI, ev_tyS, ev_tyT, ev_tyL, ev_tyR, ev_tyRL, ev_isi, ev_isi1, ev_isi2, ev_isi3, ev_isi4, ev_isi5, ev_isiT, ev_isi2K, ev_isTy, ev_list, ev_listK, ev_tuple, ev_tupK, ev_getST, ev_getSR, ev_getSL, ev_all, ev_allK, ev_eqXI, ev_eqXS, ev_neXI, ev_neXS, ev_neXB, ev_eqXB, ev_eqXR, ev_neXR, ev_nil2, ev_eqK, ev_neK, ev_meth, ev_meth0, ev_mth1, ev_mth2, ev_mth3, ev_append, ev_m0, ev_m0K, ev_str, ev_for, ev_miR1, ev_rg1K, ev_miL, ev_liK, ev_miT, ev_tiK, ev_lc, ev_wipe0, ev_wipeS, ev_yes, ev_lenSet, ev_lenSetK, ev_listR, ev_lrK, ev_put2, ev_p2A, ev_p2K, ev_p2E, ev_put1, ev_pt1, ev_addXI, ev_addXB, ev_addXS, ev_addXT, ev_addXL, ev_subXI, ev_subXB, ev_mulXI, ev_mulXB, ev_mulXL, ev_negXI, ev_negXB, ev_strXI, ev_strXB, ev_mulYI, ev_mulYB, ev_mulYL, ev_mulYT, ev_dnew, ev_dnewT, ev_dgetE, ev_getD, ev_gD, ev_keyI, ev_keyS, ev_dgK, ev_dinE, ev_diK, ev_dputE, ev_dpK, ev_dget2E, ev_isDA, ev_isSome, ev_isNone, ev_dg2K, ev_dpop2E, ev_dp2K, ev_dp3S, ev_dp3N, ev_sortedE, ev_srO1, ev_srO2, ev_gLd, ev_srKS, ev_srKI, ev_gDT, ev_gT, ev_tinE, ev_tiKK, ev_keysA, ev_keysN, ev_keysC, ev_dputTE, ev_dptK, ev_dispE, ev_mpN, ev_mpC, ev_pcK, ev_dsK, ev_dsK2, ev_lc2E, List.getElem?_cons_zero, List.getElem?_cons_succ, List.set_cons_zero, List.set_cons_succ, List.length_cons, List.length_nil, List.cons_append, List.nil_append, if_true, if_false, Bool.false_eq_true, Bool.true_eq_false, reduceIte, Bool.not_true, Bool.not_false, Bool.and_true, Bool.true_and, Bool.and_false, Bool.false_and, Bool.or_true, Bool.true_or, Bool.or_false, Bool.false_or, decide_eq_true_eq, Nat.reduceAdd, Nat.reduceLeDiff, Nat.zero_add, Int.reduceLT, Int.reduceLE, Int.reduceEq, Int.reduceNeg, Nat.reduceEqDiff, and_self, and_true, true_and, decide_true, decide_false, eq_self, ite_true, ite_false, Int.reduceSub, Int.reduceAdd, Int.cast_ofNat_Int, Int.natCast_add, Int.cast_ofNat_Int, Nat.reduceSub, Nat.add_assoc, String.reduceBEq, String.reduceEq, Bool.or_not_self, beq_self_eq_true, hv, lastH, vOf]
              · simp only [ev_bok, ev_bno, ev_bex, ev_tok, ev_tno, ev_tex, ev_nnx, ev_nrt, ev_nbk, ev_nct, ev_nex, ev_nno, ev_frt, ev_fnx, ev_fex, ev_xok, ev_lsome, ev_lnone, ev_seq, ev_if, ev_ret, ev_retN, ev_drop, ev_nop, ev_brk, ev_cont, ev_asgN, ev_asgT, ev_asgO, ev_mgTup, ev_mgN, ev_mgC, ev_mg0, ev_putL, ev_putO, ev_var, ev_vr, ev_c, ev_op, ev_un, ev_test, ev_tb, ev_notT, ev_andT, ev_orT, ev_ifE, ev_not, ev_nb, ev_and, ev_andK, ev_or, ev_orK, ev_chain, ev_chK, ev_nil, ev_cons, ev_tup, ev_lst, ev_new, ev_call, ev_cb, ev_size, ev_addI, ev_addS, ev_addT, ev_addL, ev_catO, ev_sub, ev_mul, ev_div, ev_mod, ev_p5, ev_p6, ev_p12, ev_p18, ev_p30, ev_neg, ev_ltI, ev_ltS, ev_leI, ev_leS, ev_gt, ev_ge, ev_eqI, ev_eqS, ev_neI, ev_neS, ev_neB, ev_eqB, ev_is, ev_isnot, ev_ixT, ev_ixS, ev_ixR, ev_ixL, ev_ixK, ev_getL, ev_getM, ev_gL, ev_gM, ev_at0, ev_at1, ev_at2, ev_at3, ev_at4, ev_lenS, ev_lenR, ev_lenT, ev_lenL, ev_lenO, ev_lenD, ev_abs, ev_min2, ev_max2, ev_intI, ev_intB, ev_set, ev_fc, ev_setset, ev_last, ev_appk, ev_app0, ev_setk, ev_set0, ev_assoc, ev_lapp, ev_lappA, ev_sl, ev_nopart, ev_part, ev_ptK, ev_slT, ev_slS, ev_slR, ev_slK, ev_tyN, ev_tyB, ev_tyI, ev_tyS, ev_tyT, ev_tyL, ev_tyR, ev_tyRL, ev_isi, ev_isi1, ev_isi2, ev_isi3, ev_isi4, ev_isi5, ev_isiT, ev_isi2K, ev_isTy, ev_list, ev_listK, ev_tuple, ev_tupK, ev_getST, ev_getSR, ev_getSL, ev_all, ev_allK, ev_eqXI, ev_eqXS, ev_neXI, ev_neXS, ev_neXB, ev_eqXB, ev_eqXR, ev_neXR, ev_nil2, ev_eqK, ev_neK, ev_meth, ev_meth0, ev_mth1, ev_mth2, ev_mth3, ev_append, ev_m0, ev_m0K, ev_str, ev_for, ev_miR1, ev_rg1K, ev_miL, ev_liK, ev_miT, ev_tiK, ev_lc, ev_wipe0, ev_wipeS, ev_yes, ev_lenSet, ev_lenSetK, ev_listR, ev_lrK, ev_put2, ev_p2A, ev_p2K, ev_p2E, ev_put1, ev_pt1, ev_addXI, ev_addXB, ev_addXS, ev_addXT, ev_addXL, ev_subXI, ev_subXB, ev_mulXI, ev_mulXB, ev_mulXL, ev_negXI, ev_negXB, ev_strXI, ev_strXB, ev_mulYI, ev_mulYB, ev_mulYL, ev_mulYT, ev_dnew, ev_dnewT, ev_dgetE, ev_getD, ev_gD, ev_keyI, ev_keyS, ev_dgK, ev_dinE, ev_diK, ev_dputE, ev_dpK, ev_dget2E, ev_isDA, ev_isSome, ev_isNone, ev_dg2K, ev_dpop2E, ev_dp2K, ev_dp3S, ev_dp3N, ev_sortedE, ev_srO1, ev_srO2, ev_gLd, ev_srKS, ev_srKI, ev_gDT, ev_gT, ev_tinE, ev_tiKK, ev_keysA, ev_keysN, ev_keysC, ev_dputTE, ev_dptK, ev_dispE, ev_mpN, ev_mpC, ev_pcK, ev_dsK, ev_dsK2, ev_lc2E, List.getElem?_cons_zero, List.getElem?_cons_succ, List.set_cons_zero, List.set_cons_succ, List.length_cons, List.length_nil, List.cons_append, List.nil_append, if_true, if_false, Bool.false_eq_true, Bool.true_eq_false, reduceIte, Bool.not_true, Bool.not_false, Bool.and_true, Bool.true_and, Bool.and_false, Bool.false_and, Bool.or_true, Bool.true_or, Bool.or_false, Bool.false_or, decide_eq_true_eq, Nat.reduceAdd, Nat.reduceLeDiff, Nat.zero_add, Int.reduceLT, Int.reduceLE, Int.reduceEq, Int.reduceNeg, Nat.reduceEqDiff, and_self, and_true, true_and, decide_true, decide_false, eq_self, ite_true, ite_false, Int.reduceSub, Int.reduceAdd, Int.cast_ofNat_Int, Int.natCast_add, Int.cast_ofNat_Int, Nat.reduceSub, Nat.add_assoc, String.reduceBEq, String.reduceEq, Bool.or_not_self, beq_self_eq_true, hv, ei, lastH, vOf]
                rfl) (by simp only [List.length_nil]; omega)
            rw [List.filter_eq_self.mpr (fun _ _ => rfl)] at z
            simpa only [List.append_assoc, List.cons_append, List.nil_append] using z
          have hb : (xs.map rowH).all id = true := by
            rw [List.all_map]
            simpa using hall
          have bm := bls_map rowH xs
          have lw : (wOfL xs).length ≤ 4000 := by
            unfold wOfL
            rw [List.length_map]
            have := List.length_filter_le isW xs
            omega
          have u1 : ∀ B, m_are_unlike [.ref (st.length + 1)] (st ++ [B, .lst ((wOfL xs).map A.int)]) = .ok (.bl (decide ((ddup (wOfL xs)).length = (wOfL xs).length))) (st ++ [B, .lst ((wOfL xs).map A.int)]) := fun B => unlike_ev ev_appk lw
          have u2 : ∀ B C, m_are_unlike [.ref (st.length + 2)] (st ++ [B, C, .lst ((xs.map tOf).map A.int)]) = .ok (.bl (decide ((ddup (xs.map tOf)).length = xs.length))) (st ++ [B, C, .lst ((xs.map tOf).map A.int)]) := fun B C => by
            have := unlike_ev (st := st ++ [B, C, .lst ((xs.map tOf).map A.int)]) (n := st.length + 2) (ns := xs.map tOf) ev_appk (by rw [List.length_map]; omega)
            rw [List.length_map] at this
            exact this
          have bl4 := bls_map (lastH xs) xs
          have al4 : (xs.map (lastH xs)).all id = xs.all (lastH xs) := by rw [List.all_map]; rfl
          have hh : histL xs = (decide ((ddup (wOfL xs)).length = (wOfL xs).length) && (decide ((ddup (xs.map tOf)).length = xs.length) && xs.all (lastH xs))) := by
            unfold histL
            rw [decide_eq_true h60, hall]
            rfl
          rw [hh]
          cases k1 : decide ((ddup (wOfL xs)).length = (wOfL xs).length) with
          | false =>
            refine ⟨[.lst (xs.map fun x => .bl (rowH x)), .lst ((wOfL xs).map A.int)], ?_⟩
            simp only [ev_bok, ev_bno, ev_bex, ev_tok, ev_tno, ev_tex, ev_nnx, ev_nrt, ev_nbk, ev_nct, ev_nex, ev_nno, ev_frt, ev_fnx, ev_fex, ev_xok, ev_lsome, ev_lnone, ev_seq, ev_if, ev_ret, ev_retN, ev_drop, ev_nop, ev_brk, ev_cont, ev_asgN, ev_asgT, ev_asgO, ev_mgTup, ev_mgN, ev_mgC, ev_mg0, ev_putL, ev_putO, ev_var, ev_vr, ev_c, ev_op, ev_un, ev_test, ev_tb, ev_notT, ev_andT, ev_orT, ev_ifE, ev_not, ev_nb, ev_and, ev_andK, ev_or, ev_orK, ev_chain, ev_chK, ev_nil, ev_cons, ev_tup, ev_lst, ev_new, ev_call, ev_cb, ev_size, ev_addI, ev_addS, ev_addT, ev_addL, ev_catO, ev_sub, ev_mul, ev_div, ev_mod, ev_p5, ev_p6, ev_p12, ev_p18, ev_p30, ev_neg, ev_ltI, ev_ltS, ev_leI, ev_leS, ev_gt, ev_ge, ev_eqI, ev_eqS, ev_neI, ev_neS, ev_neB, ev_eqB, ev_is, ev_isnot, ev_ixT, ev_ixS, ev_ixR, ev_ixL, ev_ixK, ev_getL, ev_getM, ev_gL, ev_gM, ev_at0, ev_at1, ev_at2, ev_at3, ev_at4, ev_lenS, ev_lenR, ev_lenT, ev_lenL, ev_lenO, ev_lenD, ev_abs, ev_min2, ev_max2, ev_intI, ev_intB, ev_set, ev_fc, ev_setset, ev_last, ev_appk, ev_app0, ev_setk, ev_set0, ev_assoc, ev_lapp, ev_lappA, ev_sl, ev_nopart, ev_part, ev_ptK, ev_slT, ev_slS, ev_slR, ev_slK, ev_tyN, ev_tyB, ev_tyI, ev_tyS, ev_tyT, ev_tyL, ev_tyR, ev_tyRL, ev_isi, ev_isi1, ev_isi2, ev_isi3, ev_isi4, ev_isi5, ev_isiT, ev_isi2K, ev_isTy, ev_list, ev_listK, ev_tuple, ev_tupK, ev_getST, ev_getSR, ev_getSL, ev_all, ev_allK, ev_eqXI, ev_eqXS, ev_neXI, ev_neXS, ev_neXB, ev_eqXB, ev_eqXR, ev_neXR, ev_nil2, ev_eqK, ev_neK, ev_meth, ev_meth0, ev_mth1, ev_mth2, ev_mth3, ev_append, ev_m0, ev_m0K, ev_str, ev_for, ev_miR1, ev_rg1K, ev_miL, ev_liK, ev_miT, ev_tiK, ev_lc, ev_wipe0, ev_wipeS, ev_yes, ev_lenSet, ev_lenSetK, ev_listR, ev_lrK, ev_put2, ev_p2A, ev_p2K, ev_p2E, ev_put1, ev_pt1, ev_addXI, ev_addXB, ev_addXS, ev_addXT, ev_addXL, ev_subXI, ev_subXB, ev_mulXI, ev_mulXB, ev_mulXL, ev_negXI, ev_negXB, ev_strXI, ev_strXB, ev_mulYI, ev_mulYB, ev_mulYL, ev_mulYT, ev_dnew, ev_dnewT, ev_dgetE, ev_getD, ev_gD, ev_keyI, ev_keyS, ev_dgK, ev_dinE, ev_diK, ev_dputE, ev_dpK, ev_dget2E, ev_isDA, ev_isSome, ev_isNone, ev_dg2K, ev_dpop2E, ev_dp2K, ev_dp3S, ev_dp3N, ev_sortedE, ev_srO1, ev_srO2, ev_gLd, ev_srKS, ev_srKI, ev_gDT, ev_gT, ev_tinE, ev_tiKK, ev_keysA, ev_keysN, ev_keysC, ev_dputTE, ev_dptK, ev_dispE, ev_mpN, ev_mpC, ev_pcK, ev_dsK, ev_dsK2, ev_lc2E, List.getElem?_cons_zero, List.getElem?_cons_succ, List.set_cons_zero, List.set_cons_succ, List.length_cons, List.length_nil, List.cons_append, List.nil_append, if_true, if_false, Bool.false_eq_true, Bool.true_eq_false, reduceIte, Bool.not_true, Bool.not_false, Bool.and_true, Bool.true_and, Bool.and_false, Bool.false_and, Bool.or_true, Bool.true_or, Bool.or_false, Bool.false_or, decide_eq_true_eq, Nat.reduceAdd, Nat.reduceLeDiff, Nat.zero_add, Int.reduceLT, Int.reduceLE, Int.reduceEq, Int.reduceNeg, Nat.reduceEqDiff, and_self, and_true, true_and, decide_true, decide_false, eq_self, ite_true, ite_false, Int.reduceSub, Int.reduceAdd, Int.cast_ofNat_Int, Int.natCast_add, Int.cast_ofNat_Int, Nat.reduceSub, Nat.add_assoc, String.reduceBEq, String.reduceEq, Bool.or_not_self, beq_self_eq_true, h1, c60, e1, bm, Option.map_some, hb, hg, e2, u1, k1]
            try rfl
          | true =>
            cases k2 : decide ((ddup (xs.map tOf)).length = xs.length) with
            | false =>
              refine ⟨[.lst (xs.map fun x => .bl (rowH x)), .lst ((wOfL xs).map A.int), .lst ((xs.map tOf).map A.int)], ?_⟩
              simp only [ev_bok, ev_bno, ev_bex, ev_tok, ev_tno, ev_tex, ev_nnx, ev_nrt, ev_nbk, ev_nct, ev_nex, ev_nno, ev_frt, ev_fnx, ev_fex, ev_xok, ev_lsome, ev_lnone, ev_seq, ev_if, ev_ret, ev_retN, ev_drop, ev_nop, ev_brk, ev_cont, ev_asgN, ev_asgT, ev_asgO, ev_mgTup, ev_mgN, ev_mgC, ev_mg0, ev_putL, ev_putO, ev_var, ev_vr, ev_c, ev_op, ev_un, ev_test, ev_tb, ev_notT, ev_andT, ev_orT, ev_ifE, ev_not, ev_nb, ev_and, ev_andK, ev_or, ev_orK, ev_chain, ev_chK, ev_nil, ev_cons, ev_tup, ev_lst, ev_new, ev_call, ev_cb, ev_size, ev_addI, ev_addS, ev_addT, ev_addL, ev_catO, ev_sub, ev_mul, ev_div, ev_mod, ev_p5, ev_p6, ev_p12, ev_p18, ev_p30, ev_neg, ev_ltI, ev_ltS, ev_leI, ev_leS, ev_gt, ev_ge, ev_eqI, ev_eqS, ev_neI, ev_neS, ev_neB, ev_eqB, ev_is, ev_isnot, ev_ixT, ev_ixS, ev_ixR, ev_ixL, ev_ixK, ev_getL, ev_getM, ev_gL, ev_gM, ev_at0, ev_at1, ev_at2, ev_at3, ev_at4, ev_lenS, ev_lenR, ev_lenT, ev_lenL, ev_lenO, ev_lenD, ev_abs, ev_min2, ev_max2, ev_intI, ev_intB, ev_set, ev_fc, ev_setset, ev_last, ev_appk, ev_app0, ev_setk, ev_set0, ev_assoc, ev_lapp, ev_lappA, ev_sl, ev_nopart, ev_part, ev_ptK, ev_slT, ev_slS, ev_slR, ev_slK, ev_tyN, ev_tyB, ev_tyI, ev_tyS, ev_tyT, ev_tyL, ev_tyR, ev_tyRL, ev_isi, ev_isi1, ev_isi2, ev_isi3, ev_isi4, ev_isi5, ev_isiT, ev_isi2K, ev_isTy, ev_list, ev_listK, ev_tuple, ev_tupK, ev_getST, ev_getSR, ev_getSL, ev_all, ev_allK, ev_eqXI, ev_eqXS, ev_neXI, ev_neXS, ev_neXB, ev_eqXB, ev_eqXR, ev_neXR, ev_nil2, ev_eqK, ev_neK, ev_meth, ev_meth0, ev_mth1, ev_mth2, ev_mth3, ev_append, ev_m0, ev_m0K, ev_str, ev_for, ev_miR1, ev_rg1K, ev_miL, ev_liK, ev_miT, ev_tiK, ev_lc, ev_wipe0, ev_wipeS, ev_yes, ev_lenSet, ev_lenSetK, ev_listR, ev_lrK, ev_put2, ev_p2A, ev_p2K, ev_p2E, ev_put1, ev_pt1, ev_addXI, ev_addXB, ev_addXS, ev_addXT, ev_addXL, ev_subXI, ev_subXB, ev_mulXI, ev_mulXB, ev_mulXL, ev_negXI, ev_negXB, ev_strXI, ev_strXB, ev_mulYI, ev_mulYB, ev_mulYL, ev_mulYT, ev_dnew, ev_dnewT, ev_dgetE, ev_getD, ev_gD, ev_keyI, ev_keyS, ev_dgK, ev_dinE, ev_diK, ev_dputE, ev_dpK, ev_dget2E, ev_isDA, ev_isSome, ev_isNone, ev_dg2K, ev_dpop2E, ev_dp2K, ev_dp3S, ev_dp3N, ev_sortedE, ev_srO1, ev_srO2, ev_gLd, ev_srKS, ev_srKI, ev_gDT, ev_gT, ev_tinE, ev_tiKK, ev_keysA, ev_keysN, ev_keysC, ev_dputTE, ev_dptK, ev_dispE, ev_mpN, ev_mpC, ev_pcK, ev_dsK, ev_dsK2, ev_lc2E, List.getElem?_cons_zero, List.getElem?_cons_succ, List.set_cons_zero, List.set_cons_succ, List.length_cons, List.length_nil, List.cons_append, List.nil_append, if_true, if_false, Bool.false_eq_true, Bool.true_eq_false, reduceIte, Bool.not_true, Bool.not_false, Bool.and_true, Bool.true_and, Bool.and_false, Bool.false_and, Bool.or_true, Bool.true_or, Bool.or_false, Bool.false_or, decide_eq_true_eq, Nat.reduceAdd, Nat.reduceLeDiff, Nat.zero_add, Int.reduceLT, Int.reduceLE, Int.reduceEq, Int.reduceNeg, Nat.reduceEqDiff, and_self, and_true, true_and, decide_true, decide_false, eq_self, ite_true, ite_false, Int.reduceSub, Int.reduceAdd, Int.cast_ofNat_Int, Int.natCast_add, Int.cast_ofNat_Int, Nat.reduceSub, Nat.add_assoc, String.reduceBEq, String.reduceEq, Bool.or_not_self, beq_self_eq_true, h1, c60, e1, bm, Option.map_some, hb, e2, u1, k1, hg, e3, u2, k2]
              try rfl
            | true =>
              refine ⟨[.lst (xs.map fun x => .bl (rowH x)), .lst ((wOfL xs).map A.int), .lst ((xs.map tOf).map A.int), .lst (xs.map fun x => .bl (lastH xs x))], ?_⟩
              simp only [ev_bok, ev_bno, ev_bex, ev_tok, ev_tno, ev_tex, ev_nnx, ev_nrt, ev_nbk, ev_nct, ev_nex, ev_nno, ev_frt, ev_fnx, ev_fex, ev_xok, ev_lsome, ev_lnone, ev_seq, ev_if, ev_ret, ev_retN, ev_drop, ev_nop, ev_brk, ev_cont, ev_asgN, ev_asgT, ev_asgO, ev_mgTup, ev_mgN, ev_mgC, ev_mg0, ev_putL, ev_putO, ev_var, ev_vr, ev_c, ev_op, ev_un, ev_test, ev_tb, ev_notT, ev_andT, ev_orT, ev_ifE, ev_not, ev_nb, ev_and, ev_andK, ev_or, ev_orK, ev_chain, ev_chK, ev_nil, ev_cons, ev_tup, ev_lst, ev_new, ev_call, ev_cb, ev_size, ev_addI, ev_addS, ev_addT, ev_addL, ev_catO, ev_sub, ev_mul, ev_div, ev_mod, ev_p5, ev_p6, ev_p12, ev_p18, ev_p30, ev_neg, ev_ltI, ev_ltS, ev_leI, ev_leS, ev_gt, ev_ge, ev_eqI, ev_eqS, ev_neI, ev_neS, ev_neB, ev_eqB, ev_is, ev_isnot, ev_ixT, ev_ixS, ev_ixR, ev_ixL, ev_ixK, ev_getL, ev_getM, ev_gL, ev_gM, ev_at0, ev_at1, ev_at2, ev_at3, ev_at4, ev_lenS, ev_lenR, ev_lenT, ev_lenL, ev_lenO, ev_lenD, ev_abs, ev_min2, ev_max2, ev_intI, ev_intB, ev_set, ev_fc, ev_setset, ev_last, ev_appk, ev_app0, ev_setk, ev_set0, ev_assoc, ev_lapp, ev_lappA, ev_sl, ev_nopart, ev_part, ev_ptK, ev_slT, ev_slS, ev_slR, ev_slK, ev_tyN, ev_tyB, ev_tyI, ev_tyS, ev_tyT, ev_tyL, ev_tyR, ev_tyRL, ev_isi, ev_isi1, ev_isi2, ev_isi3, ev_isi4, ev_isi5, ev_isiT, ev_isi2K, ev_isTy, ev_list, ev_listK, ev_tuple, ev_tupK, ev_getST, ev_getSR, ev_getSL, ev_all, ev_allK, ev_eqXI, ev_eqXS, ev_neXI, ev_neXS, ev_neXB, ev_eqXB, ev_eqXR, ev_neXR, ev_nil2, ev_eqK, ev_neK, ev_meth, ev_meth0, ev_mth1, ev_mth2, ev_mth3, ev_append, ev_m0, ev_m0K, ev_str, ev_for, ev_miR1, ev_rg1K, ev_miL, ev_liK, ev_miT, ev_tiK, ev_lc, ev_wipe0, ev_wipeS, ev_yes, ev_lenSet, ev_lenSetK, ev_listR, ev_lrK, ev_put2, ev_p2A, ev_p2K, ev_p2E, ev_put1, ev_pt1, ev_addXI, ev_addXB, ev_addXS, ev_addXT, ev_addXL, ev_subXI, ev_subXB, ev_mulXI, ev_mulXB, ev_mulXL, ev_negXI, ev_negXB, ev_strXI, ev_strXB, ev_mulYI, ev_mulYB, ev_mulYL, ev_mulYT, ev_dnew, ev_dnewT, ev_dgetE, ev_getD, ev_gD, ev_keyI, ev_keyS, ev_dgK, ev_dinE, ev_diK, ev_dputE, ev_dpK, ev_dget2E, ev_isDA, ev_isSome, ev_isNone, ev_dg2K, ev_dpop2E, ev_dp2K, ev_dp3S, ev_dp3N, ev_sortedE, ev_srO1, ev_srO2, ev_gLd, ev_srKS, ev_srKI, ev_gDT, ev_gT, ev_tinE, ev_tiKK, ev_keysA, ev_keysN, ev_keysC, ev_dputTE, ev_dptK, ev_dispE, ev_mpN, ev_mpC, ev_pcK, ev_dsK, ev_dsK2, ev_lc2E, List.getElem?_cons_zero, List.getElem?_cons_succ, List.set_cons_zero, List.set_cons_succ, List.length_cons, List.length_nil, List.cons_append, List.nil_append, if_true, if_false, Bool.false_eq_true, Bool.true_eq_false, reduceIte, Bool.not_true, Bool.not_false, Bool.and_true, Bool.true_and, Bool.and_false, Bool.false_and, Bool.or_true, Bool.true_or, Bool.or_false, Bool.false_or, decide_eq_true_eq, Nat.reduceAdd, Nat.reduceLeDiff, Nat.zero_add, Int.reduceLT, Int.reduceLE, Int.reduceEq, Int.reduceNeg, Nat.reduceEqDiff, and_self, and_true, true_and, decide_true, decide_false, eq_self, ite_true, ite_false, Int.reduceSub, Int.reduceAdd, Int.cast_ofNat_Int, Int.natCast_add, Int.cast_ofNat_Int, Nat.reduceSub, Nat.add_assoc, String.reduceBEq, String.reduceEq, Bool.or_not_self, beq_self_eq_true, h1, c60, e1, bm, Option.map_some, hb, e2, u1, k1, hg, e3, u2, k2, e4, bl4, al4]
              try rfl
        · have hb : (xs.map rowH).all id = false := by
            rw [List.all_map]
            simpa using hall
          refine ⟨[.lst (xs.map fun x => .bl (rowH x))], ?_⟩
          have bm := bls_map rowH xs
          simp only [ev_bok, ev_bno, ev_bex, ev_tok, ev_tno, ev_tex, ev_nnx, ev_nrt, ev_nbk, ev_nct, ev_nex, ev_nno, ev_frt, ev_fnx, ev_fex, ev_xok, ev_lsome, ev_lnone, ev_seq, ev_if, ev_ret, ev_retN, ev_drop, ev_nop, ev_brk, ev_cont, ev_asgN, ev_asgT, ev_asgO, ev_mgTup, ev_mgN, ev_mgC, ev_mg0, ev_putL, ev_putO, ev_var, ev_vr, ev_c, ev_op, ev_un, ev_test, ev_tb, ev_notT, ev_andT, ev_orT, ev_ifE, ev_not, ev_nb, ev_and, ev_andK, ev_or, ev_orK, ev_chain, ev_chK, ev_nil, ev_cons, ev_tup, ev_lst, ev_new, ev_call, ev_cb, ev_size, ev_addI, ev_addS, ev_addT, ev_addL, ev_catO, ev_sub, ev_mul, ev_div, ev_mod, ev_p5, ev_p6, ev_p12, ev_p18, ev_p30, ev_neg, ev_ltI, ev_ltS, ev_leI, ev_leS, ev_gt, ev_ge, ev_eqI, ev_eqS, ev_neI, ev_neS, ev_neB, ev_eqB, ev_is, ev_isnot, ev_ixT, ev_ixS, ev_ixR, ev_ixL, ev_ixK, ev_getL, ev_getM, ev_gL, ev_gM, ev_at0, ev_at1, ev_at2, ev_at3, ev_at4, ev_lenS, ev_lenR, ev_lenT, ev_lenL, ev_lenO, ev_lenD, ev_abs, ev_min2, ev_max2, ev_intI, ev_intB, ev_set, ev_fc, ev_setset, ev_last, ev_appk, ev_app0, ev_setk, ev_set0, ev_assoc, ev_lapp, ev_lappA, ev_sl, ev_nopart, ev_part, ev_ptK, ev_slT, ev_slS, ev_slR, ev_slK, ev_tyN, ev_tyB, ev_tyI, ev_tyS, ev_tyT, ev_tyL, ev_tyR, ev_tyRL, ev_isi, ev_isi1, ev_isi2, ev_isi3, ev_isi4, ev_isi5, ev_isiT, ev_isi2K, ev_isTy, ev_list, ev_listK, ev_tuple, ev_tupK, ev_getST, ev_getSR, ev_getSL, ev_all, ev_allK, ev_eqXI, ev_eqXS, ev_neXI, ev_neXS, ev_neXB, ev_eqXB, ev_eqXR, ev_neXR, ev_nil2, ev_eqK, ev_neK, ev_meth, ev_meth0, ev_mth1, ev_mth2, ev_mth3, ev_append, ev_m0, ev_m0K, ev_str, ev_for, ev_miR1, ev_rg1K, ev_miL, ev_liK, ev_miT, ev_tiK, ev_lc, ev_wipe0, ev_wipeS, ev_yes, ev_lenSet, ev_lenSetK, ev_listR, ev_lrK, ev_put2, ev_p2A, ev_p2K, ev_p2E, ev_put1, ev_pt1, ev_addXI, ev_addXB, ev_addXS, ev_addXT, ev_addXL, ev_subXI, ev_subXB, ev_mulXI, ev_mulXB, ev_mulXL, ev_negXI, ev_negXB, ev_strXI, ev_strXB, ev_mulYI, ev_mulYB, ev_mulYL, ev_mulYT, ev_dnew, ev_dnewT, ev_dgetE, ev_getD, ev_gD, ev_keyI, ev_keyS, ev_dgK, ev_dinE, ev_diK, ev_dputE, ev_dpK, ev_dget2E, ev_isDA, ev_isSome, ev_isNone, ev_dg2K, ev_dpop2E, ev_dp2K, ev_dp3S, ev_dp3N, ev_sortedE, ev_srO1, ev_srO2, ev_gLd, ev_srKS, ev_srKI, ev_gDT, ev_gT, ev_tinE, ev_tiKK, ev_keysA, ev_keysN, ev_keysC, ev_dputTE, ev_dptK, ev_dispE, ev_mpN, ev_mpC, ev_pcK, ev_dsK, ev_dsK2, ev_lc2E, List.getElem?_cons_zero, List.getElem?_cons_succ, List.set_cons_zero, List.set_cons_succ, List.length_cons, List.length_nil, List.cons_append, List.nil_append, if_true, if_false, Bool.false_eq_true, Bool.true_eq_false, reduceIte, Bool.not_true, Bool.not_false, Bool.and_true, Bool.true_and, Bool.and_false, Bool.false_and, Bool.or_true, Bool.true_or, Bool.or_false, Bool.false_or, decide_eq_true_eq, Nat.reduceAdd, Nat.reduceLeDiff, Nat.zero_add, Int.reduceLT, Int.reduceLE, Int.reduceEq, Int.reduceNeg, Nat.reduceEqDiff, and_self, and_true, true_and, decide_true, decide_false, eq_self, ite_true, ite_false, Int.reduceSub, Int.reduceAdd, Int.cast_ofNat_Int, Int.natCast_add, Int.cast_ofNat_Int, Nat.reduceSub, Nat.add_assoc, String.reduceBEq, String.reduceEq, Bool.or_not_self, beq_self_eq_true, h1, c60, e1, bm, Option.map_some, hb]
          unfold histL
          simp only [hall, Bool.false_and, Bool.and_false]
          try rfl
      · have c60 : (60 : Int) < (xs.length : Nat) := by omega
        refine ⟨[], ?_⟩
        simp only [ev_bok, ev_bno, ev_bex, ev_tok, ev_tno, ev_tex, ev_nnx, ev_nrt, ev_nbk, ev_nct, ev_nex, ev_nno, ev_frt, ev_fnx, ev_fex, ev_xok, ev_lsome, ev_lnone, ev_seq, ev_if, ev_ret, ev_retN, ev_drop, ev_nop, ev_brk, ev_cont, ev_asgN, ev_asgT, ev_asgO, ev_mgTup, ev_mgN, ev_mgC, ev_mg0, ev_putL, ev_putO, ev_var, ev_vr, ev_c, ev_op, ev_un, ev_test, ev_tb, ev_notT, ev_andT, ev_orT, ev_ifE, ev_not, ev_nb, ev_and, ev_andK, ev_or, ev_orK, ev_chain, ev_chK, ev_nil, ev_cons, ev_tup, ev_lst, ev_new, ev_call, ev_cb, ev_size, ev_addI, ev_addS, ev_addT, ev_addL, ev_catO, ev_sub, ev_mul, ev_div, ev_mod, ev_p5, ev_p6, ev_p12, ev_p18, ev_p30, ev_neg, ev_ltI, ev_ltS, ev_leI, ev_leS, ev_gt, ev_ge, ev_eqI, ev_eqS, ev_neI, ev_neS, ev_neB, ev_eqB, ev_is, ev_isnot, ev_ixT, ev_ixS, ev_ixR, ev_ixL, ev_ixK, ev_getL, ev_getM, ev_gL, ev_gM, ev_at0, ev_at1, ev_at2, ev_at3, ev_at4, ev_lenS, ev_lenR, ev_lenT, ev_lenL, ev_lenO, ev_lenD, ev_abs, ev_min2, ev_max2, ev_intI, ev_intB, ev_set, ev_fc, ev_setset, ev_last, ev_appk, ev_app0, ev_setk, ev_set0, ev_assoc, ev_lapp, ev_lappA, ev_sl, ev_nopart, ev_part, ev_ptK, ev_slT, ev_slS, ev_slR, ev_slK, ev_tyN, ev_tyB, ev_tyI, ev_tyS, ev_tyT, ev_tyL, ev_tyR, ev_tyRL, ev_isi, ev_isi1, ev_isi2, ev_isi3, ev_isi4, ev_isi5, ev_isiT, ev_isi2K, ev_isTy, ev_list, ev_listK, ev_tuple, ev_tupK, ev_getST, ev_getSR, ev_getSL, ev_all, ev_allK, ev_eqXI, ev_eqXS, ev_neXI, ev_neXS, ev_neXB, ev_eqXB, ev_eqXR, ev_neXR, ev_nil2, ev_eqK, ev_neK, ev_meth, ev_meth0, ev_mth1, ev_mth2, ev_mth3, ev_append, ev_m0, ev_m0K, ev_str, ev_for, ev_miR1, ev_rg1K, ev_miL, ev_liK, ev_miT, ev_tiK, ev_lc, ev_wipe0, ev_wipeS, ev_yes, ev_lenSet, ev_lenSetK, ev_listR, ev_lrK, ev_put2, ev_p2A, ev_p2K, ev_p2E, ev_put1, ev_pt1, ev_addXI, ev_addXB, ev_addXS, ev_addXT, ev_addXL, ev_subXI, ev_subXB, ev_mulXI, ev_mulXB, ev_mulXL, ev_negXI, ev_negXB, ev_strXI, ev_strXB, ev_mulYI, ev_mulYB, ev_mulYL, ev_mulYT, ev_dnew, ev_dnewT, ev_dgetE, ev_getD, ev_gD, ev_keyI, ev_keyS, ev_dgK, ev_dinE, ev_diK, ev_dputE, ev_dpK, ev_dget2E, ev_isDA, ev_isSome, ev_isNone, ev_dg2K, ev_dpop2E, ev_dp2K, ev_dp3S, ev_dp3N, ev_sortedE, ev_srO1, ev_srO2, ev_gLd, ev_srKS, ev_srKI, ev_gDT, ev_gT, ev_tinE, ev_tiKK, ev_keysA, ev_keysN, ev_keysC, ev_dputTE, ev_dptK, ev_dispE, ev_mpN, ev_mpC, ev_pcK, ev_dsK, ev_dsK2, ev_lc2E, List.getElem?_cons_zero, List.getElem?_cons_succ, List.set_cons_zero, List.set_cons_succ, List.length_cons, List.length_nil, List.cons_append, List.nil_append, if_true, if_false, Bool.false_eq_true, Bool.true_eq_false, reduceIte, Bool.not_true, Bool.not_false, Bool.and_true, Bool.true_and, Bool.and_false, Bool.false_and, Bool.or_true, Bool.true_or, Bool.or_false, Bool.false_or, decide_eq_true_eq, Nat.reduceAdd, Nat.reduceLeDiff, Nat.zero_add, Int.reduceLT, Int.reduceLE, Int.reduceEq, Int.reduceNeg, Nat.reduceEqDiff, and_self, and_true, true_and, decide_true, decide_false, eq_self, ite_true, ite_false, Int.reduceSub, Int.reduceAdd, Int.cast_ofNat_Int, Int.natCast_add, Int.cast_ofNat_Int, Nat.reduceSub, Nat.add_assoc, String.reduceBEq, String.reduceEq, Bool.or_not_self, beq_self_eq_true, h1, c60, List.append_nil]
        unfold histL
        rw [decide_eq_false h60]
        rfl

theorem rngA_get {n i : Nat} {x : A} (h : (rngA 0 n)[i]? = some x) : x = .int (0 + (i : Int)) ∧ i < n := by
  unfold rngA at h
  rw [List.getElem?_map] at h
  obtain ⟨j, ej, rfl⟩ := Option.map_eq_some_iff.mp h
  obtain ⟨hj, rfl⟩ := List.getElem?_eq_some_iff.mp ej
  rw [List.length_range] at hj
  exact ⟨by rw [List.getElem_range], hj⟩
theorem rngA_len {n : Nat} : (rngA 0 n).length = n := by
  unfold rngA
  rw [List.length_map, List.length_range]
/-- .. whose items leave nothing -/
theorem lc_P {ok : Sto → Prop} {g : MG} {te : ME} {env : AEnv} {xs : List A} {S : Sto} {Q : A → Sto → Prop} (F : A → A) (hok : ∀ l, ok (S ++ l)) (hl : xs.length < 16777216)
    (step : ∀ x ∈ xs, ∃ e1, g x env = some e1 ∧ ∀ l, okR (te e1 (S ++ l)) fun y s => y = F x ∧ s = S ++ l)
    (h : Q (.ref S.length) (S ++ [AO.lst (xs.map F)])) : okR (lcL S.length ok g mYes te env xs (S ++ [.lst []])) Q := by
  have e := lc_pure (n := S.length) (ok := ok) (g := g) (tt := mYes) (te := te) (env := env) (s := S) (xs := xs) (acc := []) (fun _ => true) F rfl (fun acc => hok _) (fun x hx acc => by
    obtain ⟨e1, h1, h2⟩ := step x hx
    obtain ⟨y, s, e, rfl, rfl⟩ := okR_out (h2 [.lst acc])
    exact ⟨e1, h1, rfl, fun _ => e⟩) (by simpa using hl)
  rw [e, List.filter_eq_self.mpr (fun _ _ => rfl)]
  exact h
theorem okR_eq {α : Type} {r r' : Res α} {Q : α → Sto → Prop} (h : r = r') (k : okR r' Q) : okR r Q := by
  rw [h]
  exact k
theorem okF_eq {r r' : RF} {Q : Fl → Sto → Prop} (h : r = r') (k : okF r' Q) : okF r Q := by
  rw [h]
  exact k

/-! ### draws, by what is asked behind them -/
structure Dr (b : Nat) (S s : Sto) : Prop where
  old : Old b S s
  bag : BagAt s b
theorem Dr.refl {b : Nat} {S : Sto} (h : BagAt S b) : Dr b S S := ⟨Old.refl b S, h⟩
theorem Dr.trans {b : Nat} {S s t : Sto} (h : Dr b S s) (g : Dr b s t) : Dr b S t := ⟨h.old.trans g.old, g.bag⟩
theorem Dr.app {b : Nat} {S s : Sto} (h : Dr b S s) (o : AO) : Dr b S (s ++ [o]) := ⟨h.old.trans (Old.app _ _ _), h.bag.app o⟩
theorem Dr.apps {b : Nat} {S s : Sto} (h : Dr b S s) (l : Sto) : Dr b S (s ++ l) := ⟨h.old.trans (Old.apps _ _ _), h.bag.apps l⟩
theorem Dr.le {b : Nat} {S s : Sto} (h : Dr b S s) : S.length ≤ s.length := h.old.le
theorem Dr.lt {b : Nat} {S s : Sto} (h : Dr b S s) : b < s.length := h.bag.lt
theorem Dr.get {b n : Nat} {S s : Sto} {o : AO} (h : Dr b S s) (e : S[n]? = some o) (nb : n ≠ b) : s[n]? = some o := h.old.get e nb
/-- a new cell is changed -/
theorem Dr.put {b n : Nat} {S s : Sto} (h : Dr b S s) (hn : S.length ≤ n) (nb : n ≠ b) (o : AO) : Dr b S (s.set n o) := ⟨h.old.putNew hn, h.bag.put o nb⟩
theorem take_wp {st : Sto} {b : Nat} {m : Int} (hB : BagAt st b) (hm : 0 < m) (hm2 : m < 2 ^ 200) : okR (m__law_take [.ref b, .int m] st) fun a s => ∃ r, a = .int r ∧ 0 ≤ r ∧ r < m ∧ Dr b st s := by
  obtain ⟨r, s, e, r0, r1, o, B, _⟩ := take_ev hB hm hm2
  exact okR_of ⟨_, _, e, r, rfl, r0, r1, o, B⟩
/-- a comprehension whose items draw -/
theorem lc_draw {ok : Sto → Prop} {g : MG} {te : ME} {env : AEnv} {xs : List A} {S : Sto} {b : Nat} {Q : A → Sto → Prop} (P : A → A → Prop) (hB : BagAt S b) (hok : ∀ s, Dr b S s → ok s) (hl : xs.length < 16777216)
    (step : ∀ x ∈ xs, ∀ s, Dr b S s → ∃ e1, g x env = some e1 ∧ okR (te e1 s) fun y s' => P x y ∧ Dr b s s')
    (hend : ∀ ys s, s[S.length]? = some (.lst ys) → ys.length = xs.length → (∀ (i : Nat) x y, xs[i]? = some x → ys[i]? = some y → P x y) → Dr b S s → Q (.ref S.length) s) :
    okR (lcL S.length ok g mYes te env xs (S ++ [.lst []])) Q := by
  have hb := hB.lt
  refine lcL_wp (j := 0) (acc := []) (fun i acc s => s[S.length]? = some (.lst acc) ∧ acc.length = i ∧ (∀ (k : Nat) x y, xs[k]? = some x → acc[k]? = some y → P x y) ∧ Dr b S s) (fun i acc s h => hok s h.2.2.2) ⟨ev_last, rfl, (fun k x y _ h => by simp at h), (Dr.refl hB).app _⟩ (fun i x acc s hx h => ?_) (fun acc s h => hend acc s h.1 (by have := h.2.1; omega) h.2.2.1 h.2.2.2)
  obtain ⟨h1, h2, h3, h4⟩ := h
  obtain ⟨e1, he, ho⟩ := step x (List.mem_of_getElem? hx) s h4
  refine ⟨e1, he, ?_⟩
  rw [ev_yes, wp_okR, if_pos rfl]
  refine okR_use ho fun y s' h => ?_
  obtain ⟨hp, hd⟩ := h
  have g1 := hd.get h1 (by omega)
  have hlt := (List.getElem?_eq_some_iff.mp hx).1
  have hlt2 := (List.getElem?_eq_some_iff.mp g1).1
  refine ⟨g1, by omega, List.getElem?_set_self hlt2, by rw [List.length_append, List.length_singleton]; omega, fun k x' y' hx' hy' => ?_, (h4.trans hd).put (Nat.le_refl _) (by omega) _⟩
  by_cases hk : k < acc.length
  · rw [List.getElem?_append_left hk] at hy'
    exact h3 k x' y' hx' hy'
  · have hk2 : k = acc.length := by
      have := (List.getElem?_eq_some_iff.mp hy').1
      rw [List.length_append, List.length_singleton] at this
      omega
    subst hk2
    rw [List.getElem?_append_right (Nat.le_refl _), Nat.sub_self] at hy'
    cases hy'
    rw [show acc.length = i by omega] at hx'
    rw [hx] at hx'
    cases hx'
    exact hp

/-! ### histories made of orders: the mathematics -/
def lastV : Int → List HRow → Int
  | l, [] => l
  | _, r :: o => lastV r.v o
theorem seesL_app : ∀ {o : List HRow} {l : Int} {r : HRow}, seesL l (o ++ [r]) ↔ seesL l o ∧ (r.wr = true ∨ r.v = lastV l o)
  | [], l, r => by simp [seesL, lastV]
  | x :: o, l, r => by
    show (_ ∧ seesL x.v (o ++ [r])) ↔ (_ ∧ seesL x.v o) ∧ (r.wr = true ∨ r.v = lastV x.v o)
    rw [seesL_app]
    constructor
    · rintro ⟨h1, h2, h3⟩
      exact ⟨⟨h1, h2⟩, h3⟩
    · rintro ⟨⟨h1, h2⟩, h3⟩
      exact ⟨h1, h2, h3⟩
theorem lastV_app {l : Int} {r : HRow} : ∀ {o : List HRow}, lastV l (o ++ [r]) = r.v
  | [] => rfl
  | x :: o => by
    show lastV x.v (o ++ [r]) = r.v
    exact lastV_app
theorem lastV_mem : ∀ {o : List HRow} {l : Int}, lastV l o = l ∨ ∃ r ∈ o, r.v = lastV l o
  | [], l => .inl rfl
  | x :: o, l => by
    rcases lastV_mem (o := o) (l := x.v) with h | ⟨r, hr, e⟩
    · exact .inr ⟨x, List.mem_cons_self, h.symm⟩
    · exact .inr ⟨r, List.mem_cons_of_mem _ hr, e⟩
/-- what is_history asks for, and more -/
structure HFine (h : List HRow) : Prop where
  len : h.length ≤ 60
  one : OneW h
  tn : (h.map (·.t)).Nodup
  tt : ∀ r ∈ h, 0 ≤ r.t
  rd : ∀ r ∈ h, r.wr = false → r.v = 0 ∨ ∃ w ∈ h, w.wr = true ∧ w.v = r.v
  tm : ∀ r ∈ h, 0 ≤ r.b ∧ r.b < r.e ∧ r.e ≤ 1000000
  vb : ∀ r ∈ h, 0 ≤ r.v ∧ r.v ≤ 999 ∧ (r.wr = true → 1 ≤ r.v)
theorem HFine.mid {h : List HRow} (g : HFine h) : HMid h := ⟨g.one, g.tn, g.rd, fun r hr => ⟨(g.tm r hr).1, (g.tm r hr).2.1⟩, fun r hr => (g.vb r hr).2.2⟩
theorem HFine.perm {h h' : List HRow} (g : HFine h) (p : h.Perm h') : HFine h' := by
  have m : ∀ {r}, r ∈ h' → r ∈ h := fun hr => p.mem_iff.mpr hr
  refine ⟨by rw [← p.length_eq]; exact g.len, fun r w hr hw => g.one r w (m hr) (m hw), (p.map (·.t)).nodup_iff.mp g.tn, fun r hr => g.tt r (m hr), fun r hr e => ?_, fun r hr => g.tm r (m hr), fun r hr => g.vb r (m hr)⟩
  rcases g.rd r (m hr) e with z | ⟨w, hw, z⟩
  · exact .inl z
  · exact .inr ⟨w, p.mem_iff.mp hw, z⟩
/-- a row of tasks, each at its own moment -/
structure RowG (o : List HRow) : Prop where
  at_ : ∀ (i : Nat) (r : HRow), o[i]? = some r → r.t = (i : Int) ∧ 0 ≤ r.b ∧ 1000 + 10 * (i : Int) - 300 ≤ r.b ∧ r.b ≤ 1000 + 10 * (i : Int) - 1 ∧ 1000 + 10 * (i : Int) + 1 ≤ r.e ∧ r.e ≤ 1000 + 10 * (i : Int) + 300
  sees : seesL 0 o
  wv : ∀ (i : Nat) (r : HRow), o[i]? = some r → r.wr = true → r.v = 1 + ((i : Int) * 100 + 7) % 999
  rv : ∀ r ∈ o, r.v = 0 ∨ ∃ w ∈ o, w.wr = true ∧ w.v = r.v
theorem rowG_nil : RowG [] := ⟨fun i r h => by simp at h, trivial, fun i r h => by simp at h, fun r h => by cases h⟩
theorem RowG.snoc {o : List HRow} {r : HRow} (g : RowG o) (ht : r.t = (o.length : Int)) (h0 : 0 ≤ r.b) (h1 : 1000 + 10 * (o.length : Int) - 300 ≤ r.b) (h2 : r.b ≤ 1000 + 10 * (o.length : Int) - 1) (h3 : 1000 + 10 * (o.length : Int) + 1 ≤ r.e) (h4 : r.e ≤ 1000 + 10 * (o.length : Int) + 300)
    (hv : (r.wr = true ∧ r.v = 1 + ((o.length : Int) * 100 + 7) % 999) ∨ (r.wr = false ∧ r.v = lastV 0 o)) : RowG (o ++ [r]) := by
  have cases_ : ∀ {i : Nat} {x : HRow}, (o ++ [r])[i]? = some x → o[i]? = some x ∨ (i = o.length ∧ x = r) := fun {i x} e => by
    by_cases hi : i < o.length
    · rw [List.getElem?_append_left hi] at e
      exact .inl e
    · have hi2 : i = o.length := by
        have := (List.getElem?_eq_some_iff.mp e).1
        rw [List.length_append, List.length_singleton] at this
        omega
      subst hi2
      rw [List.getElem?_append_right (Nat.le_refl _), Nat.sub_self] at e
      cases e
      exact .inr ⟨rfl, rfl⟩
  refine ⟨fun i x e => ?_, seesL_app.mpr ⟨g.sees, hv.imp (fun z => z.1) (fun z => z.2)⟩, fun i x e hw => ?_, fun x hx => ?_⟩
  · rcases cases_ e with e | ⟨rfl, rfl⟩
    · exact g.at_ i x e
    · exact ⟨ht, h0, h1, h2, h3, h4⟩
  · rcases cases_ e with e | ⟨rfl, rfl⟩
    · exact g.wv i x e hw
    · rcases hv with z | z
      · exact z.2
      · rw [hw] at z
        cases z.1
  · rcases List.mem_append.mp hx with hx | hx
    · rcases g.rv x hx with z | ⟨w, hw, z⟩
      · exact .inl z
      · exact .inr ⟨w, List.mem_append_left _ hw, z⟩
    · rw [List.mem_singleton.mp hx]
      rcases hv with z | z
      · exact .inr ⟨r, by simp, z.1, rfl⟩
      · rcases lastV_mem (o := o) (l := 0) with e | ⟨y, hy, e⟩
        · exact .inl (by rw [z.2, e])
        · rcases g.rv y hy with z2 | ⟨w, hw, z2, z3⟩
          · exact .inl (by rw [z.2, ← e, z2])
          · exact .inr ⟨w, List.mem_append_left _ hw, z2, by rw [z3, e, z.2]⟩
theorem RowG.fine {o : List HRow} (g : RowG o) (hl : o.length ≤ 60) : HFine o := by
  have at_ : ∀ r ∈ o, ∃ i, o[i]? = some r := fun r hr => List.mem_iff_getElem?.mp hr
  refine ⟨hl, fun r w hr hw r1 w1 e => ?_, ?_, fun r hr => ?_, fun r hr _ => g.rv r hr, fun r hr => ?_, fun r hr => ?_⟩
  · obtain ⟨i, hi⟩ := at_ r hr
    obtain ⟨j, hj⟩ := at_ w hw
    have e1 := g.wv i r hi r1
    have e2 := g.wv j w hj w1
    have h1 := (List.getElem?_eq_some_iff.mp hi).1
    have h2 := (List.getElem?_eq_some_iff.mp hj).1
    have : i = j := by
      rw [e1, e2] at e
      omega
    subst this
    rw [hi] at hj
    cases hj
    rfl
  · refine List.pairwise_map.mpr (List.pairwise_iff_getElem.mpr fun i j hi hj hij e => ?_)
    rw [(g.at_ i _ (List.getElem?_eq_getElem hi)).1, (g.at_ j _ (List.getElem?_eq_getElem hj)).1] at e
    omega
  · obtain ⟨i, hi⟩ := at_ r hr
    have := (g.at_ i r hi).1
    omega
  · obtain ⟨i, hi⟩ := at_ r hr
    have h := g.at_ i r hi
    have := (List.getElem?_eq_some_iff.mp hi).1
    omega
  · obtain ⟨i, hi⟩ := at_ r hr
    have wr : ∀ w ∈ o, w.wr = true → 1 ≤ w.v ∧ w.v ≤ 999 := fun w hw h1 => by
      obtain ⟨j, hj⟩ := at_ w hw
      have := g.wv j w hj h1
      omega
    rcases g.rv r hr with z | ⟨w, hw, z1, z2⟩
    · refine ⟨by omega, by omega, fun h => ?_⟩
      have := wr r hr h
      omega
    · have := wr w hw z1
      exact ⟨by omega, by omega, fun _ => by omega⟩
theorem RowG.noBack {o : List HRow} (g : RowG o) : NoBack o := by
  refine List.pairwise_iff_getElem.mpr fun i j hi hj hij => ?_
  have h1 := g.at_ i _ (List.getElem?_eq_getElem hi)
  have h2 := g.at_ j _ (List.getElem?_eq_getElem hj)
  omega
/-! as it was later; values called otherwise -/
def shiftR (d : Int) (r : HRow) : HRow := ⟨r.t, r.wr, r.v, r.b + d, r.e + d⟩
def newV (v : Int) : Int := v * 500 % 999
def callR (r : HRow) : HRow := ⟨r.t, r.wr, newV r.v, r.b, r.e⟩
def not999 (r : HRow) : Bool := !decide (r.v = 999)
theorem sees_map {f : HRow → HRow} {g : Int → Int} (hf : ∀ r, (f r).wr = r.wr ∧ (f r).v = g r.v) : ∀ {o : List HRow} {l : Int}, seesL l o → seesL (g l) (o.map f)
  | [], _, _ => trivial
  | r :: o, l, h => by
    refine ⟨?_, ?_⟩
    · rw [(hf r).1, (hf r).2]
      exact h.1.imp id fun z => by rw [z]
    · rw [(hf r).2]
      exact sees_map hf h.2
theorem noBack_map {f : HRow → HRow} {d : Int} (hf : ∀ r, (f r).b = r.b + d ∧ (f r).e = r.e + d) {o : List HRow} (h : NoBack o) : NoBack (o.map f) := List.pairwise_map.mpr (h.imp fun {x y} z => by
  rw [(hf x).1, (hf y).2]
  omega)
theorem sees_filter : ∀ {o : List HRow} {l l' : Int}, (l ≠ 999 → l' = l) → seesL l o → seesL l' (o.filter not999)
  | [], _, _, _, _ => trivial
  | r :: o, l, l', hl, h => by
    by_cases hr : r.v = 999
    · have : not999 r = false := by simp [not999, hr]
      rw [List.filter_cons, if_neg (by rw [this]; exact Bool.false_ne_true)]
      exact sees_filter (l := r.v) (fun z => absurd hr z) h.2
    · have : not999 r = true := by simp [not999, hr]
      rw [List.filter_cons, if_pos this]
      refine ⟨h.1.imp id fun z => ?_, sees_filter (l := r.v) (fun _ => rfl) h.2⟩
      rw [hl (fun e => hr (z.trans e)), z]
theorem HFine.shift {h : List HRow} (g : HFine h) {d : Int} (hd : 0 ≤ d) (hm : ∀ r ∈ h, r.e + d ≤ 1000000) : HFine (h.map (shiftR d)) := by
  have mem : ∀ {r}, r ∈ h.map (shiftR d) → ∃ x ∈ h, r = shiftR d x := fun hr => by
    obtain ⟨x, hx, e⟩ := List.mem_map.mp hr
    exact ⟨x, hx, e.symm⟩
  refine ⟨by rw [List.length_map]; exact g.len, fun r w hr hw r1 w1 e => ?_, by rw [List.map_map]; exact g.tn, fun r hr => ?_, fun r hr e => ?_, fun r hr => ?_, fun r hr => ?_⟩
  · obtain ⟨x, hx, rfl⟩ := mem hr
    obtain ⟨y, hy, rfl⟩ := mem hw
    rw [g.one x y hx hy r1 w1 e]
  · obtain ⟨x, hx, rfl⟩ := mem hr
    exact g.tt x hx
  · obtain ⟨x, hx, rfl⟩ := mem hr
    rcases g.rd x hx e with z | ⟨w, hw, z1, z2⟩
    · exact .inl z
    · exact .inr ⟨_, List.mem_map_of_mem hw, z1, z2⟩
  · obtain ⟨x, hx, rfl⟩ := mem hr
    have h1 := g.tm x hx
    have h2 := hm x hx
    exact ⟨by show 0 ≤ x.b + d; omega, by show x.b + d < x.e + d; omega, h2⟩
  · obtain ⟨x, hx, rfl⟩ := mem hr
    exact g.vb x hx
theorem newV_inj {v w : Int} (h1 : 0 ≤ v) (h2 : v ≤ 998) (h3 : 0 ≤ w) (h4 : w ≤ 998) (e : newV v = newV w) : v = w := by
  unfold newV at e
  omega
theorem newV_pos {v : Int} (h1 : 1 ≤ v) (h2 : v ≤ 998) : 1 ≤ newV v := by
  unfold newV
  omega
theorem HFine.called {h : List HRow} (g : HFine h) : HFine ((h.filter not999).map callR) := by
  have mem : ∀ {r}, r ∈ (h.filter not999).map callR → ∃ x ∈ h, r = callR x ∧ 0 ≤ x.v ∧ x.v ≤ 998 := fun hr => by
    obtain ⟨x, hx, e⟩ := List.mem_map.mp hr
    obtain ⟨h1, h2⟩ := List.mem_filter.mp hx
    have h3 : x.v ≠ 999 := by simpa [not999] using h2
    have := g.vb x h1
    exact ⟨x, h1, e.symm, by omega, by omega⟩
  refine ⟨by rw [List.length_map]; exact Nat.le_trans (List.length_filter_le ..) g.len, fun r w hr hw r1 w1 e => ?_, ?_, fun r hr => ?_, fun r hr e => ?_, fun r hr => ?_, fun r hr => ?_⟩
  · obtain ⟨x, hx, rfl, x1, x2⟩ := mem hr
    obtain ⟨y, hy, rfl, y1, y2⟩ := mem hw
    rw [g.one x y hx hy r1 w1 (newV_inj x1 x2 y1 y2 e)]
  · rw [List.map_map]
    exact ((List.filter_sublist (p := not999) (l := h)).map (·.t)).nodup g.tn
  · obtain ⟨x, hx, rfl, _⟩ := mem hr
    exact g.tt x hx
  · obtain ⟨x, hx, rfl, x1, x2⟩ := mem hr
    rcases g.rd x hx e with z | ⟨w, hw, z1, z2⟩
    · exact .inl (by show newV x.v = 0; rw [z]; rfl)
    · refine .inr ⟨callR w, List.mem_map_of_mem (List.mem_filter.mpr ⟨hw, ?_⟩), z1, by show newV w.v = newV x.v; rw [z2]⟩
      have : w.v ≠ 999 := by omega
      simp [not999, this]
  · obtain ⟨x, hx, rfl, _⟩ := mem hr
    exact g.tm x hx
  · obtain ⟨x, hx, rfl, x1, x2⟩ := mem hr
    have h3 := g.vb x hx
    refine ⟨by show 0 ≤ newV x.v; unfold newV; omega, by show newV x.v ≤ 999; unfold newV; omega, fun hw => ?_⟩
    show 1 ≤ newV x.v
    exact newV_pos (h3.2.2 hw) x2
/-! orders of these -/
theorem some_row {h o : List HRow} (g : RowG o) (p : h.Perm o) : SomeO h 0 := ⟨o, p.symm, g.noBack, g.sees⟩
theorem some_shift {h o : List HRow} (g : RowG o) (p : h.Perm o) (d : Int) : SomeO (h.map (shiftR d)) 0 := ⟨o.map (shiftR d), (p.map _).symm, noBack_map (d := d) (fun r => ⟨rfl, rfl⟩) g.noBack, sees_map (f := shiftR d) (g := id) (fun r => ⟨rfl, rfl⟩) g.sees⟩
theorem some_called {h o : List HRow} (g : RowG o) (p : h.Perm o) : SomeO ((h.filter not999).map callR) 0 := by
  refine ⟨(o.filter not999).map callR, ((p.filter _).map _).symm, noBack_map (d := 0) (fun r => ⟨by show r.b = r.b + 0; omega, by show r.e = r.e + 0; omega⟩) (List.Pairwise.sublist List.filter_sublist g.noBack), ?_⟩
  have := sees_map (f := callR) (g := newV) (fun r => ⟨rfl, rfl⟩) (sees_filter (l := 0) (l' := 0) (fun _ => rfl) g.sees)
  exact this
/-! the order is one -/
def keyLe (h : List HRow) (r w : HRow) : Bool := !HT.lexLt (keyR h w) (keyR h r)
theorem placed_some (h : List HRow) : ∃ rs, Placed h rs := by
  refine ⟨h.mergeSort (keyLe h), List.mergeSort_perm _ _, ?_⟩
  have := List.pairwise_mergeSort (le := keyLe h) (fun a b c h1 h2 => ?_) (fun a b => ?_) h
  · exact this.imp fun z => by simpa [keyLe] using z
  · simp only [keyLe, Bool.not_eq_true'] at *
    exact lex_tr _ _ _ h1 h2
  · unfold keyLe
    cases e : HT.lexLt (keyR h b) (keyR h a) with
    | false => rfl
    | true => rw [lex_asym _ _ e]; rfl
theorem lex_anti : ∀ {xs ys : List Int}, xs.length = ys.length → HT.lexLt xs ys = false → HT.lexLt ys xs = false → xs = ys
  | [], [], _, _, _ => rfl
  | x :: xs, y :: ys, hl, h1, h2 => by
    rcases lex_le h2 with h | ⟨rfl, h⟩
    · rcases lex_le h1 with h' | ⟨rfl, _⟩
      · omega
      · omega
    · rcases lex_le h1 with h' | ⟨_, h'⟩
      · omega
      · rw [lex_anti (by simpa using hl) h' h]
theorem inj_t {h : List HRow} (tn : (h.map (·.t)).Nodup) {a b : HRow} (ha : a ∈ h) (hb : b ∈ h) (e : a.t = b.t) : a = b := by
  obtain ⟨i, hi⟩ := List.mem_iff_getElem?.mp ha
  obtain ⟨j, hj⟩ := List.mem_iff_getElem?.mp hb
  have h1 : (h.map (·.t))[i]? = some a.t := by rw [List.getElem?_map, hi]; rfl
  have h2 : (h.map (·.t))[j]? = some a.t := by rw [List.getElem?_map, hj, e]; rfl
  have hij : i = j := (List.getElem?_inj (List.getElem?_eq_some_iff.mp h1).1 tn).mp (by rw [h1, h2])
  subst hij
  rw [hi] at hj
  cases hj
  rfl
theorem key_t {h : List HRow} {r w : HRow} (hr : r ∈ h) (hw : w ∈ h) (e : keyR h r = keyR h w) : r.t = w.t := by
  obtain ⟨z, hz⟩ := zone_of hr
  obtain ⟨z', hz'⟩ := zone_of hw
  rw [key_eq hz, key_eq hz'] at e
  simp only [List.cons.injEq] at e
  exact e.2.2.2.2.2.1
theorem placed_one {h : List HRow} (tn : (h.map (·.t)).Nodup) {rs rs' : List HRow} (p : Placed h rs) (p' : Placed h rs') : rs' = rs := by
  refine List.Perm.eq_of_pairwise (fun a b ha hb h1 h2 => ?_) p'.2 p.2 (p'.1.trans p.1.symm)
  have ha' := p'.1.mem_iff.mp ha
  have hb' := p.1.mem_iff.mp hb
  obtain ⟨z, hz⟩ := zone_of ha'
  obtain ⟨z', hz'⟩ := zone_of hb'
  have hl : (keyR h b).length = (keyR h a).length := by rw [key_eq hz, key_eq hz']; rfl
  have et := key_t ha' hb' (lex_anti hl.symm h2 h1)
  exact inj_t tn ha' hb' et

/-! ### rows of a history in the store -/
theorem gd_hA {S : Sto} {E : Nat → Prop} {r : HRow} (h1 : r.t.natAbs < 2 ^ 40) (h2 : r.v.natAbs < 2 ^ 40) (h3 : r.b.natAbs < 2 ^ 40) (h4 : r.e.natAbs < 2 ^ 40) : gd S E 0 1 (hA r) := gd_tup (by show 5 ≤ 70; decide) fun x hx => by
  simp only [List.mem_cons, List.not_mem_nil, or_false] at hx
  rcases hx with rfl | rfl | rfl | rfl | rfl
  · exact gd_s (gs_num (by omega))
  · cases r.wr with
    | true => exact gd_s (gs_word (by decide +kernel) (by decide))
    | false => exact gd_s (gs_word (by decide +kernel) (by decide))
  · exact gd_s (gs_num (by omega))
  · exact gd_s (gs_num (by omega))
  · exact gd_s (gs_num (by omega))
theorem ddup_nodup {ns : List Int} (h : ns.Nodup) : ddup ns = ns := by
  unfold ddup
  rw [RZ.firstMet_nodup h ns.length (Nat.le_refl _), List.take_length]
theorem rowH_hA {r : HRow} (t0 : 0 ≤ r.t) (tm : 0 ≤ r.b ∧ r.b < r.e ∧ r.e ≤ 1000000) (vb : 0 ≤ r.v ∧ r.v ≤ 999 ∧ (r.wr = true → 1 ≤ r.v)) : rowH (hA r) = true := by
  obtain ⟨t, w, v, b, e⟩ := r
  show (decide (0 ≤ t) && inW rwS (.str (kindS w)) && withinA (leastA (.str (kindS w))) 999 (.int v) && withinA 0 1000000 (.int b) && withinA (b + 1) 1000000 (.int e)) = true
  have e1 : inW rwS (.str (kindS w)) = true := by cases w <;> decide +kernel
  have e2 : withinA (leastA (.str (kindS w))) 999 (.int v) = true := by
    cases w with
    | true =>
      have : leastA (.str (kindS true)) = 1 := by decide +kernel
      rw [this]
      have := vb.2.2 rfl
      have h9 : v ≤ 999 := vb.2.1
      show (decide ((1 : Int) ≤ v) && decide (v ≤ 999)) = true
      rw [decide_eq_true this, decide_eq_true h9]
      rfl
    | false =>
      have : leastA (.str (kindS false)) = 0 := by decide +kernel
      rw [this]
      show (decide ((0 : Int) ≤ v) && decide (v ≤ 999)) = true
      rw [decide_eq_true vb.1, decide_eq_true vb.2.1]
      rfl
  rw [e1, e2, decide_eq_true t0]
  show (true && true && true && (decide ((0 : Int) ≤ b) && decide (b ≤ 1000000)) && (decide (b + 1 ≤ e) && decide (e ≤ 1000000))) = true
  have h1 : 0 ≤ b := tm.1
  have h2 : b < e := tm.2.1
  have h3 : e ≤ 1000000 := tm.2.2
  rw [decide_eq_true h1, decide_eq_true (show b ≤ 1000000 by omega), decide_eq_true (show b + 1 ≤ e by omega), decide_eq_true h3]
  rfl
theorem isW_hA (r : HRow) : isW (hA r) = r.wr := by
  obtain ⟨t, w, v, b, e⟩ := r
  cases w with
  | true => show decide (("write" : Str) = "write") = true; simp
  | false => show decide (("read" : Str) = "write") = false; decide +kernel
theorem wOfL_hA (h : List HRow) : wOfL (h.map hA) = (h.filter (·.wr)).map (·.v) := by
  unfold wOfL
  rw [List.filter_map, List.map_map]
  have : (isW ∘ hA) = fun r : HRow => r.wr := funext isW_hA
  rw [this]
  rfl
theorem one_nodup {h : List HRow} (one : OneW h) (tn : (h.map (·.t)).Nodup) : ((h.filter (·.wr)).map (·.v)).Nodup := by
  have nd : h.Nodup := nodup_of_map tn
  refine List.pairwise_map.mpr ((nd.filter _).imp_of_mem fun {a b} ha hb ne e => ne ?_)
  exact one a b (List.mem_filter.mp ha).1 (List.mem_filter.mp hb).1 (by simpa using (List.mem_filter.mp ha).2) (by simpa using (List.mem_filter.mp hb).2) e
theorem histL_fine {h : List HRow} (g : HFine h) : histL (h.map hA) = true := by
  unfold histL
  have l1 : decide ((h.map hA).length ≤ 60) = true := decide_eq_true (by rw [List.length_map]; exact g.len)
  have l2 : (h.map hA).all rowH = true := by
    rw [List.all_map, List.all_eq_true]
    exact fun r hr => rowH_hA (g.tt r hr) (g.tm r hr) (g.vb r hr)
  have l3 : decide ((ddup (wOfL (h.map hA))).length = (wOfL (h.map hA)).length) = true := by
    rw [wOfL_hA, ddup_nodup (one_nodup g.one g.tn)]
    exact decide_eq_true rfl
  have l4 : decide ((ddup ((h.map hA).map tOf)).length = (h.map hA).length) = true := by
    have : (h.map hA).map tOf = h.map (·.t) := by rw [List.map_map]; rfl
    rw [this, ddup_nodup g.tn, List.length_map, List.length_map]
    exact decide_eq_true rfl
  have l5 : (h.map hA).all (lastH (h.map hA)) = true := by
    rw [List.all_map, List.all_eq_true]
    intro r hr
    show (decide (r.v = 0) || decide (r.v ∈ wOfL (h.map hA))) = true
    rw [wOfL_hA]
    have key : ∀ w ∈ h, w.wr = true → w.v ∈ (h.filter (·.wr)).map (·.v) := fun w hw hwr => List.mem_map.mpr ⟨w, List.mem_filter.mpr ⟨hw, hwr⟩, rfl⟩
    cases hwr : r.wr with
    | true => rw [decide_eq_true (key r hr hwr), Bool.or_true]
    | false =>
      rcases g.rd r hr hwr with z | ⟨w, hw, z1, z2⟩
      · rw [decide_eq_true z]
        rfl
      · rw [← z2, decide_eq_true (key w hw z1), Bool.or_true]
  rw [l1, l2, l3, l4, l5]
  rfl
theorem isHist_wp {S : Sto} {n : Nat} {h : List HRow} (g : HFine h) (ht : ∀ r ∈ h, r.t < 1000) (e : S[n]? = some (.lst (h.map hA))) : okR (m_is_history [.ref n] S) fun a t => a = .bl true ∧ ∃ l, t = S ++ l := by
  have gdh : gd S (fun _ => False) 0 2 (.ref n) := gd_ref (fun z => z) e (by rw [List.length_map]; have := g.len; omega) fun x hx => by
    obtain ⟨r, hr, rfl⟩ := List.mem_map.mp hx
    have h1 := g.tt r hr
    have h2 := ht r hr
    have h3 := g.tm r hr
    have h4 := g.vb r hr
    exact gd_hA (by omega) (by omega) (by omega) (by omega)
  obtain ⟨l, el⟩ := hist_ev (by omega) (by omega) gdh
  have : histA S (.ref n) = true := by
    simp only [histA, e]
    exact histL_fine g
  rw [this] at el
  exact okR_of ⟨_, _, el, rfl, l, rfl⟩
open Classical in
theorem ordered_wp {S : Sto} {n : Nat} {h : List HRow} (g : HFine h) (so : SomeO h 0) (e : S[n]? = some (.lst (h.map hA))) : okR (m_ordered [.ref n] S) fun a t => a = .tup [.str "order", .ref S.length] ∧ ∃ ts, t = S ++ [.lst (ts.map A.int)] ∧ OrdP h ts ∧ OrdC h ts := by
  have no : ∀ x, ¬ ShowsP h x := order_sound g.mid so
  obtain ⟨rs, pl⟩ := placed_some h
  have one : OneP h rs := fun rs' p' => placed_one g.tn pl p'
  have hx : ∃ rs, OneP h rs := ⟨rs, one⟩
  have ec : hx.choose = rs := (hx.choose_spec rs pl).symm
  show okR (ordrM (hOf S (.ref n)) S) _
  rw [hOf_ref e]
  unfold ordrM
  have hl := g.len
  simp only
  rw [if_pos ⟨by omega, g.one⟩, if_pos no, dif_pos hx, ec]
  refine ⟨rfl, rs.map HRow.t, rfl, ⟨rs, pl.1, rfl, placed_times g.mid no pl, placed_sees g.mid pl⟩, by omega, by rw [List.length_map, pl.1.length_eq]; omega, g.tn, fun r hr => ⟨(g.tm r hr).1, (g.tm r hr).2.1⟩⟩
open Classical in
theorem ordM_wp {S : Sto} {n T : Nat} {h : List HRow} {ts : List Int} (e : S[n]? = some (.lst (h.map hA))) (eT : S[T]? = some (.lst (ts.map A.int))) (o : OrdP h ts) (c : OrdC h ts) : m_is_order [.ref n, .ref T] S = .ok (.bl true) S ∧ m__law_order_right [.ref n, .ref T] S = .ok (.bl true) S := by
  have key : ordM (hOf S (.ref n)) (iOf S (.ref T)) S = .ok (.bl true) S := by
    rw [hOf_ref e, iOf_ref eT]
    unfold ordM
    simp only
    rw [if_pos c, decide_eq_true o]
  exact ⟨key, key⟩

/-! ### tasks in a row, drawn -/
structure InRow (n : Nat) (o : List HRow) (s : Sto) : Prop where
  h : ∃ h : List HRow, s[n]? = some (.lst (h.map hA)) ∧ h.Perm o
  g : RowG o
abbrev envR (b : Nat) (many : Int) (n : Nat) (v wide : Int) (z5 z6 z7 z8 : Option A) : AEnv := [some (.ref b), some (.int many), some (.ref n), some (.int v), some (.int wide), z5, z6, z7, z8]
def RowI (st : Sto) (b : Nat) (many wide : Int) (i : Nat) (env : AEnv) (s : Sto) : Prop := ∃ o z5 z6 z7 z8, env = envR b many st.length (lastV 0 o) wide z5 z6 z7 z8 ∧ InRow st.length o s ∧ o.length = i ∧ Dr b st s
theorem row_ins {st s : Sto} {b i : Nat} {many wide v B e : Int} {wr : Bool} {h o : List HRow} {Q : Fl → Sto → Prop} (hb : b < st.length) (hh : s[st.length]? = some (.lst (h.map hA))) (hp : h.Perm o) (g : RowG o) (hl : o.length = i) (hi : i < 60) (D : Dr b st s)
    (b1 : 0 ≤ B) (b2 : 1000 + 10 * (i : Int) - 300 ≤ B) (b3 : B ≤ 1000 + 10 * (i : Int) - 1) (e1 : 1000 + 10 * (i : Int) + 1 ≤ e) (e2 : e ≤ 1000 + 10 * (i : Int) + 300) (hv : (wr = true ∧ v = 1 + ((o.length : Int) * 100 + 7) % 999) ∨ (wr = false ∧ v = lastV 0 o)) :
    okF (sDrop (mMeth oInsert (mVar 2) (mCons (mCall 2 m__law_take (mCons (mVar 0) (mCons (mOp oAddX (mCB oLen (mCons (mVar 2) mNil)) (mC (.int 1))) mNil))) (mCons (mTup (mCons (mVar 5) (mCons (mVar 8) (mCons (mVar 3) (mCons (mVar 6) (mCons (mVar 7) mNil)))))) mNil))) (envR b many st.length v wide (some (.int (i : Int))) (some (.int B)) (some (.int e)) (some (.str (kindS wr)))) s) (lK (RowI st b many wide (i + 1)) Q) := by
  have hlen := hp.length_eq
  simp only [wp_okR, wp_okF, wp_fin, wp_next, wp_then, wp_bind, wp_nox, wp_tK, wp_bK, wp_fr, wp_fn, wp_nn, wp_nr, wp_nb, wp_nc, wp_ln, wp_lc, wp_lb, wp_lr, wp_jn, wp_jc, ev_bok, ev_bno, ev_bex, ev_tok, ev_tno, ev_tex, ev_nnx, ev_nrt, ev_nbk, ev_nct, ev_nex, ev_nno, ev_frt, ev_fnx, ev_fex, ev_xok, ev_lsome, ev_lnone, ev_seq, ev_if, ev_ret, ev_retN, ev_drop, ev_nop, ev_brk, ev_cont, ev_asgN, ev_asgT, ev_asgO, ev_mgTup, ev_mgN, ev_mgC, ev_mg0, ev_putL, ev_putO, ev_var, ev_vr, ev_c, ev_op, ev_un, ev_test, ev_tb, ev_notT, ev_andT, ev_orT, ev_ifE, ev_not, ev_nb, ev_and, ev_andK, ev_or, ev_orK, ev_chain, ev_chK, ev_nil, ev_cons, ev_tup, ev_lst, ev_new, ev_call, ev_cb, ev_size, ev_addI, ev_addS, ev_addT, ev_addL, ev_catO, ev_sub, ev_mul, ev_div, ev_mod, ev_p5, ev_p6, ev_p12, ev_p18, ev_p30, ev_neg, ev_ltI, ev_ltS, ev_leI, ev_leS, ev_gt, ev_ge, ev_eqI, ev_eqS, ev_neI, ev_neS, ev_neB, ev_eqB, ev_is, ev_isnot, ev_ixT, ev_ixS, ev_ixR, ev_ixL, ev_ixK, ev_getL, ev_getM, ev_gL, ev_gM, ev_at0, ev_at1, ev_at2, ev_at3, ev_at4, ev_lenS, ev_lenR, ev_lenT, ev_lenL, ev_lenO, ev_lenD, ev_abs, ev_min2, ev_max2, ev_intI, ev_intB, ev_set, ev_fc, ev_setset, ev_last, ev_appk, ev_app0, ev_setk, ev_set0, ev_assoc, ev_lapp, ev_lappA, ev_sl, ev_nopart, ev_part, ev_ptK, ev_slT, ev_slS, ev_slR, ev_slK, ev_tyN, ev_tyB, ev_tyI, ev_tyS, ev_tyT, ev_tyL, ev_tyR, ev_tyRL, ev_isi, ev_isi1, ev_isi2, ev_isi3, ev_isi4, ev_isi5, ev_isiT, ev_isi2K, ev_isTy, ev_list, ev_listK, ev_tuple, ev_tupK, ev_getST, ev_getSR, ev_getSL, ev_all, ev_allK, ev_eqXI, ev_eqXS, ev_neXI, ev_neXS, ev_neXB, ev_eqXB, ev_eqXR, ev_neXR, ev_nil2, ev_eqK, ev_neK, ev_meth, ev_meth0, ev_mth1, ev_mth2, ev_mth3, ev_append, ev_m0, ev_m0K, ev_str, ev_for, ev_miR1, ev_rg1K, ev_miL, ev_liK, ev_miT, ev_tiK, ev_lc, ev_wipe0, ev_wipeS, ev_yes, ev_lenSet, ev_lenSetK, ev_listR, ev_lrK, ev_put2, ev_p2A, ev_p2K, ev_p2E, ev_put1, ev_pt1, ev_addXI, ev_addXB, ev_addXS, ev_addXT, ev_addXL, ev_subXI, ev_subXB, ev_mulXI, ev_mulXB, ev_mulXL, ev_negXI, ev_negXB, ev_strXI, ev_strXB, ev_mulYI, ev_mulYB, ev_mulYL, ev_mulYT, ev_dnew, ev_dnewT, ev_dgetE, ev_getD, ev_gD, ev_keyI, ev_keyS, ev_dgK, ev_dinE, ev_diK, ev_dputE, ev_dpK, ev_dget2E, ev_isDA, ev_isSome, ev_isNone, ev_dg2K, ev_dpop2E, ev_dp2K, ev_dp3S, ev_dp3N, ev_sortedE, ev_srO1, ev_srO2, ev_gLd, ev_srKS, ev_srKI, ev_gDT, ev_gT, ev_tinE, ev_tiKK, ev_keysA, ev_keysN, ev_keysC, ev_dputTE, ev_dptK, ev_dispE, ev_mpN, ev_mpC, ev_pcK, ev_dsK, ev_dsK2, ev_lc2E, List.getElem?_cons_zero, List.getElem?_cons_succ, List.set_cons_zero, List.set_cons_succ, List.length_cons, List.length_nil, List.cons_append, List.nil_append, if_true, if_false, Bool.false_eq_true, Bool.true_eq_false, reduceIte, Bool.not_true, Bool.not_false, Bool.and_true, Bool.true_and, Bool.and_false, Bool.false_and, Bool.or_true, Bool.true_or, Bool.or_false, Bool.false_or, decide_eq_true_eq, Nat.reduceAdd, Nat.reduceLeDiff, Nat.zero_add, Int.reduceLT, Int.reduceLE, Int.reduceEq, Int.reduceNeg, Nat.reduceEqDiff, and_self, and_true, true_and, decide_true, decide_false, eq_self, ite_true, ite_false, Int.reduceSub, Int.reduceAdd, Int.cast_ofNat_Int, Int.natCast_add, Int.cast_ofNat_Int, Nat.reduceSub, Nat.add_assoc, String.reduceBEq, String.reduceEq, Bool.or_not_self, beq_self_eq_true, hh, List.length_map]
  refine okR_use (take_wp D.bag (by omega) (by omega)) fun a s5 h5' => ?_
  obtain ⟨at_, rfl, at0, at1, D5⟩ := h5'
  have h5 := D5.get hh (by omega)
  have l5 := (List.getElem?_eq_some_iff.mp h5).1
  have ins : ∀ x, oInsert (h.map hA) [.int at_, x] = some (.non, (h.map hA).take at_.toNat ++ [x] ++ (h.map hA).drop at_.toNat) := fun x => by
    unfold oInsert
    simp only
    rw [if_pos ⟨by rw [List.length_map, sizeLine_eq]; omega, at0, by omega⟩]
  simp only [wp_okR, wp_okF, wp_fin, wp_next, wp_then, wp_bind, wp_nox, wp_tK, wp_bK, wp_fr, wp_fn, wp_nn, wp_nr, wp_nb, wp_nc, wp_ln, wp_lc, wp_lb, wp_lr, wp_jn, wp_jc, ev_bok, ev_bno, ev_bex, ev_tok, ev_tno, ev_tex, ev_nnx, ev_nrt, ev_nbk, ev_nct, ev_nex, ev_nno, ev_frt, ev_fnx, ev_fex, ev_xok, ev_lsome, ev_lnone, ev_seq, ev_if, ev_ret, ev_retN, ev_drop, ev_nop, ev_brk, ev_cont, ev_asgN, ev_asgT, ev_asgO, ev_mgTup, ev_mgN, ev_mgC, ev_mg0, ev_putL, ev_putO, ev_var, ev_vr, ev_c, ev_op, ev_un, ev_test, ev_tb, ev_notT, ev_andT, ev_orT, ev_ifE, ev_not, ev_nb, ev_and, ev_andK, ev_or, ev_orK, ev_chain, ev_chK, ev_nil, ev_cons, ev_tup, ev_lst, ev_new, ev_call, ev_cb, ev_size, ev_addI, ev_addS, ev_addT, ev_addL, ev_catO, ev_sub, ev_mul, ev_div, ev_mod, ev_p5, ev_p6, ev_p12, ev_p18, ev_p30, ev_neg, ev_ltI, ev_ltS, ev_leI, ev_leS, ev_gt, ev_ge, ev_eqI, ev_eqS, ev_neI, ev_neS, ev_neB, ev_eqB, ev_is, ev_isnot, ev_ixT, ev_ixS, ev_ixR, ev_ixL, ev_ixK, ev_getL, ev_getM, ev_gL, ev_gM, ev_at0, ev_at1, ev_at2, ev_at3, ev_at4, ev_lenS, ev_lenR, ev_lenT, ev_lenL, ev_lenO, ev_lenD, ev_abs, ev_min2, ev_max2, ev_intI, ev_intB, ev_set, ev_fc, ev_setset, ev_last, ev_appk, ev_app0, ev_setk, ev_set0, ev_assoc, ev_lapp, ev_lappA, ev_sl, ev_nopart, ev_part, ev_ptK, ev_slT, ev_slS, ev_slR, ev_slK, ev_tyN, ev_tyB, ev_tyI, ev_tyS, ev_tyT, ev_tyL, ev_tyR, ev_tyRL, ev_isi, ev_isi1, ev_isi2, ev_isi3, ev_isi4, ev_isi5, ev_isiT, ev_isi2K, ev_isTy, ev_list, ev_listK, ev_tuple, ev_tupK, ev_getST, ev_getSR, ev_getSL, ev_all, ev_allK, ev_eqXI, ev_eqXS, ev_neXI, ev_neXS, ev_neXB, ev_eqXB, ev_eqXR, ev_neXR, ev_nil2, ev_eqK, ev_neK, ev_meth, ev_meth0, ev_mth1, ev_mth2, ev_mth3, ev_append, ev_m0, ev_m0K, ev_str, ev_for, ev_miR1, ev_rg1K, ev_miL, ev_liK, ev_miT, ev_tiK, ev_lc, ev_wipe0, ev_wipeS, ev_yes, ev_lenSet, ev_lenSetK, ev_listR, ev_lrK, ev_put2, ev_p2A, ev_p2K, ev_p2E, ev_put1, ev_pt1, ev_addXI, ev_addXB, ev_addXS, ev_addXT, ev_addXL, ev_subXI, ev_subXB, ev_mulXI, ev_mulXB, ev_mulXL, ev_negXI, ev_negXB, ev_strXI, ev_strXB, ev_mulYI, ev_mulYB, ev_mulYL, ev_mulYT, ev_dnew, ev_dnewT, ev_dgetE, ev_getD, ev_gD, ev_keyI, ev_keyS, ev_dgK, ev_dinE, ev_diK, ev_dputE, ev_dpK, ev_dget2E, ev_isDA, ev_isSome, ev_isNone, ev_dg2K, ev_dpop2E, ev_dp2K, ev_dp3S, ev_dp3N, ev_sortedE, ev_srO1, ev_srO2, ev_gLd, ev_srKS, ev_srKI, ev_gDT, ev_gT, ev_tinE, ev_tiKK, ev_keysA, ev_keysN, ev_keysC, ev_dputTE, ev_dptK, ev_dispE, ev_mpN, ev_mpC, ev_pcK, ev_dsK, ev_dsK2, ev_lc2E, List.getElem?_cons_zero, List.getElem?_cons_succ, List.set_cons_zero, List.set_cons_succ, List.length_cons, List.length_nil, List.nil_append, if_true, if_false, Bool.false_eq_true, Bool.true_eq_false, reduceIte, Bool.not_true, Bool.not_false, Bool.and_true, Bool.true_and, Bool.and_false, Bool.false_and, Bool.or_true, Bool.true_or, Bool.or_false, Bool.false_or, decide_eq_true_eq, Nat.reduceAdd, Nat.reduceLeDiff, Nat.zero_add, Int.reduceLT, Int.reduceLE, Int.reduceEq, Int.reduceNeg, Nat.reduceEqDiff, and_self, and_true, true_and, decide_true, decide_false, eq_self, ite_true, ite_false, Int.reduceSub, Int.reduceAdd, Int.cast_ofNat_Int, Int.natCast_add, Int.cast_ofNat_Int, Nat.reduceSub, Nat.add_assoc, String.reduceBEq, String.reduceEq, Bool.or_not_self, beq_self_eq_true, h5, ins]
  obtain ⟨row, hrow⟩ : ∃ row : HRow, row = ⟨(i : Int), wr, v, B, e⟩ := ⟨_, rfl⟩
  have eA : A.tup [.int (i : Int), .str (kindS wr), .int v, .int B, .int e] = hA row := by
    rw [hrow]
    rfl
  have eL : (h.map hA).take at_.toNat ++ [hA row] ++ (h.map hA).drop at_.toNat = (h.take at_.toNat ++ [row] ++ h.drop at_.toNat).map hA := by
    rw [List.map_append, List.map_append, List.map_take, List.map_drop]
    rfl
  rw [eA, eL]
  have pe : (h.take at_.toNat ++ [row] ++ h.drop at_.toNat).Perm (o ++ [row]) := by
    have p1 : (h.take at_.toNat ++ [row] ++ h.drop at_.toNat).Perm (row :: h) := by
      rw [List.append_assoc]
      have := List.perm_middle (a := row) (l₁ := h.take at_.toNat) (l₂ := h.drop at_.toNat)
      rw [List.take_append_drop] at this
      exact this
    refine p1.trans ((hp.cons row).trans ?_)
    have := List.perm_append_comm (l₁ := [row]) (l₂ := o)
    exact this
  have G' : RowG (o ++ [row]) := g.snoc (by rw [hrow, hl]) (by rw [hrow]; exact b1) (by rw [hrow, hl]; exact b2) (by rw [hrow, hl]; exact b3) (by rw [hrow, hl]; exact e1) (by rw [hrow, hl]; exact e2) (by rw [hrow]; exact hv)
  have eV : lastV 0 (o ++ [row]) = v := by rw [lastV_app, hrow]
  exact ⟨o ++ [row], some (.int (i : Int)), some (.int B), some (.int e), some (.str (kindS wr)), by rw [eV], ⟨⟨_, List.getElem?_set_self l5, pe⟩, G'⟩, by rw [List.length_append, List.length_singleton]; omega, (D.trans D5).put (Nat.le_refl _) (by omega) _⟩
noncomputable def rowA1 : MS := (sAsg (mCB oMax2 (mCons (mC (.int 0)) (mCons (mOp oSubX (mOp oSubX (mOp oAddX (mC (.int 1000)) (mOp oMulX (mC (.int 10)) (mVar 5))) (mC (.int 1))) (mCall 2 m__law_take (mCons (mVar 0) (mCons (mVar 4) mNil)))) mNil))) (mgName 6))
noncomputable def rowA2 : MS := (sAsg (mOp oAddX (mOp oAddX (mOp oAddX (mC (.int 1000)) (mOp oMulX (mC (.int 10)) (mVar 5))) (mC (.int 1))) (mCall 2 m__law_take (mCons (mVar 0) (mCons (mVar 4) mNil)))) (mgName 7))
noncomputable def rowA4 : MS := (sIf (mTest (mOp oGt (mCall 2 m__law_take (mCons (mVar 0) (mCons (mC (.int 3)) mNil))) (mC (.int 0))))
 (sSeq (sAsg (mC (.str "write")) (mgName 8))
 (sAsg (mOp oAddX (mC (.int 1)) (mOp oMod (mOp oAddX (mOp oMulX (mVar 5) (mC (.int 100))) (mC (.int 7))) (mC (.int 999)))) (mgName 3)))
 sNext)
noncomputable def rowA5 : MS := (sDrop (mMeth oInsert (mVar 2) (mCons (mCall 2 m__law_take (mCons (mVar 0) (mCons (mOp oAddX (mCB oLen (mCons (mVar 2) mNil)) (mC (.int 1))) mNil))) (mCons (mTup (mCons (mVar 5) (mCons (mVar 8) (mCons (mVar 3) (mCons (mVar 6) (mCons (mVar 7) mNil)))))) mNil))))
theorem rowA_is : lb__law_in_row_1 = sSeq rowA1 (sSeq rowA2 (sSeq (sAsg (mC (.str "read")) (mgName 8)) (sSeq rowA4 rowA5))) := rfl
theorem rowA1_wp {b n : Nat} {many v wide i : Int} {z6 z7 z8 : Option A} {s : Sto} {Q : Fl → Sto → Prop} (hB : BagAt s b) (w4 : 4 ≤ wide) (w3 : wide ≤ 300) (i0 : 0 ≤ i) (i1 : i < 60)
    (k : ∀ B t, 0 ≤ B → 1000 + 10 * i - 300 ≤ B → B ≤ 1000 + 10 * i - 1 → Dr b s t → Q (.nx (envR b many n v wide (some (.int i)) (some (.int B)) z7 z8)) t) : okF (rowA1 (envR b many n v wide (some (.int i)) z6 z7 z8) s) Q := by
  unfold rowA1 envR
  have m1 : cMul 10 i = true := cMul_l (by decide)
  simp only [wp_okR, wp_okF, wp_fin, wp_next, wp_then, wp_bind, wp_nox, wp_tK, wp_bK, wp_fr, wp_fn, wp_nn, wp_nr, wp_nb, wp_nc, wp_ln, wp_lc, wp_lb, wp_lr, wp_jn, wp_jc, ev_bok, ev_bno, ev_bex, ev_tok, ev_tno, ev_tex, ev_nnx, ev_nrt, ev_nbk, ev_nct, ev_nex, ev_nno, ev_frt, ev_fnx, ev_fex, ev_xok, ev_lsome, ev_lnone, ev_seq, ev_if, ev_ret, ev_retN, ev_drop, ev_nop, ev_brk, ev_cont, ev_asgN, ev_asgT, ev_asgO, ev_mgTup, ev_mgN, ev_mgC, ev_mg0, ev_putL, ev_putO, ev_var, ev_vr, ev_c, ev_op, ev_un, ev_test, ev_tb, ev_notT, ev_andT, ev_orT, ev_ifE, ev_not, ev_nb, ev_and, ev_andK, ev_or, ev_orK, ev_chain, ev_chK, ev_nil, ev_cons, ev_tup, ev_lst, ev_new, ev_call, ev_cb, ev_size, ev_addI, ev_addS, ev_addT, ev_addL, ev_catO, ev_sub, ev_mul, ev_div, ev_mod, ev_p5, ev_p6, ev_p12, ev_p18, ev_p30, ev_neg, ev_ltI, ev_ltS, ev_leI, ev_leS, ev_gt, ev_ge, ev_eqI, ev_eqS, ev_neI, ev_neS, ev_neB, ev_eqB, ev_is, ev_isnot, ev_ixT, ev_ixS, ev_ixR, ev_ixL, ev_ixK, ev_getL, ev_getM, ev_gL, ev_gM, ev_at0, ev_at1, ev_at2, ev_at3, ev_at4, ev_lenS, ev_lenR, ev_lenT, ev_lenL, ev_lenO, ev_lenD, ev_abs, ev_min2, ev_max2, ev_intI, ev_intB, ev_set, ev_fc, ev_setset, ev_last, ev_appk, ev_app0, ev_setk, ev_set0, ev_assoc, ev_lapp, ev_lappA, ev_sl, ev_nopart, ev_part, ev_ptK, ev_slT, ev_slS, ev_slR, ev_slK, ev_tyN, ev_tyB, ev_tyI, ev_tyS, ev_tyT, ev_tyL, ev_tyR, ev_tyRL, ev_isi, ev_isi1, ev_isi2, ev_isi3, ev_isi4, ev_isi5, ev_isiT, ev_isi2K, ev_isTy, ev_list, ev_listK, ev_tuple, ev_tupK, ev_getST, ev_getSR, ev_getSL, ev_all, ev_allK, ev_eqXI, ev_eqXS, ev_neXI, ev_neXS, ev_neXB, ev_eqXB, ev_eqXR, ev_neXR, ev_nil2, ev_eqK, ev_neK, ev_meth, ev_meth0, ev_mth1, ev_mth2, ev_mth3, ev_append, ev_m0, ev_m0K, ev_str, ev_for, ev_miR1, ev_rg1K, ev_miL, ev_liK, ev_miT, ev_tiK, ev_lc, ev_wipe0, ev_wipeS, ev_yes, ev_lenSet, ev_lenSetK, ev_listR, ev_lrK, ev_put2, ev_p2A, ev_p2K, ev_p2E, ev_put1, ev_pt1, ev_addXI, ev_addXB, ev_addXS, ev_addXT, ev_addXL, ev_subXI, ev_subXB, ev_mulXI, ev_mulXB, ev_mulXL, ev_negXI, ev_negXB, ev_strXI, ev_strXB, ev_mulYI, ev_mulYB, ev_mulYL, ev_mulYT, ev_dnew, ev_dnewT, ev_dgetE, ev_getD, ev_gD, ev_keyI, ev_keyS, ev_dgK, ev_dinE, ev_diK, ev_dputE, ev_dpK, ev_dget2E, ev_isDA, ev_isSome, ev_isNone, ev_dg2K, ev_dpop2E, ev_dp2K, ev_dp3S, ev_dp3N, ev_sortedE, ev_srO1, ev_srO2, ev_gLd, ev_srKS, ev_srKI, ev_gDT, ev_gT, ev_tinE, ev_tiKK, ev_keysA, ev_keysN, ev_keysC, ev_dputTE, ev_dptK, ev_dispE, ev_mpN, ev_mpC, ev_pcK, ev_dsK, ev_dsK2, ev_lc2E, List.getElem?_cons_zero, List.getElem?_cons_succ, List.set_cons_zero, List.set_cons_succ, List.length_cons, List.length_nil, List.cons_append, List.nil_append, if_true, if_false, Bool.false_eq_true, Bool.true_eq_false, reduceIte, Bool.not_true, Bool.not_false, Bool.and_true, Bool.true_and, Bool.and_false, Bool.false_and, Bool.or_true, Bool.true_or, Bool.or_false, Bool.false_or, decide_eq_true_eq, Nat.reduceAdd, Nat.reduceLeDiff, Nat.zero_add, Int.reduceLT, Int.reduceLE, Int.reduceEq, Int.reduceNeg, Nat.reduceEqDiff, and_self, and_true, true_and, decide_true, decide_false, eq_self, ite_true, ite_false, Int.reduceSub, Int.reduceAdd, Int.cast_ofNat_Int, Int.natCast_add, Int.cast_ofNat_Int, Nat.reduceSub, Nat.add_assoc, String.reduceBEq, String.reduceEq, Bool.or_not_self, beq_self_eq_true, m1]
  refine okR_use (take_wp hB (by omega) (by omega)) fun a s2 h => ?_
  obtain ⟨t1, rfl, t10, t11, D2⟩ := h
  simp only [wp_okR, wp_okF, wp_fin, wp_next, wp_then, wp_bind, wp_nox, wp_tK, wp_bK, wp_fr, wp_fn, wp_nn, wp_nr, wp_nb, wp_nc, wp_ln, wp_lc, wp_lb, wp_lr, wp_jn, wp_jc, ev_bok, ev_bno, ev_bex, ev_tok, ev_tno, ev_tex, ev_nnx, ev_nrt, ev_nbk, ev_nct, ev_nex, ev_nno, ev_frt, ev_fnx, ev_fex, ev_xok, ev_lsome, ev_lnone, ev_seq, ev_if, ev_ret, ev_retN, ev_drop, ev_nop, ev_brk, ev_cont, ev_asgN, ev_asgT, ev_asgO, ev_mgTup, ev_mgN, ev_mgC, ev_mg0, ev_putL, ev_putO, ev_var, ev_vr, ev_c, ev_op, ev_un, ev_test, ev_tb, ev_notT, ev_andT, ev_orT, ev_ifE, ev_not, ev_nb, ev_and, ev_andK, ev_or, ev_orK, ev_chain, ev_chK, ev_nil, ev_cons, ev_tup, ev_lst, ev_new, ev_call, ev_cb, ev_size, ev_addI, ev_addS, ev_addT, ev_addL, ev_catO, ev_sub, ev_mul, ev_div, ev_mod, ev_p5, ev_p6, ev_p12, ev_p18, ev_p30, ev_neg, ev_ltI, ev_ltS, ev_leI, ev_leS, ev_gt, ev_ge, ev_eqI, ev_eqS, ev_neI, ev_neS, ev_neB, ev_eqB, ev_is, ev_isnot, ev_ixT, ev_ixS, ev_ixR, ev_ixL, ev_ixK, ev_getL, ev_getM, ev_gL, ev_gM, ev_at0, ev_at1, ev_at2, ev_at3, ev_at4, ev_lenS, ev_lenR, ev_lenT, ev_lenL, ev_lenO, ev_lenD, ev_abs, ev_min2, ev_max2, ev_intI, ev_intB, ev_set, ev_fc, ev_setset, ev_last, ev_appk, ev_app0, ev_setk, ev_set0, ev_assoc, ev_lapp, ev_lappA, ev_sl, ev_nopart, ev_part, ev_ptK, ev_slT, ev_slS, ev_slR, ev_slK, ev_tyN, ev_tyB, ev_tyI, ev_tyS, ev_tyT, ev_tyL, ev_tyR, ev_tyRL, ev_isi, ev_isi1, ev_isi2, ev_isi3, ev_isi4, ev_isi5, ev_isiT, ev_isi2K, ev_isTy, ev_list, ev_listK, ev_tuple, ev_tupK, ev_getST, ev_getSR, ev_getSL, ev_all, ev_allK, ev_eqXI, ev_eqXS, ev_neXI, ev_neXS, ev_neXB, ev_eqXB, ev_eqXR, ev_neXR, ev_nil2, ev_eqK, ev_neK, ev_meth, ev_meth0, ev_mth1, ev_mth2, ev_mth3, ev_append, ev_m0, ev_m0K, ev_str, ev_for, ev_miR1, ev_rg1K, ev_miL, ev_liK, ev_miT, ev_tiK, ev_lc, ev_wipe0, ev_wipeS, ev_yes, ev_lenSet, ev_lenSetK, ev_listR, ev_lrK, ev_put2, ev_p2A, ev_p2K, ev_p2E, ev_put1, ev_pt1, ev_addXI, ev_addXB, ev_addXS, ev_addXT, ev_addXL, ev_subXI, ev_subXB, ev_mulXI, ev_mulXB, ev_mulXL, ev_negXI, ev_negXB, ev_strXI, ev_strXB, ev_mulYI, ev_mulYB, ev_mulYL, ev_mulYT, ev_dnew, ev_dnewT, ev_dgetE, ev_getD, ev_gD, ev_keyI, ev_keyS, ev_dgK, ev_dinE, ev_diK, ev_dputE, ev_dpK, ev_dget2E, ev_isDA, ev_isSome, ev_isNone, ev_dg2K, ev_dpop2E, ev_dp2K, ev_dp3S, ev_dp3N, ev_sortedE, ev_srO1, ev_srO2, ev_gLd, ev_srKS, ev_srKI, ev_gDT, ev_gT, ev_tinE, ev_tiKK, ev_keysA, ev_keysN, ev_keysC, ev_dputTE, ev_dptK, ev_dispE, ev_mpN, ev_mpC, ev_pcK, ev_dsK, ev_dsK2, ev_lc2E, List.getElem?_cons_zero, List.getElem?_cons_succ, List.set_cons_zero, List.set_cons_succ, List.length_cons, List.length_nil, List.cons_append, List.nil_append, if_true, if_false, Bool.false_eq_true, Bool.true_eq_false, reduceIte, Bool.not_true, Bool.not_false, Bool.and_true, Bool.true_and, Bool.and_false, Bool.false_and, Bool.or_true, Bool.true_or, Bool.or_false, Bool.false_or, decide_eq_true_eq, Nat.reduceAdd, Nat.reduceLeDiff, Nat.zero_add, Int.reduceLT, Int.reduceLE, Int.reduceEq, Int.reduceNeg, Nat.reduceEqDiff, and_self, and_true, true_and, decide_true, decide_false, eq_self, ite_true, ite_false, Int.reduceSub, Int.reduceAdd, Int.cast_ofNat_Int, Int.natCast_add, Int.cast_ofNat_Int, Nat.reduceSub, Nat.add_assoc, String.reduceBEq, String.reduceEq, Bool.or_not_self, beq_self_eq_true]
  refine k _ s2 ?_ ?_ ?_ D2
  · split <;> omega
  · split <;> omega
  · split <;> omega
theorem rowA2_wp {b n : Nat} {many v wide i : Int} {z6 z7 z8 : Option A} {s : Sto} {Q : Fl → Sto → Prop} (hB : BagAt s b) (w4 : 4 ≤ wide) (w3 : wide ≤ 300)
    (k : ∀ e t, 1000 + 10 * i + 1 ≤ e → e ≤ 1000 + 10 * i + 300 → Dr b s t → Q (.nx (envR b many n v wide (some (.int i)) z6 (some (.int e)) z8)) t) : okF (rowA2 (envR b many n v wide (some (.int i)) z6 z7 z8) s) Q := by
  unfold rowA2 envR
  have m1 : cMul 10 i = true := cMul_l (by decide)
  simp only [wp_okR, wp_okF, wp_fin, wp_next, wp_then, wp_bind, wp_nox, wp_tK, wp_bK, wp_fr, wp_fn, wp_nn, wp_nr, wp_nb, wp_nc, wp_ln, wp_lc, wp_lb, wp_lr, wp_jn, wp_jc, ev_bok, ev_bno, ev_bex, ev_tok, ev_tno, ev_tex, ev_nnx, ev_nrt, ev_nbk, ev_nct, ev_nex, ev_nno, ev_frt, ev_fnx, ev_fex, ev_xok, ev_lsome, ev_lnone, ev_seq, ev_if, ev_ret, ev_retN, ev_drop, ev_nop, ev_brk, ev_cont, ev_asgN, ev_asgT, ev_asgO, ev_mgTup, ev_mgN, ev_mgC, ev_mg0, ev_putL, ev_putO, ev_var, ev_vr, ev_c, ev_op, ev_un, ev_test, ev_tb, ev_notT, ev_andT, ev_orT, ev_ifE, ev_not, ev_nb, ev_and, ev_andK, ev_or, ev_orK, ev_chain, ev_chK, ev_nil, ev_cons, ev_tup, ev_lst, ev_new, ev_call, ev_cb, ev_size, ev_addI, ev_addS, ev_addT, ev_addL, ev_catO, ev_sub, ev_mul, ev_div, ev_mod, ev_p5, ev_p6, ev_p12, ev_p18, ev_p30, ev_neg, ev_ltI, ev_ltS, ev_leI, ev_leS, ev_gt, ev_ge, ev_eqI, ev_eqS, ev_neI, ev_neS, ev_neB, ev_eqB, ev_is, ev_isnot, ev_ixT, ev_ixS, ev_ixR, ev_ixL, ev_ixK, ev_getL, ev_getM, ev_gL, ev_gM, ev_at0, ev_at1, ev_at2, ev_at3, ev_at4, ev_lenS, ev_lenR, ev_lenT, ev_lenL, ev_lenO, ev_lenD, ev_abs, ev_min2, ev_max2, ev_intI, ev_intB, ev_set, ev_fc, ev_setset, ev_last, ev_appk, ev_app0, ev_setk, ev_set0, ev_assoc, ev_lapp, ev_lappA, ev_sl, ev_nopart, ev_part, ev_ptK, ev_slT, ev_slS, ev_slR, ev_slK, ev_tyN, ev_tyB, ev_tyI, ev_tyS, ev_tyT, ev_tyL, ev_tyR, ev_tyRL, ev_isi, ev_isi1, ev_isi2, ev_isi3, ev_isi4, ev_isi5, ev_isiT, ev_isi2K, ev_isTy, ev_list, ev_listK, ev_tuple, ev_tupK, ev_getST, ev_getSR, ev_getSL, ev_all, ev_allK, ev_eqXI, ev_eqXS, ev_neXI, ev_neXS, ev_neXB, ev_eqXB, ev_eqXR, ev_neXR, ev_nil2, ev_eqK, ev_neK, ev_meth, ev_meth0, ev_mth1, ev_mth2, ev_mth3, ev_append, ev_m0, ev_m0K, ev_str, ev_for, ev_miR1, ev_rg1K, ev_miL, ev_liK, ev_miT, ev_tiK, ev_lc, ev_wipe0, ev_wipeS, ev_yes, ev_lenSet, ev_lenSetK, ev_listR, ev_lrK, ev_put2, ev_p2A, ev_p2K, ev_p2E, ev_put1, ev_pt1, ev_addXI, ev_addXB, ev_addXS, ev_addXT, ev_addXL, ev_subXI, ev_subXB, ev_mulXI, ev_mulXB, ev_mulXL, ev_negXI, ev_negXB, ev_strXI, ev_strXB, ev_mulYI, ev_mulYB, ev_mulYL, ev_mulYT, ev_dnew, ev_dnewT, ev_dgetE, ev_getD, ev_gD, ev_keyI, ev_keyS, ev_dgK, ev_dinE, ev_diK, ev_dputE, ev_dpK, ev_dget2E, ev_isDA, ev_isSome, ev_isNone, ev_dg2K, ev_dpop2E, ev_dp2K, ev_dp3S, ev_dp3N, ev_sortedE, ev_srO1, ev_srO2, ev_gLd, ev_srKS, ev_srKI, ev_gDT, ev_gT, ev_tinE, ev_tiKK, ev_keysA, ev_keysN, ev_keysC, ev_dputTE, ev_dptK, ev_dispE, ev_mpN, ev_mpC, ev_pcK, ev_dsK, ev_dsK2, ev_lc2E, List.getElem?_cons_zero, List.getElem?_cons_succ, List.set_cons_zero, List.set_cons_succ, List.length_cons, List.length_nil, List.cons_append, List.nil_append, if_true, if_false, Bool.false_eq_true, Bool.true_eq_false, reduceIte, Bool.not_true, Bool.not_false, Bool.and_true, Bool.true_and, Bool.and_false, Bool.false_and, Bool.or_true, Bool.true_or, Bool.or_false, Bool.false_or, decide_eq_true_eq, Nat.reduceAdd, Nat.reduceLeDiff, Nat.zero_add, Int.reduceLT, Int.reduceLE, Int.reduceEq, Int.reduceNeg, Nat.reduceEqDiff, and_self, and_true, true_and, decide_true, decide_false, eq_self, ite_true, ite_false, Int.reduceSub, Int.reduceAdd, Int.cast_ofNat_Int, Int.natCast_add, Int.cast_ofNat_Int, Nat.reduceSub, Nat.add_assoc, String.reduceBEq, String.reduceEq, Bool.or_not_self, beq_self_eq_true, m1]
  refine okR_use (take_wp hB (by omega) (by omega)) fun a s2 h => ?_
  obtain ⟨t1, rfl, t10, t11, D2⟩ := h
  simp only [wp_okR, wp_okF, wp_fin, wp_next, wp_then, wp_bind, wp_nox, wp_tK, wp_bK, wp_fr, wp_fn, wp_nn, wp_nr, wp_nb, wp_nc, wp_ln, wp_lc, wp_lb, wp_lr, wp_jn, wp_jc, ev_bok, ev_bno, ev_bex, ev_tok, ev_tno, ev_tex, ev_nnx, ev_nrt, ev_nbk, ev_nct, ev_nex, ev_nno, ev_frt, ev_fnx, ev_fex, ev_xok, ev_lsome, ev_lnone, ev_seq, ev_if, ev_ret, ev_retN, ev_drop, ev_nop, ev_brk, ev_cont, ev_asgN, ev_asgT, ev_asgO, ev_mgTup, ev_mgN, ev_mgC, ev_mg0, ev_putL, ev_putO, ev_var, ev_vr, ev_c, ev_op, ev_un, ev_test, ev_tb, ev_notT, ev_andT, ev_orT, ev_ifE, ev_not, ev_nb, ev_and, ev_andK, ev_or, ev_orK, ev_chain, ev_chK, ev_nil, ev_cons, ev_tup, ev_lst, ev_new, ev_call, ev_cb, ev_size, ev_addI, ev_addS, ev_addT, ev_addL, ev_catO, ev_sub, ev_mul, ev_div, ev_mod, ev_p5, ev_p6, ev_p12, ev_p18, ev_p30, ev_neg, ev_ltI, ev_ltS, ev_leI, ev_leS, ev_gt, ev_ge, ev_eqI, ev_eqS, ev_neI, ev_neS, ev_neB, ev_eqB, ev_is, ev_isnot, ev_ixT, ev_ixS, ev_ixR, ev_ixL, ev_ixK, ev_getL, ev_getM, ev_gL, ev_gM, ev_at0, ev_at1, ev_at2, ev_at3, ev_at4, ev_lenS, ev_lenR, ev_lenT, ev_lenL, ev_lenO, ev_lenD, ev_abs, ev_min2, ev_max2, ev_intI, ev_intB, ev_set, ev_fc, ev_setset, ev_last, ev_appk, ev_app0, ev_setk, ev_set0, ev_assoc, ev_lapp, ev_lappA, ev_sl, ev_nopart, ev_part, ev_ptK, ev_slT, ev_slS, ev_slR, ev_slK, ev_tyN, ev_tyB, ev_tyI, ev_tyS, ev_tyT, ev_tyL, ev_tyR, ev_tyRL, ev_isi, ev_isi1, ev_isi2, ev_isi3, ev_isi4, ev_isi5, ev_isiT, ev_isi2K, ev_isTy, ev_list, ev_listK, ev_tuple, ev_tupK, ev_getST, ev_getSR, ev_getSL, ev_all, ev_allK, ev_eqXI, ev_eqXS, ev_neXI, ev_neXS, ev_neXB, ev_eqXB, ev_eqXR, ev_neXR, ev_nil2, ev_eqK, ev_neK, ev_meth, ev_meth0, ev_mth1, ev_mth2, ev_mth3, ev_append, ev_m0, ev_m0K, ev_str, ev_for, ev_miR1, ev_rg1K, ev_miL, ev_liK, ev_miT, ev_tiK, ev_lc, ev_wipe0, ev_wipeS, ev_yes, ev_lenSet, ev_lenSetK, ev_listR, ev_lrK, ev_put2, ev_p2A, ev_p2K, ev_p2E, ev_put1, ev_pt1, ev_addXI, ev_addXB, ev_addXS, ev_addXT, ev_addXL, ev_subXI, ev_subXB, ev_mulXI, ev_mulXB, ev_mulXL, ev_negXI, ev_negXB, ev_strXI, ev_strXB, ev_mulYI, ev_mulYB, ev_mulYL, ev_mulYT, ev_dnew, ev_dnewT, ev_dgetE, ev_getD, ev_gD, ev_keyI, ev_keyS, ev_dgK, ev_dinE, ev_diK, ev_dputE, ev_dpK, ev_dget2E, ev_isDA, ev_isSome, ev_isNone, ev_dg2K, ev_dpop2E, ev_dp2K, ev_dp3S, ev_dp3N, ev_sortedE, ev_srO1, ev_srO2, ev_gLd, ev_srKS, ev_srKI, ev_gDT, ev_gT, ev_tinE, ev_tiKK, ev_keysA, ev_keysN, ev_keysC, ev_dputTE, ev_dptK, ev_dispE, ev_mpN, ev_mpC, ev_pcK, ev_dsK, ev_dsK2, ev_lc2E, List.getElem?_cons_zero, List.getElem?_cons_succ, List.set_cons_zero, List.set_cons_succ, List.length_cons, List.length_nil, List.cons_append, List.nil_append, if_true, if_false, Bool.false_eq_true, Bool.true_eq_false, reduceIte, Bool.not_true, Bool.not_false, Bool.and_true, Bool.true_and, Bool.and_false, Bool.false_and, Bool.or_true, Bool.true_or, Bool.or_false, Bool.false_or, decide_eq_true_eq, Nat.reduceAdd, Nat.reduceLeDiff, Nat.zero_add, Int.reduceLT, Int.reduceLE, Int.reduceEq, Int.reduceNeg, Nat.reduceEqDiff, and_self, and_true, true_and, decide_true, decide_false, eq_self, ite_true, ite_false, Int.reduceSub, Int.reduceAdd, Int.cast_ofNat_Int, Int.natCast_add, Int.cast_ofNat_Int, Nat.reduceSub, Nat.add_assoc, String.reduceBEq, String.reduceEq, Bool.or_not_self, beq_self_eq_true]
  exact k _ s2 (by omega) (by omega) D2
theorem rowA4_wp {b n : Nat} {many v wide i : Int} {z6 z7 : Option A} {s : Sto} {Q : Fl → Sto → Prop} (hB : BagAt s b)
    (k : ∀ v' wr t, ((wr = true ∧ v' = 1 + (i * 100 + 7) % 999) ∨ (wr = false ∧ v' = v)) → Dr b s t → Q (.nx (envR b many n v' wide (some (.int i)) z6 z7 (some (.str (kindS wr))))) t) : okF (rowA4 (envR b many n v wide (some (.int i)) z6 z7 (some (.str "read"))) s) Q := by
  unfold rowA4 envR
  have m2 : cMul i 100 = true := cMul_r (by decide)
  simp only [wp_okR, wp_okF, wp_fin, wp_next, wp_then, wp_bind, wp_nox, wp_tK, wp_bK, wp_fr, wp_fn, wp_nn, wp_nr, wp_nb, wp_nc, wp_ln, wp_lc, wp_lb, wp_lr, wp_jn, wp_jc, ev_bok, ev_bno, ev_bex, ev_tok, ev_tno, ev_tex, ev_nnx, ev_nrt, ev_nbk, ev_nct, ev_nex, ev_nno, ev_frt, ev_fnx, ev_fex, ev_xok, ev_lsome, ev_lnone, ev_seq, ev_if, ev_ret, ev_retN, ev_drop, ev_nop, ev_brk, ev_cont, ev_asgN, ev_asgT, ev_asgO, ev_mgTup, ev_mgN, ev_mgC, ev_mg0, ev_putL, ev_putO, ev_var, ev_vr, ev_c, ev_op, ev_un, ev_test, ev_tb, ev_notT, ev_andT, ev_orT, ev_ifE, ev_not, ev_nb, ev_and, ev_andK, ev_or, ev_orK, ev_chain, ev_chK, ev_nil, ev_cons, ev_tup, ev_lst, ev_new, ev_call, ev_cb, ev_size, ev_addI, ev_addS, ev_addT, ev_addL, ev_catO, ev_sub, ev_mul, ev_div, ev_mod, ev_p5, ev_p6, ev_p12, ev_p18, ev_p30, ev_neg, ev_ltI, ev_ltS, ev_leI, ev_leS, ev_gt, ev_ge, ev_eqI, ev_eqS, ev_neI, ev_neS, ev_neB, ev_eqB, ev_is, ev_isnot, ev_ixT, ev_ixS, ev_ixR, ev_ixL, ev_ixK, ev_getL, ev_getM, ev_gL, ev_gM, ev_at0, ev_at1, ev_at2, ev_at3, ev_at4, ev_lenS, ev_lenR, ev_lenT, ev_lenL, ev_lenO, ev_lenD, ev_abs, ev_min2, ev_max2, ev_intI, ev_intB, ev_set, ev_fc, ev_setset, ev_last, ev_appk, ev_app0, ev_setk, ev_set0, ev_assoc, ev_lapp, ev_lappA, ev_sl, ev_nopart, ev_part, ev_ptK, ev_slT, ev_slS, ev_slR, ev_slK, ev_tyN, ev_tyB, ev_tyI, ev_tyS, ev_tyT, ev_tyL, ev_tyR, ev_tyRL, ev_isi, ev_isi1, ev_isi2, ev_isi3, ev_isi4, ev_isi5, ev_isiT, ev_isi2K, ev_isTy, ev_list, ev_listK, ev_tuple, ev_tupK, ev_getST, ev_getSR, ev_getSL, ev_all, ev_allK, ev_eqXI, ev_eqXS, ev_neXI, ev_neXS, ev_neXB, ev_eqXB, ev_eqXR, ev_neXR, ev_nil2, ev_eqK, ev_neK, ev_meth, ev_meth0, ev_mth1, ev_mth2, ev_mth3, ev_append, ev_m0, ev_m0K, ev_str, ev_for, ev_miR1, ev_rg1K, ev_miL, ev_liK, ev_miT, ev_tiK, ev_lc, ev_wipe0, ev_wipeS, ev_yes, ev_lenSet, ev_lenSetK, ev_listR, ev_lrK, ev_put2, ev_p2A, ev_p2K, ev_p2E, ev_put1, ev_pt1, ev_addXI, ev_addXB, ev_addXS, ev_addXT, ev_addXL, ev_subXI, ev_subXB, ev_mulXI, ev_mulXB, ev_mulXL, ev_negXI, ev_negXB, ev_strXI, ev_strXB, ev_mulYI, ev_mulYB, ev_mulYL, ev_mulYT, ev_dnew, ev_dnewT, ev_dgetE, ev_getD, ev_gD, ev_keyI, ev_keyS, ev_dgK, ev_dinE, ev_diK, ev_dputE, ev_dpK, ev_dget2E, ev_isDA, ev_isSome, ev_isNone, ev_dg2K, ev_dpop2E, ev_dp2K, ev_dp3S, ev_dp3N, ev_sortedE, ev_srO1, ev_srO2, ev_gLd, ev_srKS, ev_srKI, ev_gDT, ev_gT, ev_tinE, ev_tiKK, ev_keysA, ev_keysN, ev_keysC, ev_dputTE, ev_dptK, ev_dispE, ev_mpN, ev_mpC, ev_pcK, ev_dsK, ev_dsK2, ev_lc2E, List.getElem?_cons_zero, List.getElem?_cons_succ, List.set_cons_zero, List.set_cons_succ, List.length_cons, List.length_nil, List.cons_append, List.nil_append, if_true, if_false, Bool.false_eq_true, Bool.true_eq_false, reduceIte, Bool.not_true, Bool.not_false, Bool.and_true, Bool.true_and, Bool.and_false, Bool.false_and, Bool.or_true, Bool.true_or, Bool.or_false, Bool.false_or, decide_eq_true_eq, Nat.reduceAdd, Nat.reduceLeDiff, Nat.zero_add, Int.reduceLT, Int.reduceLE, Int.reduceEq, Int.reduceNeg, Nat.reduceEqDiff, and_self, and_true, true_and, decide_true, decide_false, eq_self, ite_true, ite_false, Int.reduceSub, Int.reduceAdd, Int.cast_ofNat_Int, Int.natCast_add, Int.cast_ofNat_Int, Nat.reduceSub, Nat.add_assoc, String.reduceBEq, String.reduceEq, Bool.or_not_self, beq_self_eq_true]
  refine okR_use (take_wp hB (by decide) (by decide)) fun a s2 h => ?_
  obtain ⟨t1, rfl, t10, t11, D2⟩ := h
  by_cases hz : 0 < t1
  · simp only [wp_okR, wp_okF, wp_fin, wp_next, wp_then, wp_bind, wp_nox, wp_tK, wp_bK, wp_fr, wp_fn, wp_nn, wp_nr, wp_nb, wp_nc, wp_ln, wp_lc, wp_lb, wp_lr, wp_jn, wp_jc, ev_bok, ev_bno, ev_bex, ev_tok, ev_tno, ev_tex, ev_nnx, ev_nrt, ev_nbk, ev_nct, ev_nex, ev_nno, ev_frt, ev_fnx, ev_fex, ev_xok, ev_lsome, ev_lnone, ev_seq, ev_if, ev_ret, ev_retN, ev_drop, ev_nop, ev_brk, ev_cont, ev_asgN, ev_asgT, ev_asgO, ev_mgTup, ev_mgN, ev_mgC, ev_mg0, ev_putL, ev_putO, ev_var, ev_vr, ev_c, ev_op, ev_un, ev_test, ev_tb, ev_notT, ev_andT, ev_orT, ev_ifE, ev_not, ev_nb, ev_and, ev_andK, ev_or, ev_orK, ev_chain, ev_chK, ev_nil, ev_cons, ev_tup, ev_lst, ev_new, ev_call, ev_cb, ev_size, ev_addI, ev_addS, ev_addT, ev_addL, ev_catO, ev_sub, ev_mul, ev_div, ev_mod, ev_p5, ev_p6, ev_p12, ev_p18, ev_p30, ev_neg, ev_ltI, ev_ltS, ev_leI, ev_leS, ev_gt, ev_ge, ev_eqI, ev_eqS, ev_neI, ev_neS, ev_neB, ev_eqB, ev_is, ev_isnot, ev_ixT, ev_ixS, ev_ixR, ev_ixL, ev_ixK, ev_getL, ev_getM, ev_gL, ev_gM, ev_at0, ev_at1, ev_at2, ev_at3, ev_at4, ev_lenS, ev_lenR, ev_lenT, ev_lenL, ev_lenO, ev_lenD, ev_abs, ev_min2, ev_max2, ev_intI, ev_intB, ev_set, ev_fc, ev_setset, ev_last, ev_appk, ev_app0, ev_setk, ev_set0, ev_assoc, ev_lapp, ev_lappA, ev_sl, ev_nopart, ev_part, ev_ptK, ev_slT, ev_slS, ev_slR, ev_slK, ev_tyN, ev_tyB, ev_tyI, ev_tyS, ev_tyT, ev_tyL, ev_tyR, ev_tyRL, ev_isi, ev_isi1, ev_isi2, ev_isi3, ev_isi4, ev_isi5, ev_isiT, ev_isi2K, ev_isTy, ev_list, ev_listK, ev_tuple, ev_tupK, ev_getST, ev_getSR, ev_getSL, ev_all, ev_allK, ev_eqXI, ev_eqXS, ev_neXI, ev_neXS, ev_neXB, ev_eqXB, ev_eqXR, ev_neXR, ev_nil2, ev_eqK, ev_neK, ev_meth, ev_meth0, ev_mth1, ev_mth2, ev_mth3, ev_append, ev_m0, ev_m0K, ev_str, ev_for, ev_miR1, ev_rg1K, ev_miL, ev_liK, ev_miT, ev_tiK, ev_lc, ev_wipe0, ev_wipeS, ev_yes, ev_lenSet, ev_lenSetK, ev_listR, ev_lrK, ev_put2, ev_p2A, ev_p2K, ev_p2E, ev_put1, ev_pt1, ev_addXI, ev_addXB, ev_addXS, ev_addXT, ev_addXL, ev_subXI, ev_subXB, ev_mulXI, ev_mulXB, ev_mulXL, ev_negXI, ev_negXB, ev_strXI, ev_strXB, ev_mulYI, ev_mulYB, ev_mulYL, ev_mulYT, ev_dnew, ev_dnewT, ev_dgetE, ev_getD, ev_gD, ev_keyI, ev_keyS, ev_dgK, ev_dinE, ev_diK, ev_dputE, ev_dpK, ev_dget2E, ev_isDA, ev_isSome, ev_isNone, ev_dg2K, ev_dpop2E, ev_dp2K, ev_dp3S, ev_dp3N, ev_sortedE, ev_srO1, ev_srO2, ev_gLd, ev_srKS, ev_srKI, ev_gDT, ev_gT, ev_tinE, ev_tiKK, ev_keysA, ev_keysN, ev_keysC, ev_dputTE, ev_dptK, ev_dispE, ev_mpN, ev_mpC, ev_pcK, ev_dsK, ev_dsK2, ev_lc2E, List.getElem?_cons_zero, List.getElem?_cons_succ, List.set_cons_zero, List.set_cons_succ, List.length_cons, List.length_nil, List.cons_append, List.nil_append, if_true, if_false, Bool.false_eq_true, Bool.true_eq_false, reduceIte, Bool.not_true, Bool.not_false, Bool.and_true, Bool.true_and, Bool.and_false, Bool.false_and, Bool.or_true, Bool.true_or, Bool.or_false, Bool.false_or, decide_eq_true_eq, Nat.reduceAdd, Nat.reduceLeDiff, Nat.zero_add, Int.reduceLT, Int.reduceLE, Int.reduceEq, Int.reduceNeg, Nat.reduceEqDiff, and_self, and_true, true_and, decide_true, decide_false, eq_self, ite_true, ite_false, Int.reduceSub, Int.reduceAdd, Int.cast_ofNat_Int, Int.natCast_add, Int.cast_ofNat_Int, Nat.reduceSub, Nat.add_assoc, String.reduceBEq, String.reduceEq, Bool.or_not_self, beq_self_eq_true, hz, decide_true, m2]
    exact k _ true s2 (.inl ⟨rfl, rfl⟩) D2
  · simp only [wp_okR, wp_okF, wp_fin, wp_next, wp_then, wp_bind, wp_nox, wp_tK, wp_bK, wp_fr, wp_fn, wp_nn, wp_nr, wp_nb, wp_nc, wp_ln, wp_lc, wp_lb, wp_lr, wp_jn, wp_jc, ev_bok, ev_bno, ev_bex, ev_tok, ev_tno, ev_tex, ev_nnx, ev_nrt, ev_nbk, ev_nct, ev_nex, ev_nno, ev_frt, ev_fnx, ev_fex, ev_xok, ev_lsome, ev_lnone, ev_seq, ev_if, ev_ret, ev_retN, ev_drop, ev_nop, ev_brk, ev_cont, ev_asgN, ev_asgT, ev_asgO, ev_mgTup, ev_mgN, ev_mgC, ev_mg0, ev_putL, ev_putO, ev_var, ev_vr, ev_c, ev_op, ev_un, ev_test, ev_tb, ev_notT, ev_andT, ev_orT, ev_ifE, ev_not, ev_nb, ev_and, ev_andK, ev_or, ev_orK, ev_chain, ev_chK, ev_nil, ev_cons, ev_tup, ev_lst, ev_new, ev_call, ev_cb, ev_size, ev_addI, ev_addS, ev_addT, ev_addL, ev_catO, ev_sub, ev_mul, ev_div, ev_mod, ev_p5, ev_p6, ev_p12, ev_p18, ev_p30, ev_neg, ev_ltI, ev_ltS, ev_leI, ev_leS, ev_gt, ev_ge, ev_eqI, ev_eqS, ev_neI, ev_neS, ev_neB, ev_eqB, ev_is, ev_isnot, ev_ixT, ev_ixS, ev_ixR, ev_ixL, ev_ixK, ev_getL, ev_getM, ev_gL, ev_gM, ev_at0, ev_at1, ev_at2, ev_at3, ev_at4, ev_lenS, ev_lenR, ev_lenT, ev_lenL, ev_lenO, ev_lenD, ev_abs, ev_min2, ev_max2, ev_intI, ev_intB, ev_set, ev_fc, ev_setset, ev_last, ev_appk, ev_app0, ev_setk, ev_set0, ev_assoc, ev_lapp, ev_lappA, ev_sl, ev_nopart, ev_part, ev_ptK, ev_slT, ev_slS, ev_slR, ev_slK, ev_tyN, ev_tyB, ev_tyI, ev_tyS, ev_tyT, ev_tyL, ev_tyR, ev_tyRL, ev_isi, ev_isi1, ev_isi2, ev_isi3, ev_isi4, ev_isi5, ev_isiT, ev_isi2K, ev_isTy, ev_list, ev_listK, ev_tuple, ev_tupK, ev_getST, ev_getSR, ev_getSL, ev_all, ev_allK, ev_eqXI, ev_eqXS, ev_neXI, ev_neXS, ev_neXB, ev_eqXB, ev_eqXR, ev_neXR, ev_nil2, ev_eqK, ev_neK, ev_meth, ev_meth0, ev_mth1, ev_mth2, ev_mth3, ev_append, ev_m0, ev_m0K, ev_str, ev_for, ev_miR1, ev_rg1K, ev_miL, ev_liK, ev_miT, ev_tiK, ev_lc, ev_wipe0, ev_wipeS, ev_yes, ev_lenSet, ev_lenSetK, ev_listR, ev_lrK, ev_put2, ev_p2A, ev_p2K, ev_p2E, ev_put1, ev_pt1, ev_addXI, ev_addXB, ev_addXS, ev_addXT, ev_addXL, ev_subXI, ev_subXB, ev_mulXI, ev_mulXB, ev_mulXL, ev_negXI, ev_negXB, ev_strXI, ev_strXB, ev_mulYI, ev_mulYB, ev_mulYL, ev_mulYT, ev_dnew, ev_dnewT, ev_dgetE, ev_getD, ev_gD, ev_keyI, ev_keyS, ev_dgK, ev_dinE, ev_diK, ev_dputE, ev_dpK, ev_dget2E, ev_isDA, ev_isSome, ev_isNone, ev_dg2K, ev_dpop2E, ev_dp2K, ev_dp3S, ev_dp3N, ev_sortedE, ev_srO1, ev_srO2, ev_gLd, ev_srKS, ev_srKI, ev_gDT, ev_gT, ev_tinE, ev_tiKK, ev_keysA, ev_keysN, ev_keysC, ev_dputTE, ev_dptK, ev_dispE, ev_mpN, ev_mpC, ev_pcK, ev_dsK, ev_dsK2, ev_lc2E, List.getElem?_cons_zero, List.getElem?_cons_succ, List.set_cons_zero, List.set_cons_succ, List.length_cons, List.length_nil, List.cons_append, List.nil_append, if_true, if_false, Bool.false_eq_true, Bool.true_eq_false, reduceIte, Bool.not_true, Bool.not_false, Bool.and_true, Bool.true_and, Bool.and_false, Bool.false_and, Bool.or_true, Bool.true_or, Bool.or_false, Bool.false_or, decide_eq_true_eq, Nat.reduceAdd, Nat.reduceLeDiff, Nat.zero_add, Int.reduceLT, Int.reduceLE, Int.reduceEq, Int.reduceNeg, Nat.reduceEqDiff, and_self, and_true, true_and, decide_true, decide_false, eq_self, ite_true, ite_false, Int.reduceSub, Int.reduceAdd, Int.cast_ofNat_Int, Int.natCast_add, Int.cast_ofNat_Int, Nat.reduceSub, Nat.add_assoc, String.reduceBEq, String.reduceEq, Bool.or_not_self, beq_self_eq_true, hz, decide_false]
    exact k _ false s2 (.inr ⟨rfl, rfl⟩) D2
theorem row_wp {st s : Sto} {b i : Nat} {many wide : Int} {o : List HRow} {z6 z7 z8 : Option A} {Q : Fl → Sto → Prop} (hb : b < st.length) (I : InRow st.length o s) (hl : o.length = i) (hi : i < 60) (D : Dr b st s) (w4 : 4 ≤ wide) (w3 : wide ≤ 300) :
    okF (lb__law_in_row_1 (envR b many st.length (lastV 0 o) wide (some (.int (i : Int))) z6 z7 z8) s) (lK (RowI st b many wide (i + 1)) Q) := by
  obtain ⟨h, hh, hp⟩ := I.h
  rw [rowA_is, ev_seq, wp_next]
  refine rowA1_wp D.bag w4 w3 (by omega) (by omega) fun B s2 b1 b2 b3 D2 => ?_
  rw [wp_nn, ev_seq, wp_next]
  refine rowA2_wp D2.bag w4 w3 fun e s3 e1 e2 D3 => ?_
  rw [wp_nn, ev_seq, ev_asgN, ev_c, ev_tok, ev_nnx, ev_seq, wp_next]
  show okF (rowA4 (envR b many st.length (lastV 0 o) wide (some (.int (i : Int))) (some (.int B)) (some (.int e)) (some (.str "read"))) s3) _
  refine rowA4_wp D3.bag fun v wr s4 hv D4 => ?_
  rw [wp_nn]
  have D' := (D2.trans D3).trans D4
  exact row_ins hb (D'.get hh (by omega)) hp I.g hl hi (D.trans D') b1 b2 b3 e1 e2 (by rw [hl]; exact hv)
theorem inRow_wp {st : Sto} {b : Nat} {many : Int} (hB : BagAt st b) (h0 : 0 ≤ many) (h1 : many ≤ 60) : okR (m__law_in_row [.ref b, .int many] st) fun a s => ∃ o, a = .ref st.length ∧ InRow st.length o s ∧ (o.length : Int) = many ∧ Dr b st s := by
  rw [st__law_in_row]
  unfold b__law_in_row
  have hb := hB.lt
  have c1 : (-(2 ^ 62) ≤ many ∧ many < 2 ^ 62) = True := eq_true ⟨by omega, by omega⟩
  simp only [wp_okR, wp_okF, wp_fin, wp_next, wp_then, wp_bind, wp_nox, wp_tK, wp_bK, wp_fr, wp_fn, wp_nn, wp_nr, wp_nb, wp_nc, wp_ln, wp_lc, wp_lb, wp_lr, wp_jn, wp_jc, ev_bok, ev_bno, ev_bex, ev_tok, ev_tno, ev_tex, ev_nnx, ev_nrt, ev_nbk, ev_nct, ev_nex, ev_nno, ev_frt, ev_fnx, ev_fex, ev_xok, ev_lsome, ev_lnone, ev_seq, ev_if, ev_ret, ev_retN, ev_drop, ev_nop, ev_brk, ev_cont, ev_asgN, ev_asgT, ev_asgO, ev_mgTup, ev_mgN, ev_mgC, ev_mg0, ev_putL, ev_putO, ev_var, ev_vr, ev_c, ev_op, ev_un, ev_test, ev_tb, ev_notT, ev_andT, ev_orT, ev_ifE, ev_not, ev_nb, ev_and, ev_andK, ev_or, ev_orK, ev_chain, ev_chK, ev_nil, ev_cons, ev_tup, ev_lst, ev_new, ev_call, ev_cb, ev_size, ev_addI, ev_addS, ev_addT, ev_addL, ev_catO, ev_sub, ev_mul, ev_div, ev_mod, ev_p5, ev_p6, ev_p12, ev_p18, ev_p30, ev_neg, ev_ltI, ev_ltS, ev_leI, ev_leS, ev_gt, ev_ge, ev_eqI, ev_eqS, ev_neI, ev_neS, ev_neB, ev_eqB, ev_is, ev_isnot, ev_ixT, ev_ixS, ev_ixR, ev_ixL, ev_ixK, ev_getL, ev_getM, ev_gL, ev_gM, ev_at0, ev_at1, ev_at2, ev_at3, ev_at4, ev_lenS, ev_lenR, ev_lenT, ev_lenL, ev_lenO, ev_lenD, ev_abs, ev_min2, ev_max2, ev_intI, ev_intB, ev_set, ev_fc, ev_setset, ev_last, ev_appk, ev_app0, ev_setk, ev_set0, ev_assoc, ev_lapp, ev_lappA, ev_sl, ev_nopart, ev_part, ev_ptK, ev_slT, ev_slS, ev_slR, ev_slK, ev_tyN, ev_tyB, ev_tyI, ev_tyS, ev_tyT, ev_tyL, ev_tyR, ev_tyRL, ev_isi, ev_isi1, ev_isi2, ev_isi3, ev_isi4, ev_isi5, ev_isiT, ev_isi2K, ev_isTy, ev_list, ev_listK, ev_tuple, ev_tupK, ev_getST, ev_getSR, ev_getSL, ev_all, ev_allK, ev_eqXI, ev_eqXS, ev_neXI, ev_neXS, ev_neXB, ev_eqXB, ev_eqXR, ev_neXR, ev_nil2, ev_eqK, ev_neK, ev_meth, ev_meth0, ev_mth1, ev_mth2, ev_mth3, ev_append, ev_m0, ev_m0K, ev_str, ev_for, ev_miR1, ev_rg1K, ev_miL, ev_liK, ev_miT, ev_tiK, ev_lc, ev_wipe0, ev_wipeS, ev_yes, ev_lenSet, ev_lenSetK, ev_listR, ev_lrK, ev_put2, ev_p2A, ev_p2K, ev_p2E, ev_put1, ev_pt1, ev_addXI, ev_addXB, ev_addXS, ev_addXT, ev_addXL, ev_subXI, ev_subXB, ev_mulXI, ev_mulXB, ev_mulXL, ev_negXI, ev_negXB, ev_strXI, ev_strXB, ev_mulYI, ev_mulYB, ev_mulYL, ev_mulYT, ev_dnew, ev_dnewT, ev_dgetE, ev_getD, ev_gD, ev_keyI, ev_keyS, ev_dgK, ev_dinE, ev_diK, ev_dputE, ev_dpK, ev_dget2E, ev_isDA, ev_isSome, ev_isNone, ev_dg2K, ev_dpop2E, ev_dp2K, ev_dp3S, ev_dp3N, ev_sortedE, ev_srO1, ev_srO2, ev_gLd, ev_srKS, ev_srKI, ev_gDT, ev_gT, ev_tinE, ev_tiKK, ev_keysA, ev_keysN, ev_keysC, ev_dputTE, ev_dptK, ev_dispE, ev_mpN, ev_mpC, ev_pcK, ev_dsK, ev_dsK2, ev_lc2E, List.getElem?_cons_zero, List.getElem?_cons_succ, List.set_cons_zero, List.set_cons_succ, List.length_cons, List.length_nil, List.cons_append, List.nil_append, if_true, if_false, Bool.false_eq_true, Bool.true_eq_false, reduceIte, Bool.not_true, Bool.not_false, Bool.and_true, Bool.true_and, Bool.and_false, Bool.false_and, Bool.or_true, Bool.true_or, Bool.or_false, Bool.false_or, decide_eq_true_eq, Nat.reduceAdd, Nat.reduceLeDiff, Nat.zero_add, Int.reduceLT, Int.reduceLE, Int.reduceEq, Int.reduceNeg, Nat.reduceEqDiff, and_self, and_true, true_and, decide_true, decide_false, eq_self, ite_true, ite_false, Int.reduceSub, Int.reduceAdd, Int.cast_ofNat_Int, Int.natCast_add, Int.cast_ofNat_Int, Nat.reduceSub, Nat.add_assoc, String.reduceBEq, String.reduceEq, Bool.or_not_self, beq_self_eq_true]
  refine okR_use (take_wp (hB.apps _) (by decide) (by decide)) fun a s1 h => ?_
  obtain ⟨r, rfl, r0, r1, D1⟩ := h
  have g1 : s1[st.length + 1]? = some (.lst ([4, 30, 300].map A.int)) := D1.get ev_appk (by omega)
  have k1 : s1[st.length]? = some (.lst []) := D1.get ev_app0 (by omega)
  obtain ⟨wide, mw, gw, _⟩ := pickI (ns := [4, 30, 300]) r0 r1
  have hw : 4 ≤ wide ∧ wide ≤ 300 := by
    simp only [List.mem_cons, List.not_mem_nil, or_false] at mw
    omega
  have D1' : Dr b st s1 := ((Dr.refl hB).apps _).trans D1
  simp only [List.map_cons, List.map_nil] at g1 gw
  simp only [wp_okR, wp_okF, wp_fin, wp_next, wp_then, wp_bind, wp_nox, wp_tK, wp_bK, wp_fr, wp_fn, wp_nn, wp_nr, wp_nb, wp_nc, wp_ln, wp_lc, wp_lb, wp_lr, wp_jn, wp_jc, ev_bok, ev_bno, ev_bex, ev_tok, ev_tno, ev_tex, ev_nnx, ev_nrt, ev_nbk, ev_nct, ev_nex, ev_nno, ev_frt, ev_fnx, ev_fex, ev_xok, ev_lsome, ev_lnone, ev_seq, ev_if, ev_ret, ev_retN, ev_drop, ev_nop, ev_brk, ev_cont, ev_asgN, ev_asgT, ev_asgO, ev_mgTup, ev_mgN, ev_mgC, ev_mg0, ev_putL, ev_putO, ev_var, ev_vr, ev_c, ev_op, ev_un, ev_test, ev_tb, ev_notT, ev_andT, ev_orT, ev_ifE, ev_not, ev_nb, ev_and, ev_andK, ev_or, ev_orK, ev_chain, ev_chK, ev_nil, ev_cons, ev_tup, ev_lst, ev_new, ev_call, ev_cb, ev_size, ev_addI, ev_addS, ev_addT, ev_addL, ev_catO, ev_sub, ev_mul, ev_div, ev_mod, ev_p5, ev_p6, ev_p12, ev_p18, ev_p30, ev_neg, ev_ltI, ev_ltS, ev_leI, ev_leS, ev_gt, ev_ge, ev_eqI, ev_eqS, ev_neI, ev_neS, ev_neB, ev_eqB, ev_is, ev_isnot, ev_ixT, ev_ixS, ev_ixR, ev_ixL, ev_ixK, ev_getL, ev_getM, ev_gL, ev_gM, ev_at0, ev_at1, ev_at2, ev_at3, ev_at4, ev_lenS, ev_lenR, ev_lenT, ev_lenL, ev_lenO, ev_lenD, ev_abs, ev_min2, ev_max2, ev_intI, ev_intB, ev_set, ev_fc, ev_setset, ev_last, ev_appk, ev_app0, ev_setk, ev_set0, ev_assoc, ev_lapp, ev_lappA, ev_sl, ev_nopart, ev_part, ev_ptK, ev_slT, ev_slS, ev_slR, ev_slK, ev_tyN, ev_tyB, ev_tyI, ev_tyS, ev_tyT, ev_tyL, ev_tyR, ev_tyRL, ev_isi, ev_isi1, ev_isi2, ev_isi3, ev_isi4, ev_isi5, ev_isiT, ev_isi2K, ev_isTy, ev_list, ev_listK, ev_tuple, ev_tupK, ev_getST, ev_getSR, ev_getSL, ev_all, ev_allK, ev_eqXI, ev_eqXS, ev_neXI, ev_neXS, ev_neXB, ev_eqXB, ev_eqXR, ev_neXR, ev_nil2, ev_eqK, ev_neK, ev_meth, ev_meth0, ev_mth1, ev_mth2, ev_mth3, ev_append, ev_m0, ev_m0K, ev_str, ev_for, ev_miR1, ev_rg1K, ev_miL, ev_liK, ev_miT, ev_tiK, ev_lc, ev_wipe0, ev_wipeS, ev_yes, ev_lenSet, ev_lenSetK, ev_listR, ev_lrK, ev_put2, ev_p2A, ev_p2K, ev_p2E, ev_put1, ev_pt1, ev_addXI, ev_addXB, ev_addXS, ev_addXT, ev_addXL, ev_subXI, ev_subXB, ev_mulXI, ev_mulXB, ev_mulXL, ev_negXI, ev_negXB, ev_strXI, ev_strXB, ev_mulYI, ev_mulYB, ev_mulYL, ev_mulYT, ev_dnew, ev_dnewT, ev_dgetE, ev_getD, ev_gD, ev_keyI, ev_keyS, ev_dgK, ev_dinE, ev_diK, ev_dputE, ev_dpK, ev_dget2E, ev_isDA, ev_isSome, ev_isNone, ev_dg2K, ev_dpop2E, ev_dp2K, ev_dp3S, ev_dp3N, ev_sortedE, ev_srO1, ev_srO2, ev_gLd, ev_srKS, ev_srKI, ev_gDT, ev_gT, ev_tinE, ev_tiKK, ev_keysA, ev_keysN, ev_keysC, ev_dputTE, ev_dptK, ev_dispE, ev_mpN, ev_mpC, ev_pcK, ev_dsK, ev_dsK2, ev_lc2E, List.getElem?_cons_zero, List.getElem?_cons_succ, List.set_cons_zero, List.set_cons_succ, List.length_cons, List.length_nil, List.cons_append, List.nil_append, if_true, if_false, Bool.false_eq_true, Bool.true_eq_false, reduceIte, Bool.not_true, Bool.not_false, Bool.and_true, Bool.true_and, Bool.and_false, Bool.false_and, Bool.or_true, Bool.true_or, Bool.or_false, Bool.false_or, decide_eq_true_eq, Nat.reduceAdd, Nat.reduceLeDiff, Nat.zero_add, Int.reduceLT, Int.reduceLE, Int.reduceEq, Int.reduceNeg, Nat.reduceEqDiff, and_self, and_true, true_and, decide_true, decide_false, eq_self, ite_true, ite_false, Int.reduceSub, Int.reduceAdd, Int.cast_ofNat_Int, Int.natCast_add, Int.cast_ofNat_Int, Nat.reduceSub, Nat.add_assoc, String.reduceBEq, String.reduceEq, Bool.or_not_self, beq_self_eq_true, g1, gw, c1]
  refine forL_wp (j := 0) (RowI st b many wide) (fun _ _ _ _ => trivial) ⟨[], none, none, none, none, rfl, ⟨⟨[], k1, .nil⟩, rowG_nil⟩, rfl, D1'⟩ (fun i x env s hx h => ?_) (fun env s h => ?_)
  · obtain ⟨o, z5, z6, z7, z8, rfl, I, hl, D⟩ := h
    obtain ⟨rfl, hi⟩ := rngA_get hx
    rw [Nat.zero_add] at hl
    rw [Int.zero_add, Nat.zero_add]
    exact ⟨_, rfl, row_wp hb I hl (by omega) D hw.1 hw.2⟩
  · obtain ⟨o, z5, z6, z7, z8, rfl, I, hl, D⟩ := h
    rw [rngA_len] at hl
    simp only [wp_okR, wp_okF, wp_fin, wp_next, wp_then, wp_bind, wp_nox, wp_tK, wp_bK, wp_fr, wp_fn, wp_nn, wp_nr, wp_nb, wp_nc, wp_ln, wp_lc, wp_lb, wp_lr, wp_jn, wp_jc, ev_bok, ev_bno, ev_bex, ev_tok, ev_tno, ev_tex, ev_nnx, ev_nrt, ev_nbk, ev_nct, ev_nex, ev_nno, ev_frt, ev_fnx, ev_fex, ev_xok, ev_lsome, ev_lnone, ev_seq, ev_if, ev_ret, ev_retN, ev_drop, ev_nop, ev_brk, ev_cont, ev_asgN, ev_asgT, ev_asgO, ev_mgTup, ev_mgN, ev_mgC, ev_mg0, ev_putL, ev_putO, ev_var, ev_vr, ev_c, ev_op, ev_un, ev_test, ev_tb, ev_notT, ev_andT, ev_orT, ev_ifE, ev_not, ev_nb, ev_and, ev_andK, ev_or, ev_orK, ev_chain, ev_chK, ev_nil, ev_cons, ev_tup, ev_lst, ev_new, ev_call, ev_cb, ev_size, ev_addI, ev_addS, ev_addT, ev_addL, ev_catO, ev_sub, ev_mul, ev_div, ev_mod, ev_p5, ev_p6, ev_p12, ev_p18, ev_p30, ev_neg, ev_ltI, ev_ltS, ev_leI, ev_leS, ev_gt, ev_ge, ev_eqI, ev_eqS, ev_neI, ev_neS, ev_neB, ev_eqB, ev_is, ev_isnot, ev_ixT, ev_ixS, ev_ixR, ev_ixL, ev_ixK, ev_getL, ev_getM, ev_gL, ev_gM, ev_at0, ev_at1, ev_at2, ev_at3, ev_at4, ev_lenS, ev_lenR, ev_lenT, ev_lenL, ev_lenO, ev_lenD, ev_abs, ev_min2, ev_max2, ev_intI, ev_intB, ev_set, ev_fc, ev_setset, ev_last, ev_appk, ev_app0, ev_setk, ev_set0, ev_assoc, ev_lapp, ev_lappA, ev_sl, ev_nopart, ev_part, ev_ptK, ev_slT, ev_slS, ev_slR, ev_slK, ev_tyN, ev_tyB, ev_tyI, ev_tyS, ev_tyT, ev_tyL, ev_tyR, ev_tyRL, ev_isi, ev_isi1, ev_isi2, ev_isi3, ev_isi4, ev_isi5, ev_isiT, ev_isi2K, ev_isTy, ev_list, ev_listK, ev_tuple, ev_tupK, ev_getST, ev_getSR, ev_getSL, ev_all, ev_allK, ev_eqXI, ev_eqXS, ev_neXI, ev_neXS, ev_neXB, ev_eqXB, ev_eqXR, ev_neXR, ev_nil2, ev_eqK, ev_neK, ev_meth, ev_meth0, ev_mth1, ev_mth2, ev_mth3, ev_append, ev_m0, ev_m0K, ev_str, ev_for, ev_miR1, ev_rg1K, ev_miL, ev_liK, ev_miT, ev_tiK, ev_lc, ev_wipe0, ev_wipeS, ev_yes, ev_lenSet, ev_lenSetK, ev_listR, ev_lrK, ev_put2, ev_p2A, ev_p2K, ev_p2E, ev_put1, ev_pt1, ev_addXI, ev_addXB, ev_addXS, ev_addXT, ev_addXL, ev_subXI, ev_subXB, ev_mulXI, ev_mulXB, ev_mulXL, ev_negXI, ev_negXB, ev_strXI, ev_strXB, ev_mulYI, ev_mulYB, ev_mulYL, ev_mulYT, ev_dnew, ev_dnewT, ev_dgetE, ev_getD, ev_gD, ev_keyI, ev_keyS, ev_dgK, ev_dinE, ev_diK, ev_dputE, ev_dpK, ev_dget2E, ev_isDA, ev_isSome, ev_isNone, ev_dg2K, ev_dpop2E, ev_dp2K, ev_dp3S, ev_dp3N, ev_sortedE, ev_srO1, ev_srO2, ev_gLd, ev_srKS, ev_srKI, ev_gDT, ev_gT, ev_tinE, ev_tiKK, ev_keysA, ev_keysN, ev_keysC, ev_dputTE, ev_dptK, ev_dispE, ev_mpN, ev_mpC, ev_pcK, ev_dsK, ev_dsK2, ev_lc2E, List.getElem?_cons_zero, List.getElem?_cons_succ, List.set_cons_zero, List.set_cons_succ, List.length_cons, List.length_nil, List.cons_append, List.nil_append, if_true, if_false, Bool.false_eq_true, Bool.true_eq_false, reduceIte, Bool.not_true, Bool.not_false, Bool.and_true, Bool.true_and, Bool.and_false, Bool.false_and, Bool.or_true, Bool.true_or, Bool.or_false, Bool.false_or, decide_eq_true_eq, Nat.reduceAdd, Nat.reduceLeDiff, Nat.zero_add, Int.reduceLT, Int.reduceLE, Int.reduceEq, Int.reduceNeg, Nat.reduceEqDiff, and_self, and_true, true_and, decide_true, decide_false, eq_self, ite_true, ite_false, Int.reduceSub, Int.reduceAdd, Int.cast_ofNat_Int, Int.natCast_add, Int.cast_ofNat_Int, Nat.reduceSub, Nat.add_assoc, String.reduceBEq, String.reduceEq, Bool.or_not_self, beq_self_eq_true]
    exact ⟨o, I, by omega, D⟩

/-! ### the law -/
def mapA (f : HRow → HRow) (a : A) : A := match rowOfA a with
  | some r => hA (f r)
  | none => .non
def filtA (p : HRow → Bool) (a : A) : Bool := match rowOfA a with
  | some r => p r
  | none => false
theorem mapA_hA {f : HRow → HRow} {r : HRow} : mapA f (hA r) = hA (f r) := by
  unfold mapA
  rw [rowOf_hA]
theorem filtA_hA {p : HRow → Bool} {r : HRow} : filtA p (hA r) = p r := by
  unfold filtA
  rw [rowOf_hA]
theorem maps_hA {f : HRow → HRow} {h : List HRow} : (h.map hA).map (mapA f) = (h.map f).map hA := by
  rw [List.map_map, List.map_map]
  exact List.map_congr_left fun r _ => mapA_hA
theorem filts_hA {p : HRow → Bool} {h : List HRow} : (h.map hA).filter (filtA p) = (h.filter p).map hA := by
  rw [List.filter_map]
  congr 1
  exact List.filter_congr fun r _ => filtA_hA
theorem kindS_inj {a b : Bool} (h : kindS a = kindS b) : a = b := by
  cases a <;> cases b <;> first | rfl | exact absurd h (by decide +kernel)
theorem hD_eqv (r s : HRow) : PyData.eqv (hD r) (hD s) = decide (r = s) := by
  obtain ⟨t, w, v, b, e⟩ := r
  obtain ⟨t', w', v', b', e'⟩ := s
  rw [Bool.eq_iff_iff]
  simp only [hD, PyData.eqv, PyData.eqvAll, Bool.and_eq_true, Bool.and_true, beq_iff_eq, decide_eq_true_eq, HRow.mk.injEq]
  constructor
  · rintro ⟨h1, h2, h3, h4, h5⟩
    exact ⟨h1, kindS_inj h2, h3, h4, h5⟩
  · rintro ⟨h1, h2, h3, h4, h5⟩
    exact ⟨h1, by rw [h2], h3, h4, h5⟩
theorem hD_sh (r : HRow) : SeqAt.shaped (hD r) = true := by
  obtain ⟨t, w, v, b, e⟩ := r
  refine shaped_of ?_ ?_
  · have : PyData.strOk (kindS w) = true := by cases w <;> decide +kernel
    simp [hD, PyData.canLay0, PyData.canLayAll0, this]
  · simp [hD, PyData.depth, PyData.depthAll]
theorem neX_hA {S : Sto} {r s : HRow} : oNeX (hA r) (hA s) S = .ok (.bl (!decide (r = s))) S := by
  have e1 : dat S deep (hA r) = some (hD r) := rfl
  have e2 : dat S deep (hA s) = some (hD s) := rfl
  show oNe (hA r) (hA s) S = _
  unfold oNe eqA
  have : eqS (hA r) (hA s) = none := rfl
  rw [this]
  simp only [e1, e2, hD_sh, and_self, if_true, hD_eqv]
  rfl
theorem neX_rea {S : Sto} {x y : Reason} (hx : PyData.strOk x.1 = true) (hy : PyData.strOk y.1 = true) : oNeX (reaA x) (reaA y) S = .ok (.bl (!decide (x = y))) S := by
  have e1 : dat S deep (reaA x) = some (reaD x) := rfl
  have e2 : dat S deep (reaA y) = some (reaD y) := rfl
  show oNe (reaA x) (reaA y) S = _
  unfold oNe eqA
  have : eqS (reaA x) (reaA y) = none := rfl
  rw [this]
  simp only [e1, e2, rea_sh hx, rea_sh hy, and_self, if_true, rea_eqv]
  rfl
/-! a read put ahead of its write -/
def movedR (rd w : HRow) : HRow := ⟨rd.t, rd.wr, rd.v, 0, w.b - 1⟩
def notR (rd r : HRow) : Bool := !decide (r = rd)
theorem early_facts {h : List HRow} (g : HFine h) (no : ∀ x, ¬ ShowsP h x) {rd w : HRow} (hr : rd ∈ h) (r1 : rd.wr = false) (hw : w ∈ h) (w1 : w.wr = true) (ev : w.v = rd.v) :
    OneW (h.filter (notR rd) ++ [movedR rd w]) ∧ ShowsP (h.filter (notR rd) ++ [movedR rd w]) ("early", rd.t, w.t) ∧ OneX (h.filter (notR rd) ++ [movedR rd w]) ("early", rd.t, w.t) := by
  have mem : ∀ {x : HRow}, x ∈ h.filter (notR rd) ++ [movedR rd w] ↔ (x ∈ h ∧ x ≠ rd) ∨ x = movedR rd w := fun {x} => by
    rw [List.mem_append, List.mem_singleton, List.mem_filter]
    simp [notR]
  have wne : w ≠ rd := fun e => by rw [e, r1] at w1; cases w1
  have one : OneW (h.filter (notR rd) ++ [movedR rd w]) := fun x y hx hy x1 y1 e => by
    rcases mem.mp hx with ⟨a, _⟩ | a
    · rcases mem.mp hy with ⟨c, _⟩ | c
      · exact g.one x y a c x1 y1 e
      · rw [c] at y1
        exact absurd (r1.symm.trans y1) Bool.false_ne_true
    · rw [a] at x1
      exact absurd (r1.symm.trans x1) Bool.false_ne_true
  have early : EarlyP (h.filter (notR rd) ++ [movedR rd w]) rd.t w.t := ⟨movedR rd w, mem.mpr (.inr rfl), w, mem.mpr (.inl ⟨hw, wne⟩), r1, w1, ev.symm, rfl, rfl, by show w.b - 1 < w.b; omega⟩
  refine ⟨one, .inl ⟨rfl, early⟩, fun E B W y rea ey => ?_⟩
  have ne : E ≠ [] := fun e => by
    have := (rea.e ("early", rd.t, w.t)).mpr ⟨rfl, early⟩
    rw [e] at this
    cases this
  have yE : y ∈ E := by
    cases E with
    | nil => exact absurd rfl ne
    | cons z E =>
      have : y = z := by simpa using ey.symm
      rw [this]
      exact List.mem_cons_self
  obtain ⟨y1, x, hx, u, hu, x1, u1, exu, et, eu, lt⟩ := (rea.e y).mp yE
  have hu' : u ∈ h := by
    rcases mem.mp hu with ⟨a, _⟩ | a
    · exact a
    · rw [a] at u1
      exact absurd (r1.symm.trans u1) Bool.false_ne_true
  rcases mem.mp hx with ⟨a, _⟩ | a
  · exact absurd (show ShowsP h ("early", x.t, u.t) from .inl ⟨rfl, x, a, u, hu', x1, u1, exu, rfl, rfl, lt⟩) (no _)
  · have euw : u = w := g.one u w hu' hw u1 w1 (by rw [← exu, a, ev]; rfl)
    obtain ⟨q1, q2, q3⟩ := y
    simp only at y1 et eu
    rw [y1, ← et, ← eu, a, euw]
    rfl
open Classical in
theorem reas_some (h : List HRow) : ∃ E B W, Reas h E B W := by
  have vals : ∀ v, isVal h v ↔ v ∈ (0 :: h.map (·.v)) := fun v => by
    rw [List.mem_cons, List.mem_map]
    rfl
  have pairs : ∀ (w : Str) (C : Int → Int → Prop), (∀ a b, C a b → isVal h a ∧ isVal h b) → ∃ L : List Reason, ∀ x : Reason, x ∈ L ↔ x.1 = w ∧ C x.2.1 x.2.2 := fun w C hC => by
    refine ⟨(0 :: h.map (·.v)).flatMap fun a => ((0 :: h.map (·.v)).filter fun b => decide (C a b)).map fun b => (w, a, b), fun x => ?_⟩
    rw [List.mem_flatMap]
    constructor
    · rintro ⟨a, _, hx⟩
      obtain ⟨b, hb, rfl⟩ := List.mem_map.mp hx
      exact ⟨rfl, of_decide_eq_true (List.mem_filter.mp hb).2⟩
    · rintro ⟨h1, h2⟩
      obtain ⟨v1, v2⟩ := hC _ _ h2
      refine ⟨x.2.1, (vals _).mp v1, List.mem_map.mpr ⟨x.2.2, List.mem_filter.mpr ⟨(vals _).mp v2, decide_eq_true h2⟩, ?_⟩⟩
      rw [← h1]
  obtain ⟨B, hB⟩ := pairs "both" (BothP h) fun a b z => ⟨z.1, z.2.1⟩
  obtain ⟨W, hW⟩ := pairs "within" (WithinP h) fun a b z => ⟨z.1, z.2.1⟩
  refine ⟨h.flatMap fun r => (h.filter fun w => decide (r.wr = false ∧ w.wr = true ∧ r.v = w.v ∧ r.e < w.b)).map fun w => ("early", r.t, w.t), B, W, fun x => ?_, hB, hW⟩
  rw [List.mem_flatMap]
  constructor
  · rintro ⟨r, hr, hx⟩
    obtain ⟨w, hw, rfl⟩ := List.mem_map.mp hx
    obtain ⟨h1, h2⟩ := List.mem_filter.mp hw
    obtain ⟨a1, a2, a3, a4⟩ := of_decide_eq_true h2
    exact ⟨rfl, r, hr, w, h1, a1, a2, a3, rfl, rfl, a4⟩
  · rintro ⟨h1, r, hr, w, hw, a1, a2, a3, a4, a5, a6⟩
    refine ⟨r, hr, List.mem_map.mpr ⟨w, List.mem_filter.mpr ⟨hw, decide_eq_true ⟨a1, a2, a3, a6⟩⟩, ?_⟩⟩
    rw [← h1, a4, a5]
open Classical in
theorem early_wp {S : Sto} {n : Nat} {h : List HRow} {x : Reason} (hl : h.length ≤ 61) (one : OneW h) (sh : ShowsP h x) (ox : OneX h x) (e : S[n]? = some (.lst (h.map hA))) (okx : PyData.strOk x.1 = true) : m_ordered [.ref n] S = .ok (reaA x) S ∧ m_shows_none [.ref n, reaA x] S = .ok (.bl true) S := by
  constructor
  · show ordrM (hOf S (.ref n)) S = _
    rw [hOf_ref e]
    unfold ordrM
    simp only
    have hx : ∃ x, OneX h x := ⟨x, ox⟩
    rw [if_pos ⟨hl, one⟩, if_neg (fun z => z x sh), dif_pos hx]
    have : hx.choose = x := by
      obtain ⟨E, B, W, r⟩ := reas_some h
      have hm := (r.shows x).mpr sh
      cases hL : E ++ B ++ W with
      | nil => rw [hL] at hm; cases hm
      | cons y L =>
        have ey : (E ++ B ++ W)[0]? = some y := by rw [hL]; rfl
        rw [← hx.choose_spec E B W y r ey, ox E B W y r ey]
    rw [this]
  · show showM (hOf S (.ref n)) (reaOf (reaA x)) S = _
    rw [hOf_ref e]
    unfold showM
    simp only [reaA, reaOf]
    rw [if_pos ⟨okx, hl, one⟩, decide_eq_true sh]

/-! ### a cell of the law -/
theorem bag_wp {st : Sto} {ns : List Int} {k : Int} (hk : 0 ≤ k) (hk2 : k < 100) : okR (m__law_bag [.lit (ns.map A.int), .int k] st) fun a t => a = .ref st.length ∧ ∃ o, t = st ++ [o] ∧ BagAt t st.length := by
  obtain ⟨o, e, B⟩ := bag_ev (st := st) (ns := ns) hk hk2
  exact okR_of ⟨_, _, e, rfl, o, rfl, B⟩
abbrev envC (x0 : A) (z1 z2 z3 z4 z5 z6 z7 z8 z9 z10 z11 : Option A) : AEnv := [some x0, z1, z2, z3, z4, z5, z6, z7, z8, z9, z10, z11, none]
inductive RowsQ (S : Sto) (x0 : A) (z1 z2 z3 z4 z5 z6 z7 z9 z10 z11 : Option A) : Fl → Sto → Prop
  | go {t : Sto} (z8 : Option A) (l : Sto) (e : t = S ++ l) : RowsQ S x0 z1 z2 z3 z4 z5 z6 z7 z9 z10 z11 (.nx (envC x0 z1 z2 z3 z4 z5 z6 z7 z8 z9 z10 z11)) t
/-- a history that has an order, asked of the program and by the law -/
structure Good (h : List HRow) : Prop where
  g : HFine h
  so : SomeO h 0
  tt : ∀ r ∈ h, r.t < 1000
theorem rows_wp {S : Sto} {n : Nat} {h : List HRow} {x0 : A} {z1 z2 z3 z4 z5 z6 z8 z9 z10 z11 : Option A} (G : Good h) (e : S[n]? = some (.lst (h.map hA))) : okF (lb_law_1 (envC x0 z1 z2 z3 z4 z5 z6 (some (.ref n)) z8 z9 z10 z11) S) (RowsQ S x0 z1 z2 z3 z4 z5 z6 (some (.ref n)) z9 z10 z11) := by
  have hn := (List.getElem?_eq_some_iff.mp e).1
  unfold lb_law_1 envC
  simp only [wp_okR, wp_okF, wp_fin, wp_next, wp_then, wp_bind, wp_nox, wp_tK, wp_bK, wp_fr, wp_fn, wp_nn, wp_nr, wp_nb, wp_nc, wp_ln, wp_lc, wp_lb, wp_lr, wp_jn, wp_jc, ev_bok, ev_bno, ev_bex, ev_tok, ev_tno, ev_tex, ev_nnx, ev_nrt, ev_nbk, ev_nct, ev_nex, ev_nno, ev_frt, ev_fnx, ev_fex, ev_xok, ev_lsome, ev_lnone, ev_seq, ev_if, ev_ret, ev_retN, ev_drop, ev_nop, ev_brk, ev_cont, ev_asgN, ev_asgT, ev_asgO, ev_mgTup, ev_mgN, ev_mgC, ev_mg0, ev_putL, ev_putO, ev_var, ev_vr, ev_c, ev_op, ev_un, ev_test, ev_tb, ev_notT, ev_andT, ev_orT, ev_ifE, ev_not, ev_nb, ev_and, ev_andK, ev_or, ev_orK, ev_chain, ev_chK, ev_nil, ev_cons, ev_tup, ev_lst, ev_new, ev_call, ev_cb, ev_size, ev_addI, ev_addS, ev_addT, ev_addL, ev_catO, ev_sub, ev_mul, ev_div, ev_mod, ev_p5, ev_p6, ev_p12, ev_p18, ev_p30, ev_neg, ev_ltI, ev_ltS, ev_leI, ev_leS, ev_gt, ev_ge, ev_eqI, ev_eqS, ev_neI, ev_neS, ev_neB, ev_eqB, ev_is, ev_isnot, ev_ixT, ev_ixS, ev_ixR, ev_ixL, ev_ixK, ev_getL, ev_getM, ev_gL, ev_gM, ev_at0, ev_at1, ev_at2, ev_at3, ev_at4, ev_lenS, ev_lenR, ev_lenT, ev_lenL, ev_lenO, ev_lenD, ev_abs, ev_min2, ev_max2, ev_intI, ev_intB, ev_set, ev_fc, ev_setset, ev_last, ev_appk, ev_app0, ev_setk, ev_set0, ev_assoc, ev_lapp, ev_lappA, ev_sl, ev_nopart, ev_part, ev_ptK, ev_slT, ev_slS, ev_slR, ev_slK, ev_tyN, ev_tyB, ev_tyI, ev_tyS, ev_tyT, ev_tyL, ev_tyR, ev_tyRL, ev_isi, ev_isi1, ev_isi2, ev_isi3, ev_isi4, ev_isi5, ev_isiT, ev_isi2K, ev_isTy, ev_list, ev_listK, ev_tuple, ev_tupK, ev_getST, ev_getSR, ev_getSL, ev_all, ev_allK, ev_eqXI, ev_eqXS, ev_neXI, ev_neXS, ev_neXB, ev_eqXB, ev_eqXR, ev_neXR, ev_nil2, ev_eqK, ev_neK, ev_meth, ev_meth0, ev_mth1, ev_mth2, ev_mth3, ev_append, ev_m0, ev_m0K, ev_str, ev_for, ev_miR1, ev_rg1K, ev_miL, ev_liK, ev_miT, ev_tiK, ev_lc, ev_wipe0, ev_wipeS, ev_yes, ev_lenSet, ev_lenSetK, ev_listR, ev_lrK, ev_put2, ev_p2A, ev_p2K, ev_p2E, ev_put1, ev_pt1, ev_addXI, ev_addXB, ev_addXS, ev_addXT, ev_addXL, ev_subXI, ev_subXB, ev_mulXI, ev_mulXB, ev_mulXL, ev_negXI, ev_negXB, ev_strXI, ev_strXB, ev_mulYI, ev_mulYB, ev_mulYL, ev_mulYT, ev_dnew, ev_dnewT, ev_dgetE, ev_getD, ev_gD, ev_keyI, ev_keyS, ev_dgK, ev_dinE, ev_diK, ev_dputE, ev_dpK, ev_dget2E, ev_isDA, ev_isSome, ev_isNone, ev_dg2K, ev_dpop2E, ev_dp2K, ev_dp3S, ev_dp3N, ev_sortedE, ev_srO1, ev_srO2, ev_gLd, ev_srKS, ev_srKI, ev_gDT, ev_gT, ev_tinE, ev_tiKK, ev_keysA, ev_keysN, ev_keysC, ev_dputTE, ev_dptK, ev_dispE, ev_mpN, ev_mpC, ev_pcK, ev_dsK, ev_dsK2, ev_lc2E, List.getElem?_cons_zero, List.getElem?_cons_succ, List.set_cons_zero, List.set_cons_succ, List.length_cons, List.length_nil, List.cons_append, List.nil_append, if_true, if_false, Bool.false_eq_true, Bool.true_eq_false, reduceIte, Bool.not_true, Bool.not_false, Bool.and_true, Bool.true_and, Bool.and_false, Bool.false_and, Bool.or_true, Bool.true_or, Bool.or_false, Bool.false_or, decide_eq_true_eq, Nat.reduceAdd, Nat.reduceLeDiff, Nat.zero_add, Int.reduceLT, Int.reduceLE, Int.reduceEq, Int.reduceNeg, Nat.reduceEqDiff, and_self, and_true, true_and, decide_true, decide_false, eq_self, ite_true, ite_false, Int.reduceSub, Int.reduceAdd, Int.cast_ofNat_Int, Int.natCast_add, Int.cast_ofNat_Int, Nat.reduceSub, Nat.add_assoc, String.reduceBEq, String.reduceEq, Bool.or_not_self, beq_self_eq_true]
  refine okR_use (isHist_wp G.g G.tt e) fun a t ht => ?_
  obtain ⟨rfl, l, rfl⟩ := ht
  simp only [wp_okR, wp_okF, wp_fin, wp_next, wp_then, wp_bind, wp_nox, wp_tK, wp_bK, wp_fr, wp_fn, wp_nn, wp_nr, wp_nb, wp_nc, wp_ln, wp_lc, wp_lb, wp_lr, wp_jn, wp_jc, ev_bok, ev_bno, ev_bex, ev_tok, ev_tno, ev_tex, ev_nnx, ev_nrt, ev_nbk, ev_nct, ev_nex, ev_nno, ev_frt, ev_fnx, ev_fex, ev_xok, ev_lsome, ev_lnone, ev_seq, ev_if, ev_ret, ev_retN, ev_drop, ev_nop, ev_brk, ev_cont, ev_asgN, ev_asgT, ev_asgO, ev_mgTup, ev_mgN, ev_mgC, ev_mg0, ev_putL, ev_putO, ev_var, ev_vr, ev_c, ev_op, ev_un, ev_test, ev_tb, ev_notT, ev_andT, ev_orT, ev_ifE, ev_not, ev_nb, ev_and, ev_andK, ev_or, ev_orK, ev_chain, ev_chK, ev_nil, ev_cons, ev_tup, ev_lst, ev_new, ev_call, ev_cb, ev_size, ev_addI, ev_addS, ev_addT, ev_addL, ev_catO, ev_sub, ev_mul, ev_div, ev_mod, ev_p5, ev_p6, ev_p12, ev_p18, ev_p30, ev_neg, ev_ltI, ev_ltS, ev_leI, ev_leS, ev_gt, ev_ge, ev_eqI, ev_eqS, ev_neI, ev_neS, ev_neB, ev_eqB, ev_is, ev_isnot, ev_ixT, ev_ixS, ev_ixR, ev_ixL, ev_ixK, ev_getL, ev_getM, ev_gL, ev_gM, ev_at0, ev_at1, ev_at2, ev_at3, ev_at4, ev_lenS, ev_lenR, ev_lenT, ev_lenL, ev_lenO, ev_lenD, ev_abs, ev_min2, ev_max2, ev_intI, ev_intB, ev_set, ev_fc, ev_setset, ev_last, ev_appk, ev_app0, ev_setk, ev_set0, ev_assoc, ev_lapp, ev_lappA, ev_sl, ev_nopart, ev_part, ev_ptK, ev_slT, ev_slS, ev_slR, ev_slK, ev_tyN, ev_tyB, ev_tyI, ev_tyS, ev_tyT, ev_tyL, ev_tyR, ev_tyRL, ev_isi, ev_isi1, ev_isi2, ev_isi3, ev_isi4, ev_isi5, ev_isiT, ev_isi2K, ev_isTy, ev_list, ev_listK, ev_tuple, ev_tupK, ev_getST, ev_getSR, ev_getSL, ev_all, ev_allK, ev_eqXI, ev_eqXS, ev_neXI, ev_neXS, ev_neXB, ev_eqXB, ev_eqXR, ev_neXR, ev_nil2, ev_eqK, ev_neK, ev_meth, ev_meth0, ev_mth1, ev_mth2, ev_mth3, ev_append, ev_m0, ev_m0K, ev_str, ev_for, ev_miR1, ev_rg1K, ev_miL, ev_liK, ev_miT, ev_tiK, ev_lc, ev_wipe0, ev_wipeS, ev_yes, ev_lenSet, ev_lenSetK, ev_listR, ev_lrK, ev_put2, ev_p2A, ev_p2K, ev_p2E, ev_put1, ev_pt1, ev_addXI, ev_addXB, ev_addXS, ev_addXT, ev_addXL, ev_subXI, ev_subXB, ev_mulXI, ev_mulXB, ev_mulXL, ev_negXI, ev_negXB, ev_strXI, ev_strXB, ev_mulYI, ev_mulYB, ev_mulYL, ev_mulYT, ev_dnew, ev_dnewT, ev_dgetE, ev_getD, ev_gD, ev_keyI, ev_keyS, ev_dgK, ev_dinE, ev_diK, ev_dputE, ev_dpK, ev_dget2E, ev_isDA, ev_isSome, ev_isNone, ev_dg2K, ev_dpop2E, ev_dp2K, ev_dp3S, ev_dp3N, ev_sortedE, ev_srO1, ev_srO2, ev_gLd, ev_srKS, ev_srKI, ev_gDT, ev_gT, ev_tinE, ev_tiKK, ev_keysA, ev_keysN, ev_keysC, ev_dputTE, ev_dptK, ev_dispE, ev_mpN, ev_mpC, ev_pcK, ev_dsK, ev_dsK2, ev_lc2E, List.getElem?_cons_zero, List.getElem?_cons_succ, List.set_cons_zero, List.set_cons_succ, List.length_cons, List.length_nil, List.cons_append, List.nil_append, if_true, if_false, Bool.false_eq_true, Bool.true_eq_false, reduceIte, Bool.not_true, Bool.not_false, Bool.and_true, Bool.true_and, Bool.and_false, Bool.false_and, Bool.or_true, Bool.true_or, Bool.or_false, Bool.false_or, decide_eq_true_eq, Nat.reduceAdd, Nat.reduceLeDiff, Nat.zero_add, Int.reduceLT, Int.reduceLE, Int.reduceEq, Int.reduceNeg, Nat.reduceEqDiff, and_self, and_true, true_and, decide_true, decide_false, eq_self, ite_true, ite_false, Int.reduceSub, Int.reduceAdd, Int.cast_ofNat_Int, Int.natCast_add, Int.cast_ofNat_Int, Nat.reduceSub, Nat.add_assoc, String.reduceBEq, String.reduceEq, Bool.or_not_self, beq_self_eq_true]
  refine okR_use (ordered_wp G.g G.so (by rw [List.getElem?_append_left hn]; exact e)) fun a t ht => ?_
  obtain ⟨rfl, ts, rfl, hO, hC⟩ := ht
  have e2 : (S ++ l ++ [AO.lst (ts.map A.int)])[n]? = some (.lst (h.map hA)) := by rw [List.append_assoc, List.getElem?_append_left hn]; exact e
  obtain ⟨o1, o2⟩ := ordM_wp e2 (T := (S ++ l).length) ev_last hO hC
  rw [List.append_assoc, List.length_append] at o1 o2
  simp only [wp_okR, wp_okF, wp_fin, wp_next, wp_then, wp_bind, wp_nox, wp_tK, wp_bK, wp_fr, wp_fn, wp_nn, wp_nr, wp_nb, wp_nc, wp_ln, wp_lc, wp_lb, wp_lr, wp_jn, wp_jc, ev_bok, ev_bno, ev_bex, ev_tok, ev_tno, ev_tex, ev_nnx, ev_nrt, ev_nbk, ev_nct, ev_nex, ev_nno, ev_frt, ev_fnx, ev_fex, ev_xok, ev_lsome, ev_lnone, ev_seq, ev_if, ev_ret, ev_retN, ev_drop, ev_nop, ev_brk, ev_cont, ev_asgN, ev_asgT, ev_asgO, ev_mgTup, ev_mgN, ev_mgC, ev_mg0, ev_putL, ev_putO, ev_var, ev_vr, ev_c, ev_op, ev_un, ev_test, ev_tb, ev_notT, ev_andT, ev_orT, ev_ifE, ev_not, ev_nb, ev_and, ev_andK, ev_or, ev_orK, ev_chain, ev_chK, ev_nil, ev_cons, ev_tup, ev_lst, ev_new, ev_call, ev_cb, ev_size, ev_addI, ev_addS, ev_addT, ev_addL, ev_catO, ev_sub, ev_mul, ev_div, ev_mod, ev_p5, ev_p6, ev_p12, ev_p18, ev_p30, ev_neg, ev_ltI, ev_ltS, ev_leI, ev_leS, ev_gt, ev_ge, ev_eqI, ev_eqS, ev_neI, ev_neS, ev_neB, ev_eqB, ev_is, ev_isnot, ev_ixT, ev_ixS, ev_ixR, ev_ixL, ev_ixK, ev_getL, ev_getM, ev_gL, ev_gM, ev_at0, ev_at1, ev_at2, ev_at3, ev_at4, ev_lenS, ev_lenR, ev_lenT, ev_lenL, ev_lenO, ev_lenD, ev_abs, ev_min2, ev_max2, ev_intI, ev_intB, ev_set, ev_fc, ev_setset, ev_last, ev_appk, ev_app0, ev_setk, ev_set0, ev_assoc, ev_lapp, ev_lappA, ev_sl, ev_nopart, ev_part, ev_ptK, ev_slT, ev_slS, ev_slR, ev_slK, ev_tyN, ev_tyB, ev_tyI, ev_tyS, ev_tyT, ev_tyL, ev_tyR, ev_tyRL, ev_isi, ev_isi1, ev_isi2, ev_isi3, ev_isi4, ev_isi5, ev_isiT, ev_isi2K, ev_isTy, ev_list, ev_listK, ev_tuple, ev_tupK, ev_getST, ev_getSR, ev_getSL, ev_all, ev_allK, ev_eqXI, ev_eqXS, ev_neXI, ev_neXS, ev_neXB, ev_eqXB, ev_eqXR, ev_neXR, ev_nil2, ev_eqK, ev_neK, ev_meth, ev_meth0, ev_mth1, ev_mth2, ev_mth3, ev_append, ev_m0, ev_m0K, ev_str, ev_for, ev_miR1, ev_rg1K, ev_miL, ev_liK, ev_miT, ev_tiK, ev_lc, ev_wipe0, ev_wipeS, ev_yes, ev_lenSet, ev_lenSetK, ev_listR, ev_lrK, ev_put2, ev_p2A, ev_p2K, ev_p2E, ev_put1, ev_pt1, ev_addXI, ev_addXB, ev_addXS, ev_addXT, ev_addXL, ev_subXI, ev_subXB, ev_mulXI, ev_mulXB, ev_mulXL, ev_negXI, ev_negXB, ev_strXI, ev_strXB, ev_mulYI, ev_mulYB, ev_mulYL, ev_mulYT, ev_dnew, ev_dnewT, ev_dgetE, ev_getD, ev_gD, ev_keyI, ev_keyS, ev_dgK, ev_dinE, ev_diK, ev_dputE, ev_dpK, ev_dget2E, ev_isDA, ev_isSome, ev_isNone, ev_dg2K, ev_dpop2E, ev_dp2K, ev_dp3S, ev_dp3N, ev_sortedE, ev_srO1, ev_srO2, ev_gLd, ev_srKS, ev_srKI, ev_gDT, ev_gT, ev_tinE, ev_tiKK, ev_keysA, ev_keysN, ev_keysC, ev_dputTE, ev_dptK, ev_dispE, ev_mpN, ev_mpC, ev_pcK, ev_dsK, ev_dsK2, ev_lc2E, List.getElem?_cons_zero, List.getElem?_cons_succ, List.set_cons_zero, List.set_cons_succ, List.length_cons, List.length_nil, List.cons_append, List.nil_append, if_true, if_false, Bool.false_eq_true, Bool.true_eq_false, reduceIte, Bool.not_true, Bool.not_false, Bool.and_true, Bool.true_and, Bool.and_false, Bool.false_and, Bool.or_true, Bool.true_or, Bool.or_false, Bool.false_or, decide_eq_true_eq, Nat.reduceAdd, Nat.reduceLeDiff, Nat.zero_add, Int.reduceLT, Int.reduceLE, Int.reduceEq, Int.reduceNeg, Nat.reduceEqDiff, and_self, and_true, true_and, decide_true, decide_false, eq_self, ite_true, ite_false, Int.reduceSub, Int.reduceAdd, Int.cast_ofNat_Int, Int.natCast_add, Int.cast_ofNat_Int, Nat.reduceSub, Nat.add_assoc, String.reduceBEq, String.reduceEq, Bool.or_not_self, beq_self_eq_true, o1, o2]
  exact .go _ _ rfl
theorem loop_wp {S : Sto} {L n1 n2 n3 : Nat} {h1 h2 h3 : List HRow} {x0 : A} {z1 z2 z3 z4 z5 z6 z7 z8 z9 z10 z11 : Option A} {Q : Fl → Sto → Prop} (G1 : Good h1) (G2 : Good h2) (G3 : Good h3) (eL : S[L]? = some (.lst [.ref n1, .ref n2, .ref n3])) (e1 : S[n1]? = some (.lst (h1.map hA))) (e2 : S[n2]? = some (.lst (h2.map hA))) (e3 : S[n3]? = some (.lst (h3.map hA)))
    (k : ∀ z7 z8 l, Q (.nx (envC x0 z1 z2 z3 z4 z5 z6 z7 z8 z9 z10 z11)) (S ++ l)) : okF (forL (okL (.ref L) [.ref n1, .ref n2, .ref n3]) (mgName 7) lb_law_1 [.ref n1, .ref n2, .ref n3] (envC x0 z1 z2 z3 z4 z5 z6 z7 z8 z9 z10 z11) S) Q := by
  have grow : ∀ {n : Nat} {o : AO}, S[n]? = some o → ∀ l, (S ++ l)[n]? = some o := fun {n o} e l => by rw [List.getElem?_append_left (List.getElem?_eq_some_iff.mp e).1]; exact e
  refine forL_wp (j := 0) (fun _ env t => ∃ z7 z8 l, env = envC x0 z1 z2 z3 z4 z5 z6 z7 z8 z9 z10 z11 ∧ t = S ++ l) (fun _ _ t h => ?_) ⟨z7, z8, [], rfl, (List.append_nil _).symm⟩ (fun i x env t hx h => ?_) (fun env t h => ?_)
  · obtain ⟨_, _, l, _, rfl⟩ := h
    show getL _ (.ref L) = _
    rw [ev_getL, grow eL l]
    rfl
  · obtain ⟨z7, z8, l, rfl, rfl⟩ := h
    refine ⟨_, rfl, ?_⟩
    have go : ∀ {n : Nat} {h : List HRow}, Good h → S[n]? = some (.lst (h.map hA)) → okF (lb_law_1 (envC x0 z1 z2 z3 z4 z5 z6 (some (.ref n)) z8 z9 z10 z11) (S ++ l)) (lK (fun env t => ∃ z7 z8 l, env = envC x0 z1 z2 z3 z4 z5 z6 z7 z8 z9 z10 z11 ∧ t = S ++ l) Q) := fun {n h} G e => by
      refine okF_use (rows_wp G (grow e l)) fun fl t ht => ?_
      cases ht with
      | go z8 l2 e => exact ⟨_, z8, l ++ l2, rfl, by rw [e, List.append_assoc]⟩
    match i, hx with
    | 0, hx => cases hx; exact go G1 e1
    | 1, hx => cases hx; exact go G2 e2
    | 2, hx => cases hx; exact go G3 e3
  · obtain ⟨z7, z8, l, rfl, rfl⟩ := h
    exact k _ _ _
/-! the comprehensions -/
theorem hA_un (r : HRow) : hA r = .tup [.int r.t, .str (kindS r.wr), .int r.v, .int r.b, .int r.e] := rfl
noncomputable def cOther : ME := (mLc (miL (mVar 3)) (mgName 12) mYes (mOp oAddX (mSl oSl (mVar 12) mNoPart (mPart (mC (.int 3)))) (mTup (mCons (mOp oAddX (mOp oIxD (mVar 12) (mC (.int 3))) (mVar 4)) (mCons (mOp oAddX (mOp oIxD (mVar 12) (mC (.int 4))) (mVar 4)) mNil)))) [12])
theorem cOther_wp {S : Sto} {n : Nat} {h : List HRow} {d : Int} {x0 : A} {z1 z2 z5 z6 z7 z8 z9 z10 z11 : Option A} {Q : A → Sto → Prop} (e : S[n]? = some (.lst (h.map hA))) (hl : h.length ≤ 61) (k : Q (.ref S.length) (S ++ [.lst ((h.map (shiftR d)).map hA)])) : okR (cOther (envC x0 z1 z2 (some (.ref n)) (some (.int d)) z5 z6 z7 z8 z9 z10 z11) S) Q := by
  have hn := (List.getElem?_eq_some_iff.mp e).1
  unfold cOther envC
  simp only [wp_okR, wp_okF, wp_fin, wp_next, wp_then, wp_bind, wp_nox, wp_tK, wp_bK, wp_fr, wp_fn, wp_nn, wp_nr, wp_nb, wp_nc, wp_ln, wp_lc, wp_lb, wp_lr, wp_jn, wp_jc, ev_bok, ev_bno, ev_bex, ev_tok, ev_tno, ev_tex, ev_nnx, ev_nrt, ev_nbk, ev_nct, ev_nex, ev_nno, ev_frt, ev_fnx, ev_fex, ev_xok, ev_lsome, ev_lnone, ev_seq, ev_if, ev_ret, ev_retN, ev_drop, ev_nop, ev_brk, ev_cont, ev_asgN, ev_asgT, ev_asgO, ev_mgTup, ev_mgN, ev_mgC, ev_mg0, ev_putL, ev_putO, ev_var, ev_vr, ev_c, ev_op, ev_un, ev_test, ev_tb, ev_notT, ev_andT, ev_orT, ev_ifE, ev_not, ev_nb, ev_and, ev_andK, ev_or, ev_orK, ev_chain, ev_chK, ev_nil, ev_cons, ev_tup, ev_lst, ev_new, ev_call, ev_cb, ev_size, ev_addI, ev_addS, ev_addT, ev_addL, ev_catO, ev_sub, ev_mul, ev_div, ev_mod, ev_p5, ev_p6, ev_p12, ev_p18, ev_p30, ev_neg, ev_ltI, ev_ltS, ev_leI, ev_leS, ev_gt, ev_ge, ev_eqI, ev_eqS, ev_neI, ev_neS, ev_neB, ev_eqB, ev_is, ev_isnot, ev_ixT, ev_ixS, ev_ixR, ev_ixL, ev_ixK, ev_getL, ev_getM, ev_gL, ev_gM, ev_at0, ev_at1, ev_at2, ev_at3, ev_at4, ev_lenS, ev_lenR, ev_lenT, ev_lenL, ev_lenO, ev_lenD, ev_abs, ev_min2, ev_max2, ev_intI, ev_intB, ev_set, ev_fc, ev_setset, ev_last, ev_appk, ev_app0, ev_setk, ev_set0, ev_assoc, ev_lapp, ev_lappA, ev_sl, ev_nopart, ev_part, ev_ptK, ev_slT, ev_slS, ev_slR, ev_slK, ev_tyN, ev_tyB, ev_tyI, ev_tyS, ev_tyT, ev_tyL, ev_tyR, ev_tyRL, ev_isi, ev_isi1, ev_isi2, ev_isi3, ev_isi4, ev_isi5, ev_isiT, ev_isi2K, ev_isTy, ev_list, ev_listK, ev_tuple, ev_tupK, ev_getST, ev_getSR, ev_getSL, ev_all, ev_allK, ev_eqXI, ev_eqXS, ev_neXI, ev_neXS, ev_neXB, ev_eqXB, ev_eqXR, ev_neXR, ev_nil2, ev_eqK, ev_neK, ev_meth, ev_meth0, ev_mth1, ev_mth2, ev_mth3, ev_append, ev_m0, ev_m0K, ev_str, ev_for, ev_miR1, ev_rg1K, ev_miL, ev_liK, ev_miT, ev_tiK, ev_lc, ev_wipe0, ev_wipeS, ev_yes, ev_lenSet, ev_lenSetK, ev_listR, ev_lrK, ev_put2, ev_p2A, ev_p2K, ev_p2E, ev_put1, ev_pt1, ev_addXI, ev_addXB, ev_addXS, ev_addXT, ev_addXL, ev_subXI, ev_subXB, ev_mulXI, ev_mulXB, ev_mulXL, ev_negXI, ev_negXB, ev_strXI, ev_strXB, ev_mulYI, ev_mulYB, ev_mulYL, ev_mulYT, ev_dnew, ev_dnewT, ev_dgetE, ev_getD, ev_gD, ev_keyI, ev_keyS, ev_dgK, ev_dinE, ev_diK, ev_dputE, ev_dpK, ev_dget2E, ev_isDA, ev_isSome, ev_isNone, ev_dg2K, ev_dpop2E, ev_dp2K, ev_dp3S, ev_dp3N, ev_sortedE, ev_srO1, ev_srO2, ev_gLd, ev_srKS, ev_srKI, ev_gDT, ev_gT, ev_tinE, ev_tiKK, ev_keysA, ev_keysN, ev_keysC, ev_dputTE, ev_dptK, ev_dispE, ev_mpN, ev_mpC, ev_pcK, ev_dsK, ev_dsK2, ev_lc2E, List.getElem?_cons_zero, List.getElem?_cons_succ, List.set_cons_zero, List.set_cons_succ, List.length_cons, List.length_nil, List.cons_append, List.nil_append, if_true, if_false, Bool.false_eq_true, Bool.true_eq_false, reduceIte, Bool.not_true, Bool.not_false, Bool.and_true, Bool.true_and, Bool.and_false, Bool.false_and, Bool.or_true, Bool.true_or, Bool.or_false, Bool.false_or, decide_eq_true_eq, Nat.reduceAdd, Nat.reduceLeDiff, Nat.zero_add, Int.reduceLT, Int.reduceLE, Int.reduceEq, Int.reduceNeg, Nat.reduceEqDiff, and_self, and_true, true_and, decide_true, decide_false, eq_self, ite_true, ite_false, Int.reduceSub, Int.reduceAdd, Int.cast_ofNat_Int, Int.natCast_add, Int.cast_ofNat_Int, Nat.reduceSub, Nat.add_assoc, String.reduceBEq, String.reduceEq, Bool.or_not_self, beq_self_eq_true, e]
  refine lc_P (mapA (shiftR d)) (fun l => ?_) (by rw [List.length_map]; omega) (fun x hx => ?_) ?_
  · show getL _ (.ref n) = _
    rw [ev_getL, List.getElem?_append_left hn, e]
    rfl
  · obtain ⟨r, hr, rfl⟩ := List.mem_map.mp hx
    refine ⟨_, rfl, fun l => ?_⟩
    have c3 : ∀ a b c d e : A, cutA [a, b, c, d, e] none (some 3) = [a, b, c] := fun _ _ _ _ _ => rfl
    simp only [wp_okR, wp_okF, wp_fin, wp_next, wp_then, wp_bind, wp_nox, wp_tK, wp_bK, wp_fr, wp_fn, wp_nn, wp_nr, wp_nb, wp_nc, wp_ln, wp_lc, wp_lb, wp_lr, wp_jn, wp_jc, ev_bok, ev_bno, ev_bex, ev_tok, ev_tno, ev_tex, ev_nnx, ev_nrt, ev_nbk, ev_nct, ev_nex, ev_nno, ev_frt, ev_fnx, ev_fex, ev_xok, ev_lsome, ev_lnone, ev_seq, ev_if, ev_ret, ev_retN, ev_drop, ev_nop, ev_brk, ev_cont, ev_asgN, ev_asgT, ev_asgO, ev_mgTup, ev_mgN, ev_mgC, ev_mg0, ev_putL, ev_putO, ev_var, ev_vr, ev_c, ev_op, ev_un, ev_test, ev_tb, ev_notT, ev_andT, ev_orT, ev_ifE, ev_not, ev_nb, ev_and, ev_andK, ev_or, ev_orK, ev_chain, ev_chK, ev_nil, ev_cons, ev_tup, ev_lst, ev_new, ev_call, ev_cb, ev_size, ev_addI, ev_addS, ev_addT, ev_addL, ev_catO, ev_sub, ev_mul, ev_div, ev_mod, ev_p5, ev_p6, ev_p12, ev_p18, ev_p30, ev_neg, ev_ltI, ev_ltS, ev_leI, ev_leS, ev_gt, ev_ge, ev_eqI, ev_eqS, ev_neI, ev_neS, ev_neB, ev_eqB, ev_is, ev_isnot, ev_ixT, ev_ixS, ev_ixR, ev_ixL, ev_ixK, ev_getL, ev_getM, ev_gL, ev_gM, ev_at0, ev_at1, ev_at2, ev_at3, ev_at4, ev_lenS, ev_lenR, ev_lenT, ev_lenL, ev_lenO, ev_lenD, ev_abs, ev_min2, ev_max2, ev_intI, ev_intB, ev_set, ev_fc, ev_setset, ev_last, ev_appk, ev_app0, ev_setk, ev_set0, ev_assoc, ev_lapp, ev_lappA, ev_sl, ev_nopart, ev_part, ev_ptK, ev_slT, ev_slS, ev_slR, ev_slK, ev_tyN, ev_tyB, ev_tyI, ev_tyS, ev_tyT, ev_tyL, ev_tyR, ev_tyRL, ev_isi, ev_isi1, ev_isi2, ev_isi3, ev_isi4, ev_isi5, ev_isiT, ev_isi2K, ev_isTy, ev_list, ev_listK, ev_tuple, ev_tupK, ev_getST, ev_getSR, ev_getSL, ev_all, ev_allK, ev_eqXI, ev_eqXS, ev_neXI, ev_neXS, ev_neXB, ev_eqXB, ev_eqXR, ev_neXR, ev_nil2, ev_eqK, ev_neK, ev_meth, ev_meth0, ev_mth1, ev_mth2, ev_mth3, ev_append, ev_m0, ev_m0K, ev_str, ev_for, ev_miR1, ev_rg1K, ev_miL, ev_liK, ev_miT, ev_tiK, ev_lc, ev_wipe0, ev_wipeS, ev_yes, ev_lenSet, ev_lenSetK, ev_listR, ev_lrK, ev_put2, ev_p2A, ev_p2K, ev_p2E, ev_put1, ev_pt1, ev_addXI, ev_addXB, ev_addXS, ev_addXT, ev_addXL, ev_subXI, ev_subXB, ev_mulXI, ev_mulXB, ev_mulXL, ev_negXI, ev_negXB, ev_strXI, ev_strXB, ev_mulYI, ev_mulYB, ev_mulYL, ev_mulYT, ev_dnew, ev_dnewT, ev_dgetE, ev_getD, ev_gD, ev_keyI, ev_keyS, ev_dgK, ev_dinE, ev_diK, ev_dputE, ev_dpK, ev_dget2E, ev_isDA, ev_isSome, ev_isNone, ev_dg2K, ev_dpop2E, ev_dp2K, ev_dp3S, ev_dp3N, ev_sortedE, ev_srO1, ev_srO2, ev_gLd, ev_srKS, ev_srKI, ev_gDT, ev_gT, ev_tinE, ev_tiKK, ev_keysA, ev_keysN, ev_keysC, ev_dputTE, ev_dptK, ev_dispE, ev_mpN, ev_mpC, ev_pcK, ev_dsK, ev_dsK2, ev_lc2E, List.getElem?_cons_zero, List.getElem?_cons_succ, List.set_cons_zero, List.set_cons_succ, List.length_cons, List.length_nil, List.cons_append, List.nil_append, if_true, if_false, Bool.false_eq_true, Bool.true_eq_false, reduceIte, Bool.not_true, Bool.not_false, Bool.and_true, Bool.true_and, Bool.and_false, Bool.false_and, Bool.or_true, Bool.true_or, Bool.or_false, Bool.false_or, decide_eq_true_eq, Nat.reduceAdd, Nat.reduceLeDiff, Nat.zero_add, Int.reduceLT, Int.reduceLE, Int.reduceEq, Int.reduceNeg, Nat.reduceEqDiff, and_self, and_true, true_and, decide_true, decide_false, eq_self, ite_true, ite_false, Int.reduceSub, Int.reduceAdd, Int.cast_ofNat_Int, Int.natCast_add, Int.cast_ofNat_Int, Nat.reduceSub, Nat.add_assoc, String.reduceBEq, String.reduceEq, Bool.or_not_self, beq_self_eq_true, mapA_hA]
    simp only [wp_okR, wp_okF, wp_fin, wp_next, wp_then, wp_bind, wp_nox, wp_tK, wp_bK, wp_fr, wp_fn, wp_nn, wp_nr, wp_nb, wp_nc, wp_ln, wp_lc, wp_lb, wp_lr, wp_jn, wp_jc, ev_bok, ev_bno, ev_bex, ev_tok, ev_tno, ev_tex, ev_nnx, ev_nrt, ev_nbk, ev_nct, ev_nex, ev_nno, ev_frt, ev_fnx, ev_fex, ev_xok, ev_lsome, ev_lnone, ev_seq, ev_if, ev_ret, ev_retN, ev_drop, ev_nop, ev_brk, ev_cont, ev_asgN, ev_asgT, ev_asgO, ev_mgTup, ev_mgN, ev_mgC, ev_mg0, ev_putL, ev_putO, ev_var, ev_vr, ev_c, ev_op, ev_un, ev_test, ev_tb, ev_notT, ev_andT, ev_orT, ev_ifE, ev_not, ev_nb, ev_and, ev_andK, ev_or, ev_orK, ev_chain, ev_chK, ev_nil, ev_cons, ev_tup, ev_lst, ev_new, ev_call, ev_cb, ev_size, ev_addI, ev_addS, ev_addT, ev_addL, ev_catO, ev_sub, ev_mul, ev_div, ev_mod, ev_p5, ev_p6, ev_p12, ev_p18, ev_p30, ev_neg, ev_ltI, ev_ltS, ev_leI, ev_leS, ev_gt, ev_ge, ev_eqI, ev_eqS, ev_neI, ev_neS, ev_neB, ev_eqB, ev_is, ev_isnot, ev_ixT, ev_ixS, ev_ixR, ev_ixL, ev_ixK, ev_getL, ev_getM, ev_gL, ev_gM, ev_at0, ev_at1, ev_at2, ev_at3, ev_at4, ev_lenS, ev_lenR, ev_lenT, ev_lenL, ev_lenO, ev_lenD, ev_abs, ev_min2, ev_max2, ev_intI, ev_intB, ev_set, ev_fc, ev_setset, ev_last, ev_appk, ev_app0, ev_setk, ev_set0, ev_assoc, ev_lapp, ev_lappA, ev_sl, ev_nopart, ev_part, ev_ptK, ev_slT, ev_slS, ev_slR, ev_slK, ev_tyN, ev_tyB, ev_tyI, ev_tyS, ev_tyT, ev_tyL, ev_tyR, ev_tyRL, ev_isi, ev_isi1, ev_isi2, ev_isi3, ev_isi4, ev_isi5, ev_isiT, ev_isi2K, ev_isTy, ev_list, ev_listK, ev_tuple, ev_tupK, ev_getST, ev_getSR, ev_getSL, ev_all, ev_allK, ev_eqXI, ev_eqXS, ev_neXI, ev_neXS, ev_neXB, ev_eqXB, ev_eqXR, ev_neXR, ev_nil2, ev_eqK, ev_neK, ev_meth, ev_meth0, ev_mth1, ev_mth2, ev_mth3, ev_append, ev_m0, ev_m0K, ev_str, ev_for, ev_miR1, ev_rg1K, ev_miL, ev_liK, ev_miT, ev_tiK, ev_lc, ev_wipe0, ev_wipeS, ev_yes, ev_lenSet, ev_lenSetK, ev_listR, ev_lrK, ev_put2, ev_p2A, ev_p2K, ev_p2E, ev_put1, ev_pt1, ev_addXI, ev_addXB, ev_addXS, ev_addXT, ev_addXL, ev_subXI, ev_subXB, ev_mulXI, ev_mulXB, ev_mulXL, ev_negXI, ev_negXB, ev_strXI, ev_strXB, ev_mulYI, ev_mulYB, ev_mulYL, ev_mulYT, ev_dnew, ev_dnewT, ev_dgetE, ev_getD, ev_gD, ev_keyI, ev_keyS, ev_dgK, ev_dinE, ev_diK, ev_dputE, ev_dpK, ev_dget2E, ev_isDA, ev_isSome, ev_isNone, ev_dg2K, ev_dpop2E, ev_dp2K, ev_dp3S, ev_dp3N, ev_sortedE, ev_srO1, ev_srO2, ev_gLd, ev_srKS, ev_srKI, ev_gDT, ev_gT, ev_tinE, ev_tiKK, ev_keysA, ev_keysN, ev_keysC, ev_dputTE, ev_dptK, ev_dispE, ev_mpN, ev_mpC, ev_pcK, ev_dsK, ev_dsK2, ev_lc2E, List.getElem?_cons_zero, List.getElem?_cons_succ, List.set_cons_zero, List.set_cons_succ, List.length_cons, List.length_nil, List.cons_append, List.nil_append, if_true, if_false, Bool.false_eq_true, Bool.true_eq_false, reduceIte, Bool.not_true, Bool.not_false, Bool.and_true, Bool.true_and, Bool.and_false, Bool.false_and, Bool.or_true, Bool.true_or, Bool.or_false, Bool.false_or, decide_eq_true_eq, Nat.reduceAdd, Nat.reduceLeDiff, Nat.zero_add, Int.reduceLT, Int.reduceLE, Int.reduceEq, Int.reduceNeg, Nat.reduceEqDiff, and_self, and_true, true_and, decide_true, decide_false, eq_self, ite_true, ite_false, Int.reduceSub, Int.reduceAdd, Int.cast_ofNat_Int, Int.natCast_add, Int.cast_ofNat_Int, Nat.reduceSub, Nat.add_assoc, String.reduceBEq, String.reduceEq, Bool.or_not_self, beq_self_eq_true, hA_un, c3, shiftR]
  · rw [maps_hA]
    exact k
noncomputable def cAgain : ME := (mLc (miL (mVar 3)) (mgName 12) (mTest (mOp oNeX (mOp oIxD (mVar 12) (mC (.int 2))) (mC (.int 999)))) (mOp oAddX (mOp oAddX (mSl oSl (mVar 12) mNoPart (mPart (mC (.int 2)))) (mTup (mCons (mOp oMod (mOp oMulX (mOp oIxD (mVar 12) (mC (.int 2))) (mC (.int 500))) (mC (.int 999))) mNil))) (mSl oSl (mVar 12) (mPart (mC (.int 3))) mNoPart)) [12])
theorem cAgain_wp {S : Sto} {n : Nat} {h : List HRow} {x0 : A} {z1 z2 z4 z5 z6 z7 z8 z9 z10 z11 : Option A} {Q : A → Sto → Prop} (e : S[n]? = some (.lst (h.map hA))) (hl : h.length ≤ 61) (k : ∀ l, Q (.ref S.length) (S ++ .lst (((h.filter not999).map callR).map hA) :: l)) : okR (cAgain (envC x0 z1 z2 (some (.ref n)) z4 z5 z6 z7 z8 z9 z10 z11) S) Q := by
  have hn := (List.getElem?_eq_some_iff.mp e).1
  unfold cAgain envC
  simp only [wp_okR, wp_okF, wp_fin, wp_next, wp_then, wp_bind, wp_nox, wp_tK, wp_bK, wp_fr, wp_fn, wp_nn, wp_nr, wp_nb, wp_nc, wp_ln, wp_lc, wp_lb, wp_lr, wp_jn, wp_jc, ev_bok, ev_bno, ev_bex, ev_tok, ev_tno, ev_tex, ev_nnx, ev_nrt, ev_nbk, ev_nct, ev_nex, ev_nno, ev_frt, ev_fnx, ev_fex, ev_xok, ev_lsome, ev_lnone, ev_seq, ev_if, ev_ret, ev_retN, ev_drop, ev_nop, ev_brk, ev_cont, ev_asgN, ev_asgT, ev_asgO, ev_mgTup, ev_mgN, ev_mgC, ev_mg0, ev_putL, ev_putO, ev_var, ev_vr, ev_c, ev_op, ev_un, ev_test, ev_tb, ev_notT, ev_andT, ev_orT, ev_ifE, ev_not, ev_nb, ev_and, ev_andK, ev_or, ev_orK, ev_chain, ev_chK, ev_nil, ev_cons, ev_tup, ev_lst, ev_new, ev_call, ev_cb, ev_size, ev_addI, ev_addS, ev_addT, ev_addL, ev_catO, ev_sub, ev_mul, ev_div, ev_mod, ev_p5, ev_p6, ev_p12, ev_p18, ev_p30, ev_neg, ev_ltI, ev_ltS, ev_leI, ev_leS, ev_gt, ev_ge, ev_eqI, ev_eqS, ev_neI, ev_neS, ev_neB, ev_eqB, ev_is, ev_isnot, ev_ixT, ev_ixS, ev_ixR, ev_ixL, ev_ixK, ev_getL, ev_getM, ev_gL, ev_gM, ev_at0, ev_at1, ev_at2, ev_at3, ev_at4, ev_lenS, ev_lenR, ev_lenT, ev_lenL, ev_lenO, ev_lenD, ev_abs, ev_min2, ev_max2, ev_intI, ev_intB, ev_set, ev_fc, ev_setset, ev_last, ev_appk, ev_app0, ev_setk, ev_set0, ev_assoc, ev_lapp, ev_lappA, ev_sl, ev_nopart, ev_part, ev_ptK, ev_slT, ev_slS, ev_slR, ev_slK, ev_tyN, ev_tyB, ev_tyI, ev_tyS, ev_tyT, ev_tyL, ev_tyR, ev_tyRL, ev_isi, ev_isi1, ev_isi2, ev_isi3, ev_isi4, ev_isi5, ev_isiT, ev_isi2K, ev_isTy, ev_list, ev_listK, ev_tuple, ev_tupK, ev_getST, ev_getSR, ev_getSL, ev_all, ev_allK, ev_eqXI, ev_eqXS, ev_neXI, ev_neXS, ev_neXB, ev_eqXB, ev_eqXR, ev_neXR, ev_nil2, ev_eqK, ev_neK, ev_meth, ev_meth0, ev_mth1, ev_mth2, ev_mth3, ev_append, ev_m0, ev_m0K, ev_str, ev_for, ev_miR1, ev_rg1K, ev_miL, ev_liK, ev_miT, ev_tiK, ev_lc, ev_wipe0, ev_wipeS, ev_yes, ev_lenSet, ev_lenSetK, ev_listR, ev_lrK, ev_put2, ev_p2A, ev_p2K, ev_p2E, ev_put1, ev_pt1, ev_addXI, ev_addXB, ev_addXS, ev_addXT, ev_addXL, ev_subXI, ev_subXB, ev_mulXI, ev_mulXB, ev_mulXL, ev_negXI, ev_negXB, ev_strXI, ev_strXB, ev_mulYI, ev_mulYB, ev_mulYL, ev_mulYT, ev_dnew, ev_dnewT, ev_dgetE, ev_getD, ev_gD, ev_keyI, ev_keyS, ev_dgK, ev_dinE, ev_diK, ev_dputE, ev_dpK, ev_dget2E, ev_isDA, ev_isSome, ev_isNone, ev_dg2K, ev_dpop2E, ev_dp2K, ev_dp3S, ev_dp3N, ev_sortedE, ev_srO1, ev_srO2, ev_gLd, ev_srKS, ev_srKI, ev_gDT, ev_gT, ev_tinE, ev_tiKK, ev_keysA, ev_keysN, ev_keysC, ev_dputTE, ev_dptK, ev_dispE, ev_mpN, ev_mpC, ev_pcK, ev_dsK, ev_dsK2, ev_lc2E, List.getElem?_cons_zero, List.getElem?_cons_succ, List.set_cons_zero, List.set_cons_succ, List.length_cons, List.length_nil, List.cons_append, List.nil_append, if_true, if_false, Bool.false_eq_true, Bool.true_eq_false, reduceIte, Bool.not_true, Bool.not_false, Bool.and_true, Bool.true_and, Bool.and_false, Bool.false_and, Bool.or_true, Bool.true_or, Bool.or_false, Bool.false_or, decide_eq_true_eq, Nat.reduceAdd, Nat.reduceLeDiff, Nat.zero_add, Int.reduceLT, Int.reduceLE, Int.reduceEq, Int.reduceNeg, Nat.reduceEqDiff, and_self, and_true, true_and, decide_true, decide_false, eq_self, ite_true, ite_false, Int.reduceSub, Int.reduceAdd, Int.cast_ofNat_Int, Int.natCast_add, Int.cast_ofNat_Int, Nat.reduceSub, Nat.add_assoc, String.reduceBEq, String.reduceEq, Bool.or_not_self, beq_self_eq_true, e]
  refine lc_W (filtA not999) (mapA callR) (fun l => ?_) (by rw [List.length_map]; omega) (fun x hx => ?_) (fun l' => ?_)
  · show getL _ (.ref n) = _
    rw [ev_getL, List.getElem?_append_left hn, e]
    rfl
  · obtain ⟨r, hr, rfl⟩ := List.mem_map.mp hx
    refine ⟨_, rfl, fun l => ?_, fun _ l => ?_⟩
    · simp only [wp_okR, wp_okF, wp_fin, wp_next, wp_then, wp_bind, wp_nox, wp_tK, wp_bK, wp_fr, wp_fn, wp_nn, wp_nr, wp_nb, wp_nc, wp_ln, wp_lc, wp_lb, wp_lr, wp_jn, wp_jc, ev_bok, ev_bno, ev_bex, ev_tok, ev_tno, ev_tex, ev_nnx, ev_nrt, ev_nbk, ev_nct, ev_nex, ev_nno, ev_frt, ev_fnx, ev_fex, ev_xok, ev_lsome, ev_lnone, ev_seq, ev_if, ev_ret, ev_retN, ev_drop, ev_nop, ev_brk, ev_cont, ev_asgN, ev_asgT, ev_asgO, ev_mgTup, ev_mgN, ev_mgC, ev_mg0, ev_putL, ev_putO, ev_var, ev_vr, ev_c, ev_op, ev_un, ev_test, ev_tb, ev_notT, ev_andT, ev_orT, ev_ifE, ev_not, ev_nb, ev_and, ev_andK, ev_or, ev_orK, ev_chain, ev_chK, ev_nil, ev_cons, ev_tup, ev_lst, ev_new, ev_call, ev_cb, ev_size, ev_addI, ev_addS, ev_addT, ev_addL, ev_catO, ev_sub, ev_mul, ev_div, ev_mod, ev_p5, ev_p6, ev_p12, ev_p18, ev_p30, ev_neg, ev_ltI, ev_ltS, ev_leI, ev_leS, ev_gt, ev_ge, ev_eqI, ev_eqS, ev_neI, ev_neS, ev_neB, ev_eqB, ev_is, ev_isnot, ev_ixT, ev_ixS, ev_ixR, ev_ixL, ev_ixK, ev_getL, ev_getM, ev_gL, ev_gM, ev_at0, ev_at1, ev_at2, ev_at3, ev_at4, ev_lenS, ev_lenR, ev_lenT, ev_lenL, ev_lenO, ev_lenD, ev_abs, ev_min2, ev_max2, ev_intI, ev_intB, ev_set, ev_fc, ev_setset, ev_last, ev_appk, ev_app0, ev_setk, ev_set0, ev_assoc, ev_lapp, ev_lappA, ev_sl, ev_nopart, ev_part, ev_ptK, ev_slT, ev_slS, ev_slR, ev_slK, ev_tyN, ev_tyB, ev_tyI, ev_tyS, ev_tyT, ev_tyL, ev_tyR, ev_tyRL, ev_isi, ev_isi1, ev_isi2, ev_isi3, ev_isi4, ev_isi5, ev_isiT, ev_isi2K, ev_isTy, ev_list, ev_listK, ev_tuple, ev_tupK, ev_getST, ev_getSR, ev_getSL, ev_all, ev_allK, ev_eqXI, ev_eqXS, ev_neXI, ev_neXS, ev_neXB, ev_eqXB, ev_eqXR, ev_neXR, ev_nil2, ev_eqK, ev_neK, ev_meth, ev_meth0, ev_mth1, ev_mth2, ev_mth3, ev_append, ev_m0, ev_m0K, ev_str, ev_for, ev_miR1, ev_rg1K, ev_miL, ev_liK, ev_miT, ev_tiK, ev_lc, ev_wipe0, ev_wipeS, ev_yes, ev_lenSet, ev_lenSetK, ev_listR, ev_lrK, ev_put2, ev_p2A, ev_p2K, ev_p2E, ev_put1, ev_pt1, ev_addXI, ev_addXB, ev_addXS, ev_addXT, ev_addXL, ev_subXI, ev_subXB, ev_mulXI, ev_mulXB, ev_mulXL, ev_negXI, ev_negXB, ev_strXI, ev_strXB, ev_mulYI, ev_mulYB, ev_mulYL, ev_mulYT, ev_dnew, ev_dnewT, ev_dgetE, ev_getD, ev_gD, ev_keyI, ev_keyS, ev_dgK, ev_dinE, ev_diK, ev_dputE, ev_dpK, ev_dget2E, ev_isDA, ev_isSome, ev_isNone, ev_dg2K, ev_dpop2E, ev_dp2K, ev_dp3S, ev_dp3N, ev_sortedE, ev_srO1, ev_srO2, ev_gLd, ev_srKS, ev_srKI, ev_gDT, ev_gT, ev_tinE, ev_tiKK, ev_keysA, ev_keysN, ev_keysC, ev_dputTE, ev_dptK, ev_dispE, ev_mpN, ev_mpC, ev_pcK, ev_dsK, ev_dsK2, ev_lc2E, List.getElem?_cons_zero, List.getElem?_cons_succ, List.set_cons_zero, List.set_cons_succ, List.length_cons, List.length_nil, List.cons_append, List.nil_append, if_true, if_false, Bool.false_eq_true, Bool.true_eq_false, reduceIte, Bool.not_true, Bool.not_false, Bool.and_true, Bool.true_and, Bool.and_false, Bool.false_and, Bool.or_true, Bool.true_or, Bool.or_false, Bool.false_or, decide_eq_true_eq, Nat.reduceAdd, Nat.reduceLeDiff, Nat.zero_add, Int.reduceLT, Int.reduceLE, Int.reduceEq, Int.reduceNeg, Nat.reduceEqDiff, and_self, and_true, true_and, decide_true, decide_false, eq_self, ite_true, ite_false, Int.reduceSub, Int.reduceAdd, Int.cast_ofNat_Int, Int.natCast_add, Int.cast_ofNat_Int, Nat.reduceSub, Nat.add_assoc, String.reduceBEq, String.reduceEq, Bool.or_not_self, beq_self_eq_true, filtA_hA, not999]
      simp only [wp_okR, wp_okF, wp_fin, wp_next, wp_then, wp_bind, wp_nox, wp_tK, wp_bK, wp_fr, wp_fn, wp_nn, wp_nr, wp_nb, wp_nc, wp_ln, wp_lc, wp_lb, wp_lr, wp_jn, wp_jc, ev_bok, ev_bno, ev_bex, ev_tok, ev_tno, ev_tex, ev_nnx, ev_nrt, ev_nbk, ev_nct, ev_nex, ev_nno, ev_frt, ev_fnx, ev_fex, ev_xok, ev_lsome, ev_lnone, ev_seq, ev_if, ev_ret, ev_retN, ev_drop, ev_nop, ev_brk, ev_cont, ev_asgN, ev_asgT, ev_asgO, ev_mgTup, ev_mgN, ev_mgC, ev_mg0, ev_putL, ev_putO, ev_var, ev_vr, ev_c, ev_op, ev_un, ev_test, ev_tb, ev_notT, ev_andT, ev_orT, ev_ifE, ev_not, ev_nb, ev_and, ev_andK, ev_or, ev_orK, ev_chain, ev_chK, ev_nil, ev_cons, ev_tup, ev_lst, ev_new, ev_call, ev_cb, ev_size, ev_addI, ev_addS, ev_addT, ev_addL, ev_catO, ev_sub, ev_mul, ev_div, ev_mod, ev_p5, ev_p6, ev_p12, ev_p18, ev_p30, ev_neg, ev_ltI, ev_ltS, ev_leI, ev_leS, ev_gt, ev_ge, ev_eqI, ev_eqS, ev_neI, ev_neS, ev_neB, ev_eqB, ev_is, ev_isnot, ev_ixT, ev_ixS, ev_ixR, ev_ixL, ev_ixK, ev_getL, ev_getM, ev_gL, ev_gM, ev_at0, ev_at1, ev_at2, ev_at3, ev_at4, ev_lenS, ev_lenR, ev_lenT, ev_lenL, ev_lenO, ev_lenD, ev_abs, ev_min2, ev_max2, ev_intI, ev_intB, ev_set, ev_fc, ev_setset, ev_last, ev_appk, ev_app0, ev_setk, ev_set0, ev_assoc, ev_lapp, ev_lappA, ev_sl, ev_nopart, ev_part, ev_ptK, ev_slT, ev_slS, ev_slR, ev_slK, ev_tyN, ev_tyB, ev_tyI, ev_tyS, ev_tyT, ev_tyL, ev_tyR, ev_tyRL, ev_isi, ev_isi1, ev_isi2, ev_isi3, ev_isi4, ev_isi5, ev_isiT, ev_isi2K, ev_isTy, ev_list, ev_listK, ev_tuple, ev_tupK, ev_getST, ev_getSR, ev_getSL, ev_all, ev_allK, ev_eqXI, ev_eqXS, ev_neXI, ev_neXS, ev_neXB, ev_eqXB, ev_eqXR, ev_neXR, ev_nil2, ev_eqK, ev_neK, ev_meth, ev_meth0, ev_mth1, ev_mth2, ev_mth3, ev_append, ev_m0, ev_m0K, ev_str, ev_for, ev_miR1, ev_rg1K, ev_miL, ev_liK, ev_miT, ev_tiK, ev_lc, ev_wipe0, ev_wipeS, ev_yes, ev_lenSet, ev_lenSetK, ev_listR, ev_lrK, ev_put2, ev_p2A, ev_p2K, ev_p2E, ev_put1, ev_pt1, ev_addXI, ev_addXB, ev_addXS, ev_addXT, ev_addXL, ev_subXI, ev_subXB, ev_mulXI, ev_mulXB, ev_mulXL, ev_negXI, ev_negXB, ev_strXI, ev_strXB, ev_mulYI, ev_mulYB, ev_mulYL, ev_mulYT, ev_dnew, ev_dnewT, ev_dgetE, ev_getD, ev_gD, ev_keyI, ev_keyS, ev_dgK, ev_dinE, ev_diK, ev_dputE, ev_dpK, ev_dget2E, ev_isDA, ev_isSome, ev_isNone, ev_dg2K, ev_dpop2E, ev_dp2K, ev_dp3S, ev_dp3N, ev_sortedE, ev_srO1, ev_srO2, ev_gLd, ev_srKS, ev_srKI, ev_gDT, ev_gT, ev_tinE, ev_tiKK, ev_keysA, ev_keysN, ev_keysC, ev_dputTE, ev_dptK, ev_dispE, ev_mpN, ev_mpC, ev_pcK, ev_dsK, ev_dsK2, ev_lc2E, List.getElem?_cons_zero, List.getElem?_cons_succ, List.set_cons_zero, List.set_cons_succ, List.length_cons, List.length_nil, List.cons_append, List.nil_append, if_true, if_false, Bool.false_eq_true, Bool.true_eq_false, reduceIte, Bool.not_true, Bool.not_false, Bool.and_true, Bool.true_and, Bool.and_false, Bool.false_and, Bool.or_true, Bool.true_or, Bool.or_false, Bool.false_or, decide_eq_true_eq, Nat.reduceAdd, Nat.reduceLeDiff, Nat.zero_add, Int.reduceLT, Int.reduceLE, Int.reduceEq, Int.reduceNeg, Nat.reduceEqDiff, and_self, and_true, true_and, decide_true, decide_false, eq_self, ite_true, ite_false, Int.reduceSub, Int.reduceAdd, Int.cast_ofNat_Int, Int.natCast_add, Int.cast_ofNat_Int, Nat.reduceSub, Nat.add_assoc, String.reduceBEq, String.reduceEq, Bool.or_not_self, beq_self_eq_true, hA_un]
      exact ⟨[], by simp⟩
    · have c2 : ∀ a b c d e : A, cutA [a, b, c, d, e] none (some 2) = [a, b] := fun _ _ _ _ _ => rfl
      have c3 : ∀ a b c d e : A, cutA [a, b, c, d, e] (some 3) none = [d, e] := fun _ _ _ _ _ => rfl
      have m5 : cMul r.v 500 = true := cMul_r (by decide)
      simp only [wp_okR, wp_okF, wp_fin, wp_next, wp_then, wp_bind, wp_nox, wp_tK, wp_bK, wp_fr, wp_fn, wp_nn, wp_nr, wp_nb, wp_nc, wp_ln, wp_lc, wp_lb, wp_lr, wp_jn, wp_jc, ev_bok, ev_bno, ev_bex, ev_tok, ev_tno, ev_tex, ev_nnx, ev_nrt, ev_nbk, ev_nct, ev_nex, ev_nno, ev_frt, ev_fnx, ev_fex, ev_xok, ev_lsome, ev_lnone, ev_seq, ev_if, ev_ret, ev_retN, ev_drop, ev_nop, ev_brk, ev_cont, ev_asgN, ev_asgT, ev_asgO, ev_mgTup, ev_mgN, ev_mgC, ev_mg0, ev_putL, ev_putO, ev_var, ev_vr, ev_c, ev_op, ev_un, ev_test, ev_tb, ev_notT, ev_andT, ev_orT, ev_ifE, ev_not, ev_nb, ev_and, ev_andK, ev_or, ev_orK, ev_chain, ev_chK, ev_nil, ev_cons, ev_tup, ev_lst, ev_new, ev_call, ev_cb, ev_size, ev_addI, ev_addS, ev_addT, ev_addL, ev_catO, ev_sub, ev_mul, ev_div, ev_mod, ev_p5, ev_p6, ev_p12, ev_p18, ev_p30, ev_neg, ev_ltI, ev_ltS, ev_leI, ev_leS, ev_gt, ev_ge, ev_eqI, ev_eqS, ev_neI, ev_neS, ev_neB, ev_eqB, ev_is, ev_isnot, ev_ixT, ev_ixS, ev_ixR, ev_ixL, ev_ixK, ev_getL, ev_getM, ev_gL, ev_gM, ev_at0, ev_at1, ev_at2, ev_at3, ev_at4, ev_lenS, ev_lenR, ev_lenT, ev_lenL, ev_lenO, ev_lenD, ev_abs, ev_min2, ev_max2, ev_intI, ev_intB, ev_set, ev_fc, ev_setset, ev_last, ev_appk, ev_app0, ev_setk, ev_set0, ev_assoc, ev_lapp, ev_lappA, ev_sl, ev_nopart, ev_part, ev_ptK, ev_slT, ev_slS, ev_slR, ev_slK, ev_tyN, ev_tyB, ev_tyI, ev_tyS, ev_tyT, ev_tyL, ev_tyR, ev_tyRL, ev_isi, ev_isi1, ev_isi2, ev_isi3, ev_isi4, ev_isi5, ev_isiT, ev_isi2K, ev_isTy, ev_list, ev_listK, ev_tuple, ev_tupK, ev_getST, ev_getSR, ev_getSL, ev_all, ev_allK, ev_eqXI, ev_eqXS, ev_neXI, ev_neXS, ev_neXB, ev_eqXB, ev_eqXR, ev_neXR, ev_nil2, ev_eqK, ev_neK, ev_meth, ev_meth0, ev_mth1, ev_mth2, ev_mth3, ev_append, ev_m0, ev_m0K, ev_str, ev_for, ev_miR1, ev_rg1K, ev_miL, ev_liK, ev_miT, ev_tiK, ev_lc, ev_wipe0, ev_wipeS, ev_yes, ev_lenSet, ev_lenSetK, ev_listR, ev_lrK, ev_put2, ev_p2A, ev_p2K, ev_p2E, ev_put1, ev_pt1, ev_addXI, ev_addXB, ev_addXS, ev_addXT, ev_addXL, ev_subXI, ev_subXB, ev_mulXI, ev_mulXB, ev_mulXL, ev_negXI, ev_negXB, ev_strXI, ev_strXB, ev_mulYI, ev_mulYB, ev_mulYL, ev_mulYT, ev_dnew, ev_dnewT, ev_dgetE, ev_getD, ev_gD, ev_keyI, ev_keyS, ev_dgK, ev_dinE, ev_diK, ev_dputE, ev_dpK, ev_dget2E, ev_isDA, ev_isSome, ev_isNone, ev_dg2K, ev_dpop2E, ev_dp2K, ev_dp3S, ev_dp3N, ev_sortedE, ev_srO1, ev_srO2, ev_gLd, ev_srKS, ev_srKI, ev_gDT, ev_gT, ev_tinE, ev_tiKK, ev_keysA, ev_keysN, ev_keysC, ev_dputTE, ev_dptK, ev_dispE, ev_mpN, ev_mpC, ev_pcK, ev_dsK, ev_dsK2, ev_lc2E, List.getElem?_cons_zero, List.getElem?_cons_succ, List.set_cons_zero, List.set_cons_succ, List.length_cons, List.length_nil, List.cons_append, List.nil_append, if_true, if_false, Bool.false_eq_true, Bool.true_eq_false, reduceIte, Bool.not_true, Bool.not_false, Bool.and_true, Bool.true_and, Bool.and_false, Bool.false_and, Bool.or_true, Bool.true_or, Bool.or_false, Bool.false_or, decide_eq_true_eq, Nat.reduceAdd, Nat.reduceLeDiff, Nat.zero_add, Int.reduceLT, Int.reduceLE, Int.reduceEq, Int.reduceNeg, Nat.reduceEqDiff, and_self, and_true, true_and, decide_true, decide_false, eq_self, ite_true, ite_false, Int.reduceSub, Int.reduceAdd, Int.cast_ofNat_Int, Int.natCast_add, Int.cast_ofNat_Int, Nat.reduceSub, Nat.add_assoc, String.reduceBEq, String.reduceEq, Bool.or_not_self, beq_self_eq_true, mapA_hA]
      simp only [wp_okR, wp_okF, wp_fin, wp_next, wp_then, wp_bind, wp_nox, wp_tK, wp_bK, wp_fr, wp_fn, wp_nn, wp_nr, wp_nb, wp_nc, wp_ln, wp_lc, wp_lb, wp_lr, wp_jn, wp_jc, ev_bok, ev_bno, ev_bex, ev_tok, ev_tno, ev_tex, ev_nnx, ev_nrt, ev_nbk, ev_nct, ev_nex, ev_nno, ev_frt, ev_fnx, ev_fex, ev_xok, ev_lsome, ev_lnone, ev_seq, ev_if, ev_ret, ev_retN, ev_drop, ev_nop, ev_brk, ev_cont, ev_asgN, ev_asgT, ev_asgO, ev_mgTup, ev_mgN, ev_mgC, ev_mg0, ev_putL, ev_putO, ev_var, ev_vr, ev_c, ev_op, ev_un, ev_test, ev_tb, ev_notT, ev_andT, ev_orT, ev_ifE, ev_not, ev_nb, ev_and, ev_andK, ev_or, ev_orK, ev_chain, ev_chK, ev_nil, ev_cons, ev_tup, ev_lst, ev_new, ev_call, ev_cb, ev_size, ev_addI, ev_addS, ev_addT, ev_addL, ev_catO, ev_sub, ev_mul, ev_div, ev_mod, ev_p5, ev_p6, ev_p12, ev_p18, ev_p30, ev_neg, ev_ltI, ev_ltS, ev_leI, ev_leS, ev_gt, ev_ge, ev_eqI, ev_eqS, ev_neI, ev_neS, ev_neB, ev_eqB, ev_is, ev_isnot, ev_ixT, ev_ixS, ev_ixR, ev_ixL, ev_ixK, ev_getL, ev_getM, ev_gL, ev_gM, ev_at0, ev_at1, ev_at2, ev_at3, ev_at4, ev_lenS, ev_lenR, ev_lenT, ev_lenL, ev_lenO, ev_lenD, ev_abs, ev_min2, ev_max2, ev_intI, ev_intB, ev_set, ev_fc, ev_setset, ev_last, ev_appk, ev_app0, ev_setk, ev_set0, ev_assoc, ev_lapp, ev_lappA, ev_sl, ev_nopart, ev_part, ev_ptK, ev_slT, ev_slS, ev_slR, ev_slK, ev_tyN, ev_tyB, ev_tyI, ev_tyS, ev_tyT, ev_tyL, ev_tyR, ev_tyRL, ev_isi, ev_isi1, ev_isi2, ev_isi3, ev_isi4, ev_isi5, ev_isiT, ev_isi2K, ev_isTy, ev_list, ev_listK, ev_tuple, ev_tupK, ev_getST, ev_getSR, ev_getSL, ev_all, ev_allK, ev_eqXI, ev_eqXS, ev_neXI, ev_neXS, ev_neXB, ev_eqXB, ev_eqXR, ev_neXR, ev_nil2, ev_eqK, ev_neK, ev_meth, ev_meth0, ev_mth1, ev_mth2, ev_mth3, ev_append, ev_m0, ev_m0K, ev_str, ev_for, ev_miR1, ev_rg1K, ev_miL, ev_liK, ev_miT, ev_tiK, ev_lc, ev_wipe0, ev_wipeS, ev_yes, ev_lenSet, ev_lenSetK, ev_listR, ev_lrK, ev_put2, ev_p2A, ev_p2K, ev_p2E, ev_put1, ev_pt1, ev_addXI, ev_addXB, ev_addXS, ev_addXT, ev_addXL, ev_subXI, ev_subXB, ev_mulXI, ev_mulXB, ev_mulXL, ev_negXI, ev_negXB, ev_strXI, ev_strXB, ev_mulYI, ev_mulYB, ev_mulYL, ev_mulYT, ev_dnew, ev_dnewT, ev_dgetE, ev_getD, ev_gD, ev_keyI, ev_keyS, ev_dgK, ev_dinE, ev_diK, ev_dputE, ev_dpK, ev_dget2E, ev_isDA, ev_isSome, ev_isNone, ev_dg2K, ev_dpop2E, ev_dp2K, ev_dp3S, ev_dp3N, ev_sortedE, ev_srO1, ev_srO2, ev_gLd, ev_srKS, ev_srKI, ev_gDT, ev_gT, ev_tinE, ev_tiKK, ev_keysA, ev_keysN, ev_keysC, ev_dputTE, ev_dptK, ev_dispE, ev_mpN, ev_mpC, ev_pcK, ev_dsK, ev_dsK2, ev_lc2E, List.getElem?_cons_zero, List.getElem?_cons_succ, List.set_cons_zero, List.set_cons_succ, List.length_cons, List.length_nil, List.cons_append, List.nil_append, if_true, if_false, Bool.false_eq_true, Bool.true_eq_false, reduceIte, Bool.not_true, Bool.not_false, Bool.and_true, Bool.true_and, Bool.and_false, Bool.false_and, Bool.or_true, Bool.true_or, Bool.or_false, Bool.false_or, decide_eq_true_eq, Nat.reduceAdd, Nat.reduceLeDiff, Nat.zero_add, Int.reduceLT, Int.reduceLE, Int.reduceEq, Int.reduceNeg, Nat.reduceEqDiff, and_self, and_true, true_and, decide_true, decide_false, eq_self, ite_true, ite_false, Int.reduceSub, Int.reduceAdd, Int.cast_ofNat_Int, Int.natCast_add, Int.cast_ofNat_Int, Nat.reduceSub, Nat.add_assoc, String.reduceBEq, String.reduceEq, Bool.or_not_self, beq_self_eq_true, hA_un, c2, c3, m5, callR, newV]
      exact ⟨[], by simp⟩
  · rw [filts_hA, maps_hA]
    exact k l'
noncomputable def cReads : ME := (mLc (miL (mVar 3)) (mgName 12) (mAndT (mTest (mOp oEqX (mOp oIxD (mVar 12) (mC (.int 1))) (mC (.str "read")))) (mTest (mOp oNeX (mOp oIxD (mVar 12) (mC (.int 2))) (mC (.int 0))))) (mVar 12) [12])
def isRd (r : HRow) : Bool := !r.wr && !decide (r.v = 0)
theorem kR (w : Bool) : decide (kindS w = ("read" : Str)) = !w := by cases w <;> decide +kernel
theorem kW (w : Bool) : decide (kindS w = ("write" : Str)) = w := by cases w <;> decide +kernel
theorem cReads_wp {S : Sto} {n : Nat} {h : List HRow} {x0 : A} {z1 z2 z4 z5 z6 z7 z8 z9 z10 z11 : Option A} {Q : A → Sto → Prop} (e : S[n]? = some (.lst (h.map hA))) (hl : h.length ≤ 61) (k : ∀ l, Q (.ref S.length) (S ++ .lst ((h.filter isRd).map hA) :: l)) : okR (cReads (envC x0 z1 z2 (some (.ref n)) z4 z5 z6 z7 z8 z9 z10 z11) S) Q := by
  have hn := (List.getElem?_eq_some_iff.mp e).1
  unfold cReads envC
  simp only [wp_okR, wp_okF, wp_fin, wp_next, wp_then, wp_bind, wp_nox, wp_tK, wp_bK, wp_fr, wp_fn, wp_nn, wp_nr, wp_nb, wp_nc, wp_ln, wp_lc, wp_lb, wp_lr, wp_jn, wp_jc, ev_bok, ev_bno, ev_bex, ev_tok, ev_tno, ev_tex, ev_nnx, ev_nrt, ev_nbk, ev_nct, ev_nex, ev_nno, ev_frt, ev_fnx, ev_fex, ev_xok, ev_lsome, ev_lnone, ev_seq, ev_if, ev_ret, ev_retN, ev_drop, ev_nop, ev_brk, ev_cont, ev_asgN, ev_asgT, ev_asgO, ev_mgTup, ev_mgN, ev_mgC, ev_mg0, ev_putL, ev_putO, ev_var, ev_vr, ev_c, ev_op, ev_un, ev_test, ev_tb, ev_notT, ev_andT, ev_orT, ev_ifE, ev_not, ev_nb, ev_and, ev_andK, ev_or, ev_orK, ev_chain, ev_chK, ev_nil, ev_cons, ev_tup, ev_lst, ev_new, ev_call, ev_cb, ev_size, ev_addI, ev_addS, ev_addT, ev_addL, ev_catO, ev_sub, ev_mul, ev_div, ev_mod, ev_p5, ev_p6, ev_p12, ev_p18, ev_p30, ev_neg, ev_ltI, ev_ltS, ev_leI, ev_leS, ev_gt, ev_ge, ev_eqI, ev_eqS, ev_neI, ev_neS, ev_neB, ev_eqB, ev_is, ev_isnot, ev_ixT, ev_ixS, ev_ixR, ev_ixL, ev_ixK, ev_getL, ev_getM, ev_gL, ev_gM, ev_at0, ev_at1, ev_at2, ev_at3, ev_at4, ev_lenS, ev_lenR, ev_lenT, ev_lenL, ev_lenO, ev_lenD, ev_abs, ev_min2, ev_max2, ev_intI, ev_intB, ev_set, ev_fc, ev_setset, ev_last, ev_appk, ev_app0, ev_setk, ev_set0, ev_assoc, ev_lapp, ev_lappA, ev_sl, ev_nopart, ev_part, ev_ptK, ev_slT, ev_slS, ev_slR, ev_slK, ev_tyN, ev_tyB, ev_tyI, ev_tyS, ev_tyT, ev_tyL, ev_tyR, ev_tyRL, ev_isi, ev_isi1, ev_isi2, ev_isi3, ev_isi4, ev_isi5, ev_isiT, ev_isi2K, ev_isTy, ev_list, ev_listK, ev_tuple, ev_tupK, ev_getST, ev_getSR, ev_getSL, ev_all, ev_allK, ev_eqXI, ev_eqXS, ev_neXI, ev_neXS, ev_neXB, ev_eqXB, ev_eqXR, ev_neXR, ev_nil2, ev_eqK, ev_neK, ev_meth, ev_meth0, ev_mth1, ev_mth2, ev_mth3, ev_append, ev_m0, ev_m0K, ev_str, ev_for, ev_miR1, ev_rg1K, ev_miL, ev_liK, ev_miT, ev_tiK, ev_lc, ev_wipe0, ev_wipeS, ev_yes, ev_lenSet, ev_lenSetK, ev_listR, ev_lrK, ev_put2, ev_p2A, ev_p2K, ev_p2E, ev_put1, ev_pt1, ev_addXI, ev_addXB, ev_addXS, ev_addXT, ev_addXL, ev_subXI, ev_subXB, ev_mulXI, ev_mulXB, ev_mulXL, ev_negXI, ev_negXB, ev_strXI, ev_strXB, ev_mulYI, ev_mulYB, ev_mulYL, ev_mulYT, ev_dnew, ev_dnewT, ev_dgetE, ev_getD, ev_gD, ev_keyI, ev_keyS, ev_dgK, ev_dinE, ev_diK, ev_dputE, ev_dpK, ev_dget2E, ev_isDA, ev_isSome, ev_isNone, ev_dg2K, ev_dpop2E, ev_dp2K, ev_dp3S, ev_dp3N, ev_sortedE, ev_srO1, ev_srO2, ev_gLd, ev_srKS, ev_srKI, ev_gDT, ev_gT, ev_tinE, ev_tiKK, ev_keysA, ev_keysN, ev_keysC, ev_dputTE, ev_dptK, ev_dispE, ev_mpN, ev_mpC, ev_pcK, ev_dsK, ev_dsK2, ev_lc2E, List.getElem?_cons_zero, List.getElem?_cons_succ, List.set_cons_zero, List.set_cons_succ, List.length_cons, List.length_nil, List.cons_append, List.nil_append, if_true, if_false, Bool.false_eq_true, Bool.true_eq_false, reduceIte, Bool.not_true, Bool.not_false, Bool.and_true, Bool.true_and, Bool.and_false, Bool.false_and, Bool.or_true, Bool.true_or, Bool.or_false, Bool.false_or, decide_eq_true_eq, Nat.reduceAdd, Nat.reduceLeDiff, Nat.zero_add, Int.reduceLT, Int.reduceLE, Int.reduceEq, Int.reduceNeg, Nat.reduceEqDiff, and_self, and_true, true_and, decide_true, decide_false, eq_self, ite_true, ite_false, Int.reduceSub, Int.reduceAdd, Int.cast_ofNat_Int, Int.natCast_add, Int.cast_ofNat_Int, Nat.reduceSub, Nat.add_assoc, String.reduceBEq, String.reduceEq, Bool.or_not_self, beq_self_eq_true, e]
  refine lc_W (filtA isRd) id (fun l => ?_) (by rw [List.length_map]; omega) (fun x hx => ?_) (fun l' => ?_)
  · show getL _ (.ref n) = _
    rw [ev_getL, List.getElem?_append_left hn, e]
    rfl
  · obtain ⟨r, hr, rfl⟩ := List.mem_map.mp hx
    refine ⟨_, rfl, fun l => ?_, fun _ l => ?_⟩
    · simp only [wp_okR, wp_okF, wp_fin, wp_next, wp_then, wp_bind, wp_nox, wp_tK, wp_bK, wp_fr, wp_fn, wp_nn, wp_nr, wp_nb, wp_nc, wp_ln, wp_lc, wp_lb, wp_lr, wp_jn, wp_jc, ev_bok, ev_bno, ev_bex, ev_tok, ev_tno, ev_tex, ev_nnx, ev_nrt, ev_nbk, ev_nct, ev_nex, ev_nno, ev_frt, ev_fnx, ev_fex, ev_xok, ev_lsome, ev_lnone, ev_seq, ev_if, ev_ret, ev_retN, ev_drop, ev_nop, ev_brk, ev_cont, ev_asgN, ev_asgT, ev_asgO, ev_mgTup, ev_mgN, ev_mgC, ev_mg0, ev_putL, ev_putO, ev_var, ev_vr, ev_c, ev_op, ev_un, ev_test, ev_tb, ev_notT, ev_andT, ev_orT, ev_ifE, ev_not, ev_nb, ev_and, ev_andK, ev_or, ev_orK, ev_chain, ev_chK, ev_nil, ev_cons, ev_tup, ev_lst, ev_new, ev_call, ev_cb, ev_size, ev_addI, ev_addS, ev_addT, ev_addL, ev_catO, ev_sub, ev_mul, ev_div, ev_mod, ev_p5, ev_p6, ev_p12, ev_p18, ev_p30, ev_neg, ev_ltI, ev_ltS, ev_leI, ev_leS, ev_gt, ev_ge, ev_eqI, ev_eqS, ev_neI, ev_neS, ev_neB, ev_eqB, ev_is, ev_isnot, ev_ixT, ev_ixS, ev_ixR, ev_ixL, ev_ixK, ev_getL, ev_getM, ev_gL, ev_gM, ev_at0, ev_at1, ev_at2, ev_at3, ev_at4, ev_lenS, ev_lenR, ev_lenT, ev_lenL, ev_lenO, ev_lenD, ev_abs, ev_min2, ev_max2, ev_intI, ev_intB, ev_set, ev_fc, ev_setset, ev_last, ev_appk, ev_app0, ev_setk, ev_set0, ev_assoc, ev_lapp, ev_lappA, ev_sl, ev_nopart, ev_part, ev_ptK, ev_slT, ev_slS, ev_slR, ev_slK, ev_tyN, ev_tyB, ev_tyI, ev_tyS, ev_tyT, ev_tyL, ev_tyR, ev_tyRL, ev_isi, ev_isi1, ev_isi2, ev_isi3, ev_isi4, ev_isi5, ev_isiT, ev_isi2K, ev_isTy, ev_list, ev_listK, ev_tuple, ev_tupK, ev_getST, ev_getSR, ev_getSL, ev_all, ev_allK, ev_eqXI, ev_eqXS, ev_neXI, ev_neXS, ev_neXB, ev_eqXB, ev_eqXR, ev_neXR, ev_nil2, ev_eqK, ev_neK, ev_meth, ev_meth0, ev_mth1, ev_mth2, ev_mth3, ev_append, ev_m0, ev_m0K, ev_str, ev_for, ev_miR1, ev_rg1K, ev_miL, ev_liK, ev_miT, ev_tiK, ev_lc, ev_wipe0, ev_wipeS, ev_yes, ev_lenSet, ev_lenSetK, ev_listR, ev_lrK, ev_put2, ev_p2A, ev_p2K, ev_p2E, ev_put1, ev_pt1, ev_addXI, ev_addXB, ev_addXS, ev_addXT, ev_addXL, ev_subXI, ev_subXB, ev_mulXI, ev_mulXB, ev_mulXL, ev_negXI, ev_negXB, ev_strXI, ev_strXB, ev_mulYI, ev_mulYB, ev_mulYL, ev_mulYT, ev_dnew, ev_dnewT, ev_dgetE, ev_getD, ev_gD, ev_keyI, ev_keyS, ev_dgK, ev_dinE, ev_diK, ev_dputE, ev_dpK, ev_dget2E, ev_isDA, ev_isSome, ev_isNone, ev_dg2K, ev_dpop2E, ev_dp2K, ev_dp3S, ev_dp3N, ev_sortedE, ev_srO1, ev_srO2, ev_gLd, ev_srKS, ev_srKI, ev_gDT, ev_gT, ev_tinE, ev_tiKK, ev_keysA, ev_keysN, ev_keysC, ev_dputTE, ev_dptK, ev_dispE, ev_mpN, ev_mpC, ev_pcK, ev_dsK, ev_dsK2, ev_lc2E, List.getElem?_cons_zero, List.getElem?_cons_succ, List.set_cons_zero, List.set_cons_succ, List.length_cons, List.length_nil, List.cons_append, List.nil_append, if_true, if_false, Bool.false_eq_true, Bool.true_eq_false, reduceIte, Bool.not_true, Bool.not_false, Bool.and_true, Bool.true_and, Bool.and_false, Bool.false_and, Bool.or_true, Bool.true_or, Bool.or_false, Bool.false_or, decide_eq_true_eq, Nat.reduceAdd, Nat.reduceLeDiff, Nat.zero_add, Int.reduceLT, Int.reduceLE, Int.reduceEq, Int.reduceNeg, Nat.reduceEqDiff, and_self, and_true, true_and, decide_true, decide_false, eq_self, ite_true, ite_false, Int.reduceSub, Int.reduceAdd, Int.cast_ofNat_Int, Int.natCast_add, Int.cast_ofNat_Int, Nat.reduceSub, Nat.add_assoc, String.reduceBEq, String.reduceEq, Bool.or_not_self, beq_self_eq_true, filtA_hA]
      have := kR r.wr
      cases hw : r.wr with
      | true =>
        rw [hw] at this
        simp only [wp_okR, wp_okF, wp_fin, wp_next, wp_then, wp_bind, wp_nox, wp_tK, wp_bK, wp_fr, wp_fn, wp_nn, wp_nr, wp_nb, wp_nc, wp_ln, wp_lc, wp_lb, wp_lr, wp_jn, wp_jc, ev_bok, ev_bno, ev_bex, ev_tok, ev_tno, ev_tex, ev_nnx, ev_nrt, ev_nbk, ev_nct, ev_nex, ev_nno, ev_frt, ev_fnx, ev_fex, ev_xok, ev_lsome, ev_lnone, ev_seq, ev_if, ev_ret, ev_retN, ev_drop, ev_nop, ev_brk, ev_cont, ev_asgN, ev_asgT, ev_asgO, ev_mgTup, ev_mgN, ev_mgC, ev_mg0, ev_putL, ev_putO, ev_var, ev_vr, ev_c, ev_op, ev_un, ev_test, ev_tb, ev_notT, ev_andT, ev_orT, ev_ifE, ev_not, ev_nb, ev_and, ev_andK, ev_or, ev_orK, ev_chain, ev_chK, ev_nil, ev_cons, ev_tup, ev_lst, ev_new, ev_call, ev_cb, ev_size, ev_addI, ev_addS, ev_addT, ev_addL, ev_catO, ev_sub, ev_mul, ev_div, ev_mod, ev_p5, ev_p6, ev_p12, ev_p18, ev_p30, ev_neg, ev_ltI, ev_ltS, ev_leI, ev_leS, ev_gt, ev_ge, ev_eqI, ev_eqS, ev_neI, ev_neS, ev_neB, ev_eqB, ev_is, ev_isnot, ev_ixT, ev_ixS, ev_ixR, ev_ixL, ev_ixK, ev_getL, ev_getM, ev_gL, ev_gM, ev_at0, ev_at1, ev_at2, ev_at3, ev_at4, ev_lenS, ev_lenR, ev_lenT, ev_lenL, ev_lenO, ev_lenD, ev_abs, ev_min2, ev_max2, ev_intI, ev_intB, ev_set, ev_fc, ev_setset, ev_last, ev_appk, ev_app0, ev_setk, ev_set0, ev_assoc, ev_lapp, ev_lappA, ev_sl, ev_nopart, ev_part, ev_ptK, ev_slT, ev_slS, ev_slR, ev_slK, ev_tyN, ev_tyB, ev_tyI, ev_tyS, ev_tyT, ev_tyL, ev_tyR, ev_tyRL, ev_isi, ev_isi1, ev_isi2, ev_isi3, ev_isi4, ev_isi5, ev_isiT, ev_isi2K, ev_isTy, ev_list, ev_listK, ev_tuple, ev_tupK, ev_getST, ev_getSR, ev_getSL, ev_all, ev_allK, ev_eqXI, ev_eqXS, ev_neXI, ev_neXS, ev_neXB, ev_eqXB, ev_eqXR, ev_neXR, ev_nil2, ev_eqK, ev_neK, ev_meth, ev_meth0, ev_mth1, ev_mth2, ev_mth3, ev_append, ev_m0, ev_m0K, ev_str, ev_for, ev_miR1, ev_rg1K, ev_miL, ev_liK, ev_miT, ev_tiK, ev_lc, ev_wipe0, ev_wipeS, ev_yes, ev_lenSet, ev_lenSetK, ev_listR, ev_lrK, ev_put2, ev_p2A, ev_p2K, ev_p2E, ev_put1, ev_pt1, ev_addXI, ev_addXB, ev_addXS, ev_addXT, ev_addXL, ev_subXI, ev_subXB, ev_mulXI, ev_mulXB, ev_mulXL, ev_negXI, ev_negXB, ev_strXI, ev_strXB, ev_mulYI, ev_mulYB, ev_mulYL, ev_mulYT, ev_dnew, ev_dnewT, ev_dgetE, ev_getD, ev_gD, ev_keyI, ev_keyS, ev_dgK, ev_dinE, ev_diK, ev_dputE, ev_dpK, ev_dget2E, ev_isDA, ev_isSome, ev_isNone, ev_dg2K, ev_dpop2E, ev_dp2K, ev_dp3S, ev_dp3N, ev_sortedE, ev_srO1, ev_srO2, ev_gLd, ev_srKS, ev_srKI, ev_gDT, ev_gT, ev_tinE, ev_tiKK, ev_keysA, ev_keysN, ev_keysC, ev_dputTE, ev_dptK, ev_dispE, ev_mpN, ev_mpC, ev_pcK, ev_dsK, ev_dsK2, ev_lc2E, List.getElem?_cons_zero, List.getElem?_cons_succ, List.set_cons_zero, List.set_cons_succ, List.length_cons, List.length_nil, List.cons_append, List.nil_append, if_true, if_false, Bool.false_eq_true, Bool.true_eq_false, reduceIte, Bool.not_true, Bool.not_false, Bool.and_true, Bool.true_and, Bool.and_false, Bool.false_and, Bool.or_true, Bool.true_or, Bool.or_false, Bool.false_or, Nat.reduceAdd, Nat.reduceLeDiff, Nat.zero_add, Int.reduceLT, Int.reduceLE, Int.reduceEq, Int.reduceNeg, Nat.reduceEqDiff, and_self, and_true, true_and, decide_true, decide_false, eq_self, ite_true, ite_false, Int.reduceSub, Int.reduceAdd, Int.cast_ofNat_Int, Int.natCast_add, Int.cast_ofNat_Int, Nat.reduceSub, Nat.add_assoc, String.reduceBEq, String.reduceEq, Bool.or_not_self, beq_self_eq_true, hA_un, hw, this, isRd]
        exact ⟨[], by simp⟩
      | false =>
        rw [hw] at this
        simp only [wp_okR, wp_okF, wp_fin, wp_next, wp_then, wp_bind, wp_nox, wp_tK, wp_bK, wp_fr, wp_fn, wp_nn, wp_nr, wp_nb, wp_nc, wp_ln, wp_lc, wp_lb, wp_lr, wp_jn, wp_jc, ev_bok, ev_bno, ev_bex, ev_tok, ev_tno, ev_tex, ev_nnx, ev_nrt, ev_nbk, ev_nct, ev_nex, ev_nno, ev_frt, ev_fnx, ev_fex, ev_xok, ev_lsome, ev_lnone, ev_seq, ev_if, ev_ret, ev_retN, ev_drop, ev_nop, ev_brk, ev_cont, ev_asgN, ev_asgT, ev_asgO, ev_mgTup, ev_mgN, ev_mgC, ev_mg0, ev_putL, ev_putO, ev_var, ev_vr, ev_c, ev_op, ev_un, ev_test, ev_tb, ev_notT, ev_andT, ev_orT, ev_ifE, ev_not, ev_nb, ev_and, ev_andK, ev_or, ev_orK, ev_chain, ev_chK, ev_nil, ev_cons, ev_tup, ev_lst, ev_new, ev_call, ev_cb, ev_size, ev_addI, ev_addS, ev_addT, ev_addL, ev_catO, ev_sub, ev_mul, ev_div, ev_mod, ev_p5, ev_p6, ev_p12, ev_p18, ev_p30, ev_neg, ev_ltI, ev_ltS, ev_leI, ev_leS, ev_gt, ev_ge, ev_eqI, ev_eqS, ev_neI, ev_neS, ev_neB, ev_eqB, ev_is, ev_isnot, ev_ixT, ev_ixS, ev_ixR, ev_ixL, ev_ixK, ev_getL, ev_getM, ev_gL, ev_gM, ev_at0, ev_at1, ev_at2, ev_at3, ev_at4, ev_lenS, ev_lenR, ev_lenT, ev_lenL, ev_lenO, ev_lenD, ev_abs, ev_min2, ev_max2, ev_intI, ev_intB, ev_set, ev_fc, ev_setset, ev_last, ev_appk, ev_app0, ev_setk, ev_set0, ev_assoc, ev_lapp, ev_lappA, ev_sl, ev_nopart, ev_part, ev_ptK, ev_slT, ev_slS, ev_slR, ev_slK, ev_tyN, ev_tyB, ev_tyI, ev_tyS, ev_tyT, ev_tyL, ev_tyR, ev_tyRL, ev_isi, ev_isi1, ev_isi2, ev_isi3, ev_isi4, ev_isi5, ev_isiT, ev_isi2K, ev_isTy, ev_list, ev_listK, ev_tuple, ev_tupK, ev_getST, ev_getSR, ev_getSL, ev_all, ev_allK, ev_eqXI, ev_eqXS, ev_neXI, ev_neXS, ev_neXB, ev_eqXB, ev_eqXR, ev_neXR, ev_nil2, ev_eqK, ev_neK, ev_meth, ev_meth0, ev_mth1, ev_mth2, ev_mth3, ev_append, ev_m0, ev_m0K, ev_str, ev_for, ev_miR1, ev_rg1K, ev_miL, ev_liK, ev_miT, ev_tiK, ev_lc, ev_wipe0, ev_wipeS, ev_yes, ev_lenSet, ev_lenSetK, ev_listR, ev_lrK, ev_put2, ev_p2A, ev_p2K, ev_p2E, ev_put1, ev_pt1, ev_addXI, ev_addXB, ev_addXS, ev_addXT, ev_addXL, ev_subXI, ev_subXB, ev_mulXI, ev_mulXB, ev_mulXL, ev_negXI, ev_negXB, ev_strXI, ev_strXB, ev_mulYI, ev_mulYB, ev_mulYL, ev_mulYT, ev_dnew, ev_dnewT, ev_dgetE, ev_getD, ev_gD, ev_keyI, ev_keyS, ev_dgK, ev_dinE, ev_diK, ev_dputE, ev_dpK, ev_dget2E, ev_isDA, ev_isSome, ev_isNone, ev_dg2K, ev_dpop2E, ev_dp2K, ev_dp3S, ev_dp3N, ev_sortedE, ev_srO1, ev_srO2, ev_gLd, ev_srKS, ev_srKI, ev_gDT, ev_gT, ev_tinE, ev_tiKK, ev_keysA, ev_keysN, ev_keysC, ev_dputTE, ev_dptK, ev_dispE, ev_mpN, ev_mpC, ev_pcK, ev_dsK, ev_dsK2, ev_lc2E, List.getElem?_cons_zero, List.getElem?_cons_succ, List.set_cons_zero, List.set_cons_succ, List.length_cons, List.length_nil, List.cons_append, List.nil_append, if_true, if_false, Bool.false_eq_true, Bool.true_eq_false, reduceIte, Bool.not_true, Bool.not_false, Bool.and_true, Bool.true_and, Bool.and_false, Bool.false_and, Bool.or_true, Bool.true_or, Bool.or_false, Bool.false_or, Nat.reduceAdd, Nat.reduceLeDiff, Nat.zero_add, Int.reduceLT, Int.reduceLE, Int.reduceEq, Int.reduceNeg, Nat.reduceEqDiff, and_self, and_true, true_and, decide_true, decide_false, eq_self, ite_true, ite_false, Int.reduceSub, Int.reduceAdd, Int.cast_ofNat_Int, Int.natCast_add, Int.cast_ofNat_Int, Nat.reduceSub, Nat.add_assoc, String.reduceBEq, String.reduceEq, Bool.or_not_self, beq_self_eq_true, hA_un, hw, this, isRd]
        exact ⟨[], by simp⟩
    · simp only [wp_okR, wp_okF, wp_fin, wp_next, wp_then, wp_bind, wp_nox, wp_tK, wp_bK, wp_fr, wp_fn, wp_nn, wp_nr, wp_nb, wp_nc, wp_ln, wp_lc, wp_lb, wp_lr, wp_jn, wp_jc, ev_bok, ev_bno, ev_bex, ev_tok, ev_tno, ev_tex, ev_nnx, ev_nrt, ev_nbk, ev_nct, ev_nex, ev_nno, ev_frt, ev_fnx, ev_fex, ev_xok, ev_lsome, ev_lnone, ev_seq, ev_if, ev_ret, ev_retN, ev_drop, ev_nop, ev_brk, ev_cont, ev_asgN, ev_asgT, ev_asgO, ev_mgTup, ev_mgN, ev_mgC, ev_mg0, ev_putL, ev_putO, ev_var, ev_vr, ev_c, ev_op, ev_un, ev_test, ev_tb, ev_notT, ev_andT, ev_orT, ev_ifE, ev_not, ev_nb, ev_and, ev_andK, ev_or, ev_orK, ev_chain, ev_chK, ev_nil, ev_cons, ev_tup, ev_lst, ev_new, ev_call, ev_cb, ev_size, ev_addI, ev_addS, ev_addT, ev_addL, ev_catO, ev_sub, ev_mul, ev_div, ev_mod, ev_p5, ev_p6, ev_p12, ev_p18, ev_p30, ev_neg, ev_ltI, ev_ltS, ev_leI, ev_leS, ev_gt, ev_ge, ev_eqI, ev_eqS, ev_neI, ev_neS, ev_neB, ev_eqB, ev_is, ev_isnot, ev_ixT, ev_ixS, ev_ixR, ev_ixL, ev_ixK, ev_getL, ev_getM, ev_gL, ev_gM, ev_at0, ev_at1, ev_at2, ev_at3, ev_at4, ev_lenS, ev_lenR, ev_lenT, ev_lenL, ev_lenO, ev_lenD, ev_abs, ev_min2, ev_max2, ev_intI, ev_intB, ev_set, ev_fc, ev_setset, ev_last, ev_appk, ev_app0, ev_setk, ev_set0, ev_assoc, ev_lapp, ev_lappA, ev_sl, ev_nopart, ev_part, ev_ptK, ev_slT, ev_slS, ev_slR, ev_slK, ev_tyN, ev_tyB, ev_tyI, ev_tyS, ev_tyT, ev_tyL, ev_tyR, ev_tyRL, ev_isi, ev_isi1, ev_isi2, ev_isi3, ev_isi4, ev_isi5, ev_isiT, ev_isi2K, ev_isTy, ev_list, ev_listK, ev_tuple, ev_tupK, ev_getST, ev_getSR, ev_getSL, ev_all, ev_allK, ev_eqXI, ev_eqXS, ev_neXI, ev_neXS, ev_neXB, ev_eqXB, ev_eqXR, ev_neXR, ev_nil2, ev_eqK, ev_neK, ev_meth, ev_meth0, ev_mth1, ev_mth2, ev_mth3, ev_append, ev_m0, ev_m0K, ev_str, ev_for, ev_miR1, ev_rg1K, ev_miL, ev_liK, ev_miT, ev_tiK, ev_lc, ev_wipe0, ev_wipeS, ev_yes, ev_lenSet, ev_lenSetK, ev_listR, ev_lrK, ev_put2, ev_p2A, ev_p2K, ev_p2E, ev_put1, ev_pt1, ev_addXI, ev_addXB, ev_addXS, ev_addXT, ev_addXL, ev_subXI, ev_subXB, ev_mulXI, ev_mulXB, ev_mulXL, ev_negXI, ev_negXB, ev_strXI, ev_strXB, ev_mulYI, ev_mulYB, ev_mulYL, ev_mulYT, ev_dnew, ev_dnewT, ev_dgetE, ev_getD, ev_gD, ev_keyI, ev_keyS, ev_dgK, ev_dinE, ev_diK, ev_dputE, ev_dpK, ev_dget2E, ev_isDA, ev_isSome, ev_isNone, ev_dg2K, ev_dpop2E, ev_dp2K, ev_dp3S, ev_dp3N, ev_sortedE, ev_srO1, ev_srO2, ev_gLd, ev_srKS, ev_srKI, ev_gDT, ev_gT, ev_tinE, ev_tiKK, ev_keysA, ev_keysN, ev_keysC, ev_dputTE, ev_dptK, ev_dispE, ev_mpN, ev_mpC, ev_pcK, ev_dsK, ev_dsK2, ev_lc2E, List.getElem?_cons_zero, List.getElem?_cons_succ, List.set_cons_zero, List.set_cons_succ, List.length_cons, List.length_nil, List.cons_append, List.nil_append, if_true, if_false, Bool.false_eq_true, Bool.true_eq_false, reduceIte, Bool.not_true, Bool.not_false, Bool.and_true, Bool.true_and, Bool.and_false, Bool.false_and, Bool.or_true, Bool.true_or, Bool.or_false, Bool.false_or, decide_eq_true_eq, Nat.reduceAdd, Nat.reduceLeDiff, Nat.zero_add, Int.reduceLT, Int.reduceLE, Int.reduceEq, Int.reduceNeg, Nat.reduceEqDiff, and_self, and_true, true_and, decide_true, decide_false, eq_self, ite_true, ite_false, Int.reduceSub, Int.reduceAdd, Int.cast_ofNat_Int, Int.natCast_add, Int.cast_ofNat_Int, Nat.reduceSub, Nat.add_assoc, String.reduceBEq, String.reduceEq, Bool.or_not_self, beq_self_eq_true, id]
      exact ⟨[], by simp⟩
  · rw [List.map_id, filts_hA]
    exact k l'

noncomputable def cWrite : ME := (mLc (miL (mVar 3)) (mgName 12) (mAndT (mTest (mOp oEqX (mOp oIxD (mVar 12) (mC (.int 1))) (mC (.str "write")))) (mTest (mOp oEqX (mOp oIxD (mVar 12) (mC (.int 2))) (mOp oIxD (mVar 10) (mC (.int 2)))))) (mVar 12) [12])
def isWr (v : Int) (r : HRow) : Bool := r.wr && decide (r.v = v)
theorem cWrite_wp {S : Sto} {n : Nat} {h : List HRow} {rd : HRow} {x0 : A} {z1 z2 z4 z5 z6 z7 z8 z9 z11 : Option A} {Q : A → Sto → Prop} (e : S[n]? = some (.lst (h.map hA))) (hl : h.length ≤ 61) (k : ∀ l, Q (.ref S.length) (S ++ .lst ((h.filter (isWr rd.v)).map hA) :: l)) : okR (cWrite (envC x0 z1 z2 (some (.ref n)) z4 z5 z6 z7 z8 z9 (some (hA rd)) z11) S) Q := by
  have hn := (List.getElem?_eq_some_iff.mp e).1
  unfold cWrite envC
  simp only [wp_okR, wp_okF, wp_fin, wp_next, wp_then, wp_bind, wp_nox, wp_tK, wp_bK, wp_fr, wp_fn, wp_nn, wp_nr, wp_nb, wp_nc, wp_ln, wp_lc, wp_lb, wp_lr, wp_jn, wp_jc, ev_bok, ev_bno, ev_bex, ev_tok, ev_tno, ev_tex, ev_nnx, ev_nrt, ev_nbk, ev_nct, ev_nex, ev_nno, ev_frt, ev_fnx, ev_fex, ev_xok, ev_lsome, ev_lnone, ev_seq, ev_if, ev_ret, ev_retN, ev_drop, ev_nop, ev_brk, ev_cont, ev_asgN, ev_asgT, ev_asgO, ev_mgTup, ev_mgN, ev_mgC, ev_mg0, ev_putL, ev_putO, ev_var, ev_vr, ev_c, ev_op, ev_un, ev_test, ev_tb, ev_notT, ev_andT, ev_orT, ev_ifE, ev_not, ev_nb, ev_and, ev_andK, ev_or, ev_orK, ev_chain, ev_chK, ev_nil, ev_cons, ev_tup, ev_lst, ev_new, ev_call, ev_cb, ev_size, ev_addI, ev_addS, ev_addT, ev_addL, ev_catO, ev_sub, ev_mul, ev_div, ev_mod, ev_p5, ev_p6, ev_p12, ev_p18, ev_p30, ev_neg, ev_ltI, ev_ltS, ev_leI, ev_leS, ev_gt, ev_ge, ev_eqI, ev_eqS, ev_neI, ev_neS, ev_neB, ev_eqB, ev_is, ev_isnot, ev_ixT, ev_ixS, ev_ixR, ev_ixL, ev_ixK, ev_getL, ev_getM, ev_gL, ev_gM, ev_at0, ev_at1, ev_at2, ev_at3, ev_at4, ev_lenS, ev_lenR, ev_lenT, ev_lenL, ev_lenO, ev_lenD, ev_abs, ev_min2, ev_max2, ev_intI, ev_intB, ev_set, ev_fc, ev_setset, ev_last, ev_appk, ev_app0, ev_setk, ev_set0, ev_assoc, ev_lapp, ev_lappA, ev_sl, ev_nopart, ev_part, ev_ptK, ev_slT, ev_slS, ev_slR, ev_slK, ev_tyN, ev_tyB, ev_tyI, ev_tyS, ev_tyT, ev_tyL, ev_tyR, ev_tyRL, ev_isi, ev_isi1, ev_isi2, ev_isi3, ev_isi4, ev_isi5, ev_isiT, ev_isi2K, ev_isTy, ev_list, ev_listK, ev_tuple, ev_tupK, ev_getST, ev_getSR, ev_getSL, ev_all, ev_allK, ev_eqXI, ev_eqXS, ev_neXI, ev_neXS, ev_neXB, ev_eqXB, ev_eqXR, ev_neXR, ev_nil2, ev_eqK, ev_neK, ev_meth, ev_meth0, ev_mth1, ev_mth2, ev_mth3, ev_append, ev_m0, ev_m0K, ev_str, ev_for, ev_miR1, ev_rg1K, ev_miL, ev_liK, ev_miT, ev_tiK, ev_lc, ev_wipe0, ev_wipeS, ev_yes, ev_lenSet, ev_lenSetK, ev_listR, ev_lrK, ev_put2, ev_p2A, ev_p2K, ev_p2E, ev_put1, ev_pt1, ev_addXI, ev_addXB, ev_addXS, ev_addXT, ev_addXL, ev_subXI, ev_subXB, ev_mulXI, ev_mulXB, ev_mulXL, ev_negXI, ev_negXB, ev_strXI, ev_strXB, ev_mulYI, ev_mulYB, ev_mulYL, ev_mulYT, ev_dnew, ev_dnewT, ev_dgetE, ev_getD, ev_gD, ev_keyI, ev_keyS, ev_dgK, ev_dinE, ev_diK, ev_dputE, ev_dpK, ev_dget2E, ev_isDA, ev_isSome, ev_isNone, ev_dg2K, ev_dpop2E, ev_dp2K, ev_dp3S, ev_dp3N, ev_sortedE, ev_srO1, ev_srO2, ev_gLd, ev_srKS, ev_srKI, ev_gDT, ev_gT, ev_tinE, ev_tiKK, ev_keysA, ev_keysN, ev_keysC, ev_dputTE, ev_dptK, ev_dispE, ev_mpN, ev_mpC, ev_pcK, ev_dsK, ev_dsK2, ev_lc2E, List.getElem?_cons_zero, List.getElem?_cons_succ, List.set_cons_zero, List.set_cons_succ, List.length_cons, List.length_nil, List.cons_append, List.nil_append, if_true, if_false, Bool.false_eq_true, Bool.true_eq_false, reduceIte, Bool.not_true, Bool.not_false, Bool.and_true, Bool.true_and, Bool.and_false, Bool.false_and, Bool.or_true, Bool.true_or, Bool.or_false, Bool.false_or, decide_eq_true_eq, Nat.reduceAdd, Nat.reduceLeDiff, Nat.zero_add, Int.reduceLT, Int.reduceLE, Int.reduceEq, Int.reduceNeg, Nat.reduceEqDiff, and_self, and_true, true_and, decide_true, decide_false, eq_self, ite_true, ite_false, Int.reduceSub, Int.reduceAdd, Int.cast_ofNat_Int, Int.natCast_add, Int.cast_ofNat_Int, Nat.reduceSub, Nat.add_assoc, String.reduceBEq, String.reduceEq, Bool.or_not_self, beq_self_eq_true, e]
  refine lc_W (filtA (isWr rd.v)) id (fun l => ?_) (by rw [List.length_map]; omega) (fun x hx => ?_) (fun l' => ?_)
  · show getL _ (.ref n) = _
    rw [ev_getL, List.getElem?_append_left hn, e]
    rfl
  · obtain ⟨r, hr, rfl⟩ := List.mem_map.mp hx
    refine ⟨_, rfl, fun l => ?_, fun _ l => ?_⟩
    · simp only [wp_okR, wp_okF, wp_fin, wp_next, wp_then, wp_bind, wp_nox, wp_tK, wp_bK, wp_fr, wp_fn, wp_nn, wp_nr, wp_nb, wp_nc, wp_ln, wp_lc, wp_lb, wp_lr, wp_jn, wp_jc, ev_bok, ev_bno, ev_bex, ev_tok, ev_tno, ev_tex, ev_nnx, ev_nrt, ev_nbk, ev_nct, ev_nex, ev_nno, ev_frt, ev_fnx, ev_fex, ev_xok, ev_lsome, ev_lnone, ev_seq, ev_if, ev_ret, ev_retN, ev_drop, ev_nop, ev_brk, ev_cont, ev_asgN, ev_asgT, ev_asgO, ev_mgTup, ev_mgN, ev_mgC, ev_mg0, ev_putL, ev_putO, ev_var, ev_vr, ev_c, ev_op, ev_un, ev_test, ev_tb, ev_notT, ev_andT, ev_orT, ev_ifE, ev_not, ev_nb, ev_and, ev_andK, ev_or, ev_orK, ev_chain, ev_chK, ev_nil, ev_cons, ev_tup, ev_lst, ev_new, ev_call, ev_cb, ev_size, ev_addI, ev_addS, ev_addT, ev_addL, ev_catO, ev_sub, ev_mul, ev_div, ev_mod, ev_p5, ev_p6, ev_p12, ev_p18, ev_p30, ev_neg, ev_ltI, ev_ltS, ev_leI, ev_leS, ev_gt, ev_ge, ev_eqI, ev_eqS, ev_neI, ev_neS, ev_neB, ev_eqB, ev_is, ev_isnot, ev_ixT, ev_ixS, ev_ixR, ev_ixL, ev_ixK, ev_getL, ev_getM, ev_gL, ev_gM, ev_at0, ev_at1, ev_at2, ev_at3, ev_at4, ev_lenS, ev_lenR, ev_lenT, ev_lenL, ev_lenO, ev_lenD, ev_abs, ev_min2, ev_max2, ev_intI, ev_intB, ev_set, ev_fc, ev_setset, ev_last, ev_appk, ev_app0, ev_setk, ev_set0, ev_assoc, ev_lapp, ev_lappA, ev_sl, ev_nopart, ev_part, ev_ptK, ev_slT, ev_slS, ev_slR, ev_slK, ev_tyN, ev_tyB, ev_tyI, ev_tyS, ev_tyT, ev_tyL, ev_tyR, ev_tyRL, ev_isi, ev_isi1, ev_isi2, ev_isi3, ev_isi4, ev_isi5, ev_isiT, ev_isi2K, ev_isTy, ev_list, ev_listK, ev_tuple, ev_tupK, ev_getST, ev_getSR, ev_getSL, ev_all, ev_allK, ev_eqXI, ev_eqXS, ev_neXI, ev_neXS, ev_neXB, ev_eqXB, ev_eqXR, ev_neXR, ev_nil2, ev_eqK, ev_neK, ev_meth, ev_meth0, ev_mth1, ev_mth2, ev_mth3, ev_append, ev_m0, ev_m0K, ev_str, ev_for, ev_miR1, ev_rg1K, ev_miL, ev_liK, ev_miT, ev_tiK, ev_lc, ev_wipe0, ev_wipeS, ev_yes, ev_lenSet, ev_lenSetK, ev_listR, ev_lrK, ev_put2, ev_p2A, ev_p2K, ev_p2E, ev_put1, ev_pt1, ev_addXI, ev_addXB, ev_addXS, ev_addXT, ev_addXL, ev_subXI, ev_subXB, ev_mulXI, ev_mulXB, ev_mulXL, ev_negXI, ev_negXB, ev_strXI, ev_strXB, ev_mulYI, ev_mulYB, ev_mulYL, ev_mulYT, ev_dnew, ev_dnewT, ev_dgetE, ev_getD, ev_gD, ev_keyI, ev_keyS, ev_dgK, ev_dinE, ev_diK, ev_dputE, ev_dpK, ev_dget2E, ev_isDA, ev_isSome, ev_isNone, ev_dg2K, ev_dpop2E, ev_dp2K, ev_dp3S, ev_dp3N, ev_sortedE, ev_srO1, ev_srO2, ev_gLd, ev_srKS, ev_srKI, ev_gDT, ev_gT, ev_tinE, ev_tiKK, ev_keysA, ev_keysN, ev_keysC, ev_dputTE, ev_dptK, ev_dispE, ev_mpN, ev_mpC, ev_pcK, ev_dsK, ev_dsK2, ev_lc2E, List.getElem?_cons_zero, List.getElem?_cons_succ, List.set_cons_zero, List.set_cons_succ, List.length_cons, List.length_nil, List.cons_append, List.nil_append, if_true, if_false, Bool.false_eq_true, Bool.true_eq_false, reduceIte, Bool.not_true, Bool.not_false, Bool.and_true, Bool.true_and, Bool.and_false, Bool.false_and, Bool.or_true, Bool.true_or, Bool.or_false, Bool.false_or, decide_eq_true_eq, Nat.reduceAdd, Nat.reduceLeDiff, Nat.zero_add, Int.reduceLT, Int.reduceLE, Int.reduceEq, Int.reduceNeg, Nat.reduceEqDiff, and_self, and_true, true_and, decide_true, decide_false, eq_self, ite_true, ite_false, Int.reduceSub, Int.reduceAdd, Int.cast_ofNat_Int, Int.natCast_add, Int.cast_ofNat_Int, Nat.reduceSub, Nat.add_assoc, String.reduceBEq, String.reduceEq, Bool.or_not_self, beq_self_eq_true, filtA_hA]
      have := kW r.wr
      cases hw : r.wr with
      | true =>
        rw [hw] at this
        simp only [wp_okR, wp_okF, wp_fin, wp_next, wp_then, wp_bind, wp_nox, wp_tK, wp_bK, wp_fr, wp_fn, wp_nn, wp_nr, wp_nb, wp_nc, wp_ln, wp_lc, wp_lb, wp_lr, wp_jn, wp_jc, ev_bok, ev_bno, ev_bex, ev_tok, ev_tno, ev_tex, ev_nnx, ev_nrt, ev_nbk, ev_nct, ev_nex, ev_nno, ev_frt, ev_fnx, ev_fex, ev_xok, ev_lsome, ev_lnone, ev_seq, ev_if, ev_ret, ev_retN, ev_drop, ev_nop, ev_brk, ev_cont, ev_asgN, ev_asgT, ev_asgO, ev_mgTup, ev_mgN, ev_mgC, ev_mg0, ev_putL, ev_putO, ev_var, ev_vr, ev_c, ev_op, ev_un, ev_test, ev_tb, ev_notT, ev_andT, ev_orT, ev_ifE, ev_not, ev_nb, ev_and, ev_andK, ev_or, ev_orK, ev_chain, ev_chK, ev_nil, ev_cons, ev_tup, ev_lst, ev_new, ev_call, ev_cb, ev_size, ev_addI, ev_addS, ev_addT, ev_addL, ev_catO, ev_sub, ev_mul, ev_div, ev_mod, ev_p5, ev_p6, ev_p12, ev_p18, ev_p30, ev_neg, ev_ltI, ev_ltS, ev_leI, ev_leS, ev_gt, ev_ge, ev_eqI, ev_eqS, ev_neI, ev_neS, ev_neB, ev_eqB, ev_is, ev_isnot, ev_ixT, ev_ixS, ev_ixR, ev_ixL, ev_ixK, ev_getL, ev_getM, ev_gL, ev_gM, ev_at0, ev_at1, ev_at2, ev_at3, ev_at4, ev_lenS, ev_lenR, ev_lenT, ev_lenL, ev_lenO, ev_lenD, ev_abs, ev_min2, ev_max2, ev_intI, ev_intB, ev_set, ev_fc, ev_setset, ev_last, ev_appk, ev_app0, ev_setk, ev_set0, ev_assoc, ev_lapp, ev_lappA, ev_sl, ev_nopart, ev_part, ev_ptK, ev_slT, ev_slS, ev_slR, ev_slK, ev_tyN, ev_tyB, ev_tyI, ev_tyS, ev_tyT, ev_tyL, ev_tyR, ev_tyRL, ev_isi, ev_isi1, ev_isi2, ev_isi3, ev_isi4, ev_isi5, ev_isiT, ev_isi2K, ev_isTy, ev_list, ev_listK, ev_tuple, ev_tupK, ev_getST, ev_getSR, ev_getSL, ev_all, ev_allK, ev_eqXI, ev_eqXS, ev_neXI, ev_neXS, ev_neXB, ev_eqXB, ev_eqXR, ev_neXR, ev_nil2, ev_eqK, ev_neK, ev_meth, ev_meth0, ev_mth1, ev_mth2, ev_mth3, ev_append, ev_m0, ev_m0K, ev_str, ev_for, ev_miR1, ev_rg1K, ev_miL, ev_liK, ev_miT, ev_tiK, ev_lc, ev_wipe0, ev_wipeS, ev_yes, ev_lenSet, ev_lenSetK, ev_listR, ev_lrK, ev_put2, ev_p2A, ev_p2K, ev_p2E, ev_put1, ev_pt1, ev_addXI, ev_addXB, ev_addXS, ev_addXT, ev_addXL, ev_subXI, ev_subXB, ev_mulXI, ev_mulXB, ev_mulXL, ev_negXI, ev_negXB, ev_strXI, ev_strXB, ev_mulYI, ev_mulYB, ev_mulYL, ev_mulYT, ev_dnew, ev_dnewT, ev_dgetE, ev_getD, ev_gD, ev_keyI, ev_keyS, ev_dgK, ev_dinE, ev_diK, ev_dputE, ev_dpK, ev_dget2E, ev_isDA, ev_isSome, ev_isNone, ev_dg2K, ev_dpop2E, ev_dp2K, ev_dp3S, ev_dp3N, ev_sortedE, ev_srO1, ev_srO2, ev_gLd, ev_srKS, ev_srKI, ev_gDT, ev_gT, ev_tinE, ev_tiKK, ev_keysA, ev_keysN, ev_keysC, ev_dputTE, ev_dptK, ev_dispE, ev_mpN, ev_mpC, ev_pcK, ev_dsK, ev_dsK2, ev_lc2E, List.getElem?_cons_zero, List.getElem?_cons_succ, List.set_cons_zero, List.set_cons_succ, List.length_cons, List.length_nil, List.cons_append, List.nil_append, if_true, if_false, Bool.false_eq_true, Bool.true_eq_false, reduceIte, Bool.not_true, Bool.not_false, Bool.and_true, Bool.true_and, Bool.and_false, Bool.false_and, Bool.or_true, Bool.true_or, Bool.or_false, Bool.false_or, Nat.reduceAdd, Nat.reduceLeDiff, Nat.zero_add, Int.reduceLT, Int.reduceLE, Int.reduceEq, Int.reduceNeg, Nat.reduceEqDiff, and_self, and_true, true_and, decide_true, decide_false, eq_self, ite_true, ite_false, Int.reduceSub, Int.reduceAdd, Int.cast_ofNat_Int, Int.natCast_add, Int.cast_ofNat_Int, Nat.reduceSub, Nat.add_assoc, String.reduceBEq, String.reduceEq, Bool.or_not_self, beq_self_eq_true, hA_un, hw, this, isWr]
        exact ⟨[], by simp⟩
      | false =>
        rw [hw] at this
        simp only [wp_okR, wp_okF, wp_fin, wp_next, wp_then, wp_bind, wp_nox, wp_tK, wp_bK, wp_fr, wp_fn, wp_nn, wp_nr, wp_nb, wp_nc, wp_ln, wp_lc, wp_lb, wp_lr, wp_jn, wp_jc, ev_bok, ev_bno, ev_bex, ev_tok, ev_tno, ev_tex, ev_nnx, ev_nrt, ev_nbk, ev_nct, ev_nex, ev_nno, ev_frt, ev_fnx, ev_fex, ev_xok, ev_lsome, ev_lnone, ev_seq, ev_if, ev_ret, ev_retN, ev_drop, ev_nop, ev_brk, ev_cont, ev_asgN, ev_asgT, ev_asgO, ev_mgTup, ev_mgN, ev_mgC, ev_mg0, ev_putL, ev_putO, ev_var, ev_vr, ev_c, ev_op, ev_un, ev_test, ev_tb, ev_notT, ev_andT, ev_orT, ev_ifE, ev_not, ev_nb, ev_and, ev_andK, ev_or, ev_orK, ev_chain, ev_chK, ev_nil, ev_cons, ev_tup, ev_lst, ev_new, ev_call, ev_cb, ev_size, ev_addI, ev_addS, ev_addT, ev_addL, ev_catO, ev_sub, ev_mul, ev_div, ev_mod, ev_p5, ev_p6, ev_p12, ev_p18, ev_p30, ev_neg, ev_ltI, ev_ltS, ev_leI, ev_leS, ev_gt, ev_ge, ev_eqI, ev_eqS, ev_neI, ev_neS, ev_neB, ev_eqB, ev_is, ev_isnot, ev_ixT, ev_ixS, ev_ixR, ev_ixL, ev_ixK, ev_getL, ev_getM, ev_gL, ev_gM, ev_at0, ev_at1, ev_at2, ev_at3, ev_at4, ev_lenS, ev_lenR, ev_lenT, ev_lenL, ev_lenO, ev_lenD, ev_abs, ev_min2, ev_max2, ev_intI, ev_intB, ev_set, ev_fc, ev_setset, ev_last, ev_appk, ev_app0, ev_setk, ev_set0, ev_assoc, ev_lapp, ev_lappA, ev_sl, ev_nopart, ev_part, ev_ptK, ev_slT, ev_slS, ev_slR, ev_slK, ev_tyN, ev_tyB, ev_tyI, ev_tyS, ev_tyT, ev_tyL, ev_tyR, ev_tyRL, ev_isi, ev_isi1, ev_isi2, ev_isi3, ev_isi4, ev_isi5, ev_isiT, ev_isi2K, ev_isTy, ev_list, ev_listK, ev_tuple, ev_tupK, ev_getST, ev_getSR, ev_getSL, ev_all, ev_allK, ev_eqXI, ev_eqXS, ev_neXI, ev_neXS, ev_neXB, ev_eqXB, ev_eqXR, ev_neXR, ev_nil2, ev_eqK, ev_neK, ev_meth, ev_meth0, ev_mth1, ev_mth2, ev_mth3, ev_append, ev_m0, ev_m0K, ev_str, ev_for, ev_miR1, ev_rg1K, ev_miL, ev_liK, ev_miT, ev_tiK, ev_lc, ev_wipe0, ev_wipeS, ev_yes, ev_lenSet, ev_lenSetK, ev_listR, ev_lrK, ev_put2, ev_p2A, ev_p2K, ev_p2E, ev_put1, ev_pt1, ev_addXI, ev_addXB, ev_addXS, ev_addXT, ev_addXL, ev_subXI, ev_subXB, ev_mulXI, ev_mulXB, ev_mulXL, ev_negXI, ev_negXB, ev_strXI, ev_strXB, ev_mulYI, ev_mulYB, ev_mulYL, ev_mulYT, ev_dnew, ev_dnewT, ev_dgetE, ev_getD, ev_gD, ev_keyI, ev_keyS, ev_dgK, ev_dinE, ev_diK, ev_dputE, ev_dpK, ev_dget2E, ev_isDA, ev_isSome, ev_isNone, ev_dg2K, ev_dpop2E, ev_dp2K, ev_dp3S, ev_dp3N, ev_sortedE, ev_srO1, ev_srO2, ev_gLd, ev_srKS, ev_srKI, ev_gDT, ev_gT, ev_tinE, ev_tiKK, ev_keysA, ev_keysN, ev_keysC, ev_dputTE, ev_dptK, ev_dispE, ev_mpN, ev_mpC, ev_pcK, ev_dsK, ev_dsK2, ev_lc2E, List.getElem?_cons_zero, List.getElem?_cons_succ, List.set_cons_zero, List.set_cons_succ, List.length_cons, List.length_nil, List.cons_append, List.nil_append, if_true, if_false, Bool.false_eq_true, Bool.true_eq_false, reduceIte, Bool.not_true, Bool.not_false, Bool.and_true, Bool.true_and, Bool.and_false, Bool.false_and, Bool.or_true, Bool.true_or, Bool.or_false, Bool.false_or, Nat.reduceAdd, Nat.reduceLeDiff, Nat.zero_add, Int.reduceLT, Int.reduceLE, Int.reduceEq, Int.reduceNeg, Nat.reduceEqDiff, and_self, and_true, true_and, decide_true, decide_false, eq_self, ite_true, ite_false, Int.reduceSub, Int.reduceAdd, Int.cast_ofNat_Int, Int.natCast_add, Int.cast_ofNat_Int, Nat.reduceSub, Nat.add_assoc, String.reduceBEq, String.reduceEq, Bool.or_not_self, beq_self_eq_true, hA_un, hw, this, isWr]
        exact ⟨[], by simp⟩
    · simp only [wp_okR, wp_okF, wp_fin, wp_next, wp_then, wp_bind, wp_nox, wp_tK, wp_bK, wp_fr, wp_fn, wp_nn, wp_nr, wp_nb, wp_nc, wp_ln, wp_lc, wp_lb, wp_lr, wp_jn, wp_jc, ev_bok, ev_bno, ev_bex, ev_tok, ev_tno, ev_tex, ev_nnx, ev_nrt, ev_nbk, ev_nct, ev_nex, ev_nno, ev_frt, ev_fnx, ev_fex, ev_xok, ev_lsome, ev_lnone, ev_seq, ev_if, ev_ret, ev_retN, ev_drop, ev_nop, ev_brk, ev_cont, ev_asgN, ev_asgT, ev_asgO, ev_mgTup, ev_mgN, ev_mgC, ev_mg0, ev_putL, ev_putO, ev_var, ev_vr, ev_c, ev_op, ev_un, ev_test, ev_tb, ev_notT, ev_andT, ev_orT, ev_ifE, ev_not, ev_nb, ev_and, ev_andK, ev_or, ev_orK, ev_chain, ev_chK, ev_nil, ev_cons, ev_tup, ev_lst, ev_new, ev_call, ev_cb, ev_size, ev_addI, ev_addS, ev_addT, ev_addL, ev_catO, ev_sub, ev_mul, ev_div, ev_mod, ev_p5, ev_p6, ev_p12, ev_p18, ev_p30, ev_neg, ev_ltI, ev_ltS, ev_leI, ev_leS, ev_gt, ev_ge, ev_eqI, ev_eqS, ev_neI, ev_neS, ev_neB, ev_eqB, ev_is, ev_isnot, ev_ixT, ev_ixS, ev_ixR, ev_ixL, ev_ixK, ev_getL, ev_getM, ev_gL, ev_gM, ev_at0, ev_at1, ev_at2, ev_at3, ev_at4, ev_lenS, ev_lenR, ev_lenT, ev_lenL, ev_lenO, ev_lenD, ev_abs, ev_min2, ev_max2, ev_intI, ev_intB, ev_set, ev_fc, ev_setset, ev_last, ev_appk, ev_app0, ev_setk, ev_set0, ev_assoc, ev_lapp, ev_lappA, ev_sl, ev_nopart, ev_part, ev_ptK, ev_slT, ev_slS, ev_slR, ev_slK, ev_tyN, ev_tyB, ev_tyI, ev_tyS, ev_tyT, ev_tyL, ev_tyR, ev_tyRL, ev_isi, ev_isi1, ev_isi2, ev_isi3, ev_isi4, ev_isi5, ev_isiT, ev_isi2K, ev_isTy, ev_list, ev_listK, ev_tuple, ev_tupK, ev_getST, ev_getSR, ev_getSL, ev_all, ev_allK, ev_eqXI, ev_eqXS, ev_neXI, ev_neXS, ev_neXB, ev_eqXB, ev_eqXR, ev_neXR, ev_nil2, ev_eqK, ev_neK, ev_meth, ev_meth0, ev_mth1, ev_mth2, ev_mth3, ev_append, ev_m0, ev_m0K, ev_str, ev_for, ev_miR1, ev_rg1K, ev_miL, ev_liK, ev_miT, ev_tiK, ev_lc, ev_wipe0, ev_wipeS, ev_yes, ev_lenSet, ev_lenSetK, ev_listR, ev_lrK, ev_put2, ev_p2A, ev_p2K, ev_p2E, ev_put1, ev_pt1, ev_addXI, ev_addXB, ev_addXS, ev_addXT, ev_addXL, ev_subXI, ev_subXB, ev_mulXI, ev_mulXB, ev_mulXL, ev_negXI, ev_negXB, ev_strXI, ev_strXB, ev_mulYI, ev_mulYB, ev_mulYL, ev_mulYT, ev_dnew, ev_dnewT, ev_dgetE, ev_getD, ev_gD, ev_keyI, ev_keyS, ev_dgK, ev_dinE, ev_diK, ev_dputE, ev_dpK, ev_dget2E, ev_isDA, ev_isSome, ev_isNone, ev_dg2K, ev_dpop2E, ev_dp2K, ev_dp3S, ev_dp3N, ev_sortedE, ev_srO1, ev_srO2, ev_gLd, ev_srKS, ev_srKI, ev_gDT, ev_gT, ev_tinE, ev_tiKK, ev_keysA, ev_keysN, ev_keysC, ev_dputTE, ev_dptK, ev_dispE, ev_mpN, ev_mpC, ev_pcK, ev_dsK, ev_dsK2, ev_lc2E, List.getElem?_cons_zero, List.getElem?_cons_succ, List.set_cons_zero, List.set_cons_succ, List.length_cons, List.length_nil, List.cons_append, List.nil_append, if_true, if_false, Bool.false_eq_true, Bool.true_eq_false, reduceIte, Bool.not_true, Bool.not_false, Bool.and_true, Bool.true_and, Bool.and_false, Bool.false_and, Bool.or_true, Bool.true_or, Bool.or_false, Bool.false_or, decide_eq_true_eq, Nat.reduceAdd, Nat.reduceLeDiff, Nat.zero_add, Int.reduceLT, Int.reduceLE, Int.reduceEq, Int.reduceNeg, Nat.reduceEqDiff, and_self, and_true, true_and, decide_true, decide_false, eq_self, ite_true, ite_false, Int.reduceSub, Int.reduceAdd, Int.cast_ofNat_Int, Int.natCast_add, Int.cast_ofNat_Int, Nat.reduceSub, Nat.add_assoc, String.reduceBEq, String.reduceEq, Bool.or_not_self, beq_self_eq_true, id]
      exact ⟨[], by simp⟩
  · rw [List.map_id, filts_hA]
    exact k l'
noncomputable def cRest : ME := (mLc (miL (mVar 3)) (mgName 12) (mTest (mOp oNeX (mVar 12) (mVar 10))) (mVar 12) [12])
theorem cRest_wp {S : Sto} {n : Nat} {h : List HRow} {rd : HRow} {x0 : A} {z1 z2 z4 z5 z6 z7 z8 z9 z11 : Option A} {Q : A → Sto → Prop} (e : S[n]? = some (.lst (h.map hA))) (hl : h.length ≤ 61) (k : ∀ l, Q (.ref S.length) (S ++ .lst ((h.filter (notR rd)).map hA) :: l)) : okR (cRest (envC x0 z1 z2 (some (.ref n)) z4 z5 z6 z7 z8 z9 (some (hA rd)) z11) S) Q := by
  have hn := (List.getElem?_eq_some_iff.mp e).1
  unfold cRest envC
  simp only [wp_okR, wp_okF, wp_fin, wp_next, wp_then, wp_bind, wp_nox, wp_tK, wp_bK, wp_fr, wp_fn, wp_nn, wp_nr, wp_nb, wp_nc, wp_ln, wp_lc, wp_lb, wp_lr, wp_jn, wp_jc, ev_bok, ev_bno, ev_bex, ev_tok, ev_tno, ev_tex, ev_nnx, ev_nrt, ev_nbk, ev_nct, ev_nex, ev_nno, ev_frt, ev_fnx, ev_fex, ev_xok, ev_lsome, ev_lnone, ev_seq, ev_if, ev_ret, ev_retN, ev_drop, ev_nop, ev_brk, ev_cont, ev_asgN, ev_asgT, ev_asgO, ev_mgTup, ev_mgN, ev_mgC, ev_mg0, ev_putL, ev_putO, ev_var, ev_vr, ev_c, ev_op, ev_un, ev_test, ev_tb, ev_notT, ev_andT, ev_orT, ev_ifE, ev_not, ev_nb, ev_and, ev_andK, ev_or, ev_orK, ev_chain, ev_chK, ev_nil, ev_cons, ev_tup, ev_lst, ev_new, ev_call, ev_cb, ev_size, ev_addI, ev_addS, ev_addT, ev_addL, ev_catO, ev_sub, ev_mul, ev_div, ev_mod, ev_p5, ev_p6, ev_p12, ev_p18, ev_p30, ev_neg, ev_ltI, ev_ltS, ev_leI, ev_leS, ev_gt, ev_ge, ev_eqI, ev_eqS, ev_neI, ev_neS, ev_neB, ev_eqB, ev_is, ev_isnot, ev_ixT, ev_ixS, ev_ixR, ev_ixL, ev_ixK, ev_getL, ev_getM, ev_gL, ev_gM, ev_at0, ev_at1, ev_at2, ev_at3, ev_at4, ev_lenS, ev_lenR, ev_lenT, ev_lenL, ev_lenO, ev_lenD, ev_abs, ev_min2, ev_max2, ev_intI, ev_intB, ev_set, ev_fc, ev_setset, ev_last, ev_appk, ev_app0, ev_setk, ev_set0, ev_assoc, ev_lapp, ev_lappA, ev_sl, ev_nopart, ev_part, ev_ptK, ev_slT, ev_slS, ev_slR, ev_slK, ev_tyN, ev_tyB, ev_tyI, ev_tyS, ev_tyT, ev_tyL, ev_tyR, ev_tyRL, ev_isi, ev_isi1, ev_isi2, ev_isi3, ev_isi4, ev_isi5, ev_isiT, ev_isi2K, ev_isTy, ev_list, ev_listK, ev_tuple, ev_tupK, ev_getST, ev_getSR, ev_getSL, ev_all, ev_allK, ev_eqXI, ev_eqXS, ev_neXI, ev_neXS, ev_neXB, ev_eqXB, ev_eqXR, ev_neXR, ev_nil2, ev_eqK, ev_neK, ev_meth, ev_meth0, ev_mth1, ev_mth2, ev_mth3, ev_append, ev_m0, ev_m0K, ev_str, ev_for, ev_miR1, ev_rg1K, ev_miL, ev_liK, ev_miT, ev_tiK, ev_lc, ev_wipe0, ev_wipeS, ev_yes, ev_lenSet, ev_lenSetK, ev_listR, ev_lrK, ev_put2, ev_p2A, ev_p2K, ev_p2E, ev_put1, ev_pt1, ev_addXI, ev_addXB, ev_addXS, ev_addXT, ev_addXL, ev_subXI, ev_subXB, ev_mulXI, ev_mulXB, ev_mulXL, ev_negXI, ev_negXB, ev_strXI, ev_strXB, ev_mulYI, ev_mulYB, ev_mulYL, ev_mulYT, ev_dnew, ev_dnewT, ev_dgetE, ev_getD, ev_gD, ev_keyI, ev_keyS, ev_dgK, ev_dinE, ev_diK, ev_dputE, ev_dpK, ev_dget2E, ev_isDA, ev_isSome, ev_isNone, ev_dg2K, ev_dpop2E, ev_dp2K, ev_dp3S, ev_dp3N, ev_sortedE, ev_srO1, ev_srO2, ev_gLd, ev_srKS, ev_srKI, ev_gDT, ev_gT, ev_tinE, ev_tiKK, ev_keysA, ev_keysN, ev_keysC, ev_dputTE, ev_dptK, ev_dispE, ev_mpN, ev_mpC, ev_pcK, ev_dsK, ev_dsK2, ev_lc2E, List.getElem?_cons_zero, List.getElem?_cons_succ, List.set_cons_zero, List.set_cons_succ, List.length_cons, List.length_nil, List.cons_append, List.nil_append, if_true, if_false, Bool.false_eq_true, Bool.true_eq_false, reduceIte, Bool.not_true, Bool.not_false, Bool.and_true, Bool.true_and, Bool.and_false, Bool.false_and, Bool.or_true, Bool.true_or, Bool.or_false, Bool.false_or, decide_eq_true_eq, Nat.reduceAdd, Nat.reduceLeDiff, Nat.zero_add, Int.reduceLT, Int.reduceLE, Int.reduceEq, Int.reduceNeg, Nat.reduceEqDiff, and_self, and_true, true_and, decide_true, decide_false, eq_self, ite_true, ite_false, Int.reduceSub, Int.reduceAdd, Int.cast_ofNat_Int, Int.natCast_add, Int.cast_ofNat_Int, Nat.reduceSub, Nat.add_assoc, String.reduceBEq, String.reduceEq, Bool.or_not_self, beq_self_eq_true, e]
  refine lc_W (filtA (notR rd)) id (fun l => ?_) (by rw [List.length_map]; omega) (fun x hx => ?_) (fun l' => ?_)
  · show getL _ (.ref n) = _
    rw [ev_getL, List.getElem?_append_left hn, e]
    rfl
  · obtain ⟨r, hr, rfl⟩ := List.mem_map.mp hx
    refine ⟨_, rfl, fun l => ?_, fun _ l => ?_⟩
    · simp only [wp_okR, wp_okF, wp_fin, wp_next, wp_then, wp_bind, wp_nox, wp_tK, wp_bK, wp_fr, wp_fn, wp_nn, wp_nr, wp_nb, wp_nc, wp_ln, wp_lc, wp_lb, wp_lr, wp_jn, wp_jc, ev_bok, ev_bno, ev_bex, ev_tok, ev_tno, ev_tex, ev_nnx, ev_nrt, ev_nbk, ev_nct, ev_nex, ev_nno, ev_frt, ev_fnx, ev_fex, ev_xok, ev_lsome, ev_lnone, ev_seq, ev_if, ev_ret, ev_retN, ev_drop, ev_nop, ev_brk, ev_cont, ev_asgN, ev_asgT, ev_asgO, ev_mgTup, ev_mgN, ev_mgC, ev_mg0, ev_putL, ev_putO, ev_var, ev_vr, ev_c, ev_op, ev_un, ev_test, ev_tb, ev_notT, ev_andT, ev_orT, ev_ifE, ev_not, ev_nb, ev_and, ev_andK, ev_or, ev_orK, ev_chain, ev_chK, ev_nil, ev_cons, ev_tup, ev_lst, ev_new, ev_call, ev_cb, ev_size, ev_addI, ev_addS, ev_addT, ev_addL, ev_catO, ev_sub, ev_mul, ev_div, ev_mod, ev_p5, ev_p6, ev_p12, ev_p18, ev_p30, ev_neg, ev_ltI, ev_ltS, ev_leI, ev_leS, ev_gt, ev_ge, ev_eqI, ev_eqS, ev_neI, ev_neS, ev_neB, ev_eqB, ev_is, ev_isnot, ev_ixT, ev_ixS, ev_ixR, ev_ixL, ev_ixK, ev_getL, ev_getM, ev_gL, ev_gM, ev_at0, ev_at1, ev_at2, ev_at3, ev_at4, ev_lenS, ev_lenR, ev_lenT, ev_lenL, ev_lenO, ev_lenD, ev_abs, ev_min2, ev_max2, ev_intI, ev_intB, ev_set, ev_fc, ev_setset, ev_last, ev_appk, ev_app0, ev_setk, ev_set0, ev_assoc, ev_lapp, ev_lappA, ev_sl, ev_nopart, ev_part, ev_ptK, ev_slT, ev_slS, ev_slR, ev_slK, ev_tyN, ev_tyB, ev_tyI, ev_tyS, ev_tyT, ev_tyL, ev_tyR, ev_tyRL, ev_isi, ev_isi1, ev_isi2, ev_isi3, ev_isi4, ev_isi5, ev_isiT, ev_isi2K, ev_isTy, ev_list, ev_listK, ev_tuple, ev_tupK, ev_getST, ev_getSR, ev_getSL, ev_all, ev_allK, ev_eqXI, ev_eqXS, ev_neXI, ev_neXS, ev_neXB, ev_eqXB, ev_eqXR, ev_neXR, ev_nil2, ev_eqK, ev_neK, ev_meth, ev_meth0, ev_mth1, ev_mth2, ev_mth3, ev_append, ev_m0, ev_m0K, ev_str, ev_for, ev_miR1, ev_rg1K, ev_miL, ev_liK, ev_miT, ev_tiK, ev_lc, ev_wipe0, ev_wipeS, ev_yes, ev_lenSet, ev_lenSetK, ev_listR, ev_lrK, ev_put2, ev_p2A, ev_p2K, ev_p2E, ev_put1, ev_pt1, ev_addXI, ev_addXB, ev_addXS, ev_addXT, ev_addXL, ev_subXI, ev_subXB, ev_mulXI, ev_mulXB, ev_mulXL, ev_negXI, ev_negXB, ev_strXI, ev_strXB, ev_mulYI, ev_mulYB, ev_mulYL, ev_mulYT, ev_dnew, ev_dnewT, ev_dgetE, ev_getD, ev_gD, ev_keyI, ev_keyS, ev_dgK, ev_dinE, ev_diK, ev_dputE, ev_dpK, ev_dget2E, ev_isDA, ev_isSome, ev_isNone, ev_dg2K, ev_dpop2E, ev_dp2K, ev_dp3S, ev_dp3N, ev_sortedE, ev_srO1, ev_srO2, ev_gLd, ev_srKS, ev_srKI, ev_gDT, ev_gT, ev_tinE, ev_tiKK, ev_keysA, ev_keysN, ev_keysC, ev_dputTE, ev_dptK, ev_dispE, ev_mpN, ev_mpC, ev_pcK, ev_dsK, ev_dsK2, ev_lc2E, List.getElem?_cons_zero, List.getElem?_cons_succ, List.set_cons_zero, List.set_cons_succ, List.length_cons, List.length_nil, List.cons_append, List.nil_append, if_true, if_false, Bool.false_eq_true, Bool.true_eq_false, reduceIte, Bool.not_true, Bool.not_false, Bool.and_true, Bool.true_and, Bool.and_false, Bool.false_and, Bool.or_true, Bool.true_or, Bool.or_false, Bool.false_or, decide_eq_true_eq, Nat.reduceAdd, Nat.reduceLeDiff, Nat.zero_add, Int.reduceLT, Int.reduceLE, Int.reduceEq, Int.reduceNeg, Nat.reduceEqDiff, and_self, and_true, true_and, decide_true, decide_false, eq_self, ite_true, ite_false, Int.reduceSub, Int.reduceAdd, Int.cast_ofNat_Int, Int.natCast_add, Int.cast_ofNat_Int, Nat.reduceSub, Nat.add_assoc, String.reduceBEq, String.reduceEq, Bool.or_not_self, beq_self_eq_true, filtA_hA, neX_hA, notR]
      exact ⟨[], by simp⟩
    · simp only [wp_okR, wp_okF, wp_fin, wp_next, wp_then, wp_bind, wp_nox, wp_tK, wp_bK, wp_fr, wp_fn, wp_nn, wp_nr, wp_nb, wp_nc, wp_ln, wp_lc, wp_lb, wp_lr, wp_jn, wp_jc, ev_bok, ev_bno, ev_bex, ev_tok, ev_tno, ev_tex, ev_nnx, ev_nrt, ev_nbk, ev_nct, ev_nex, ev_nno, ev_frt, ev_fnx, ev_fex, ev_xok, ev_lsome, ev_lnone, ev_seq, ev_if, ev_ret, ev_retN, ev_drop, ev_nop, ev_brk, ev_cont, ev_asgN, ev_asgT, ev_asgO, ev_mgTup, ev_mgN, ev_mgC, ev_mg0, ev_putL, ev_putO, ev_var, ev_vr, ev_c, ev_op, ev_un, ev_test, ev_tb, ev_notT, ev_andT, ev_orT, ev_ifE, ev_not, ev_nb, ev_and, ev_andK, ev_or, ev_orK, ev_chain, ev_chK, ev_nil, ev_cons, ev_tup, ev_lst, ev_new, ev_call, ev_cb, ev_size, ev_addI, ev_addS, ev_addT, ev_addL, ev_catO, ev_sub, ev_mul, ev_div, ev_mod, ev_p5, ev_p6, ev_p12, ev_p18, ev_p30, ev_neg, ev_ltI, ev_ltS, ev_leI, ev_leS, ev_gt, ev_ge, ev_eqI, ev_eqS, ev_neI, ev_neS, ev_neB, ev_eqB, ev_is, ev_isnot, ev_ixT, ev_ixS, ev_ixR, ev_ixL, ev_ixK, ev_getL, ev_getM, ev_gL, ev_gM, ev_at0, ev_at1, ev_at2, ev_at3, ev_at4, ev_lenS, ev_lenR, ev_lenT, ev_lenL, ev_lenO, ev_lenD, ev_abs, ev_min2, ev_max2, ev_intI, ev_intB, ev_set, ev_fc, ev_setset, ev_last, ev_appk, ev_app0, ev_setk, ev_set0, ev_assoc, ev_lapp, ev_lappA, ev_sl, ev_nopart, ev_part, ev_ptK, ev_slT, ev_slS, ev_slR, ev_slK, ev_tyN, ev_tyB, ev_tyI, ev_tyS, ev_tyT, ev_tyL, ev_tyR, ev_tyRL, ev_isi, ev_isi1, ev_isi2, ev_isi3, ev_isi4, ev_isi5, ev_isiT, ev_isi2K, ev_isTy, ev_list, ev_listK, ev_tuple, ev_tupK, ev_getST, ev_getSR, ev_getSL, ev_all, ev_allK, ev_eqXI, ev_eqXS, ev_neXI, ev_neXS, ev_neXB, ev_eqXB, ev_eqXR, ev_neXR, ev_nil2, ev_eqK, ev_neK, ev_meth, ev_meth0, ev_mth1, ev_mth2, ev_mth3, ev_append, ev_m0, ev_m0K, ev_str, ev_for, ev_miR1, ev_rg1K, ev_miL, ev_liK, ev_miT, ev_tiK, ev_lc, ev_wipe0, ev_wipeS, ev_yes, ev_lenSet, ev_lenSetK, ev_listR, ev_lrK, ev_put2, ev_p2A, ev_p2K, ev_p2E, ev_put1, ev_pt1, ev_addXI, ev_addXB, ev_addXS, ev_addXT, ev_addXL, ev_subXI, ev_subXB, ev_mulXI, ev_mulXB, ev_mulXL, ev_negXI, ev_negXB, ev_strXI, ev_strXB, ev_mulYI, ev_mulYB, ev_mulYL, ev_mulYT, ev_dnew, ev_dnewT, ev_dgetE, ev_getD, ev_gD, ev_keyI, ev_keyS, ev_dgK, ev_dinE, ev_diK, ev_dputE, ev_dpK, ev_dget2E, ev_isDA, ev_isSome, ev_isNone, ev_dg2K, ev_dpop2E, ev_dp2K, ev_dp3S, ev_dp3N, ev_sortedE, ev_srO1, ev_srO2, ev_gLd, ev_srKS, ev_srKI, ev_gDT, ev_gT, ev_tinE, ev_tiKK, ev_keysA, ev_keysN, ev_keysC, ev_dputTE, ev_dptK, ev_dispE, ev_mpN, ev_mpC, ev_pcK, ev_dsK, ev_dsK2, ev_lc2E, List.getElem?_cons_zero, List.getElem?_cons_succ, List.set_cons_zero, List.set_cons_succ, List.length_cons, List.length_nil, List.cons_append, List.nil_append, if_true, if_false, Bool.false_eq_true, Bool.true_eq_false, reduceIte, Bool.not_true, Bool.not_false, Bool.and_true, Bool.true_and, Bool.and_false, Bool.false_and, Bool.or_true, Bool.true_or, Bool.or_false, Bool.false_or, decide_eq_true_eq, Nat.reduceAdd, Nat.reduceLeDiff, Nat.zero_add, Int.reduceLT, Int.reduceLE, Int.reduceEq, Int.reduceNeg, Nat.reduceEqDiff, and_self, and_true, true_and, decide_true, decide_false, eq_self, ite_true, ite_false, Int.reduceSub, Int.reduceAdd, Int.cast_ofNat_Int, Int.natCast_add, Int.cast_ofNat_Int, Nat.reduceSub, Nat.add_assoc, String.reduceBEq, String.reduceEq, Bool.or_not_self, beq_self_eq_true, id]
      exact ⟨[], by simp⟩
  · rw [List.map_id, filts_hA]
    exact k l'
theorem of_wp {S : Sto} {b n : Nat} {hs : List HRow} (hB : BagAt S b) (hn : n ≠ b) (e : S[n]? = some (.lst (hs.map hA))) (h0 : hs ≠ []) (hl : hs.length ≤ 61) : okR (m__law_of [.ref b, .ref n] S) fun a t => ∃ r ∈ hs, a = hA r ∧ Dr b S t := by
  rw [st__law_of]
  unfold b__law_of
  have h1 : 0 < hs.length := List.length_pos_iff.mpr h0
  simp only [wp_okR, wp_okF, wp_fin, wp_next, wp_then, wp_bind, wp_nox, wp_tK, wp_bK, wp_fr, wp_fn, wp_nn, wp_nr, wp_nb, wp_nc, wp_ln, wp_lc, wp_lb, wp_lr, wp_jn, wp_jc, ev_bok, ev_bno, ev_bex, ev_tok, ev_tno, ev_tex, ev_nnx, ev_nrt, ev_nbk, ev_nct, ev_nex, ev_nno, ev_frt, ev_fnx, ev_fex, ev_xok, ev_lsome, ev_lnone, ev_seq, ev_if, ev_ret, ev_retN, ev_drop, ev_nop, ev_brk, ev_cont, ev_asgN, ev_asgT, ev_asgO, ev_mgTup, ev_mgN, ev_mgC, ev_mg0, ev_putL, ev_putO, ev_var, ev_vr, ev_c, ev_op, ev_un, ev_test, ev_tb, ev_notT, ev_andT, ev_orT, ev_ifE, ev_not, ev_nb, ev_and, ev_andK, ev_or, ev_orK, ev_chain, ev_chK, ev_nil, ev_cons, ev_tup, ev_lst, ev_new, ev_call, ev_cb, ev_size, ev_addI, ev_addS, ev_addT, ev_addL, ev_catO, ev_sub, ev_mul, ev_div, ev_mod, ev_p5, ev_p6, ev_p12, ev_p18, ev_p30, ev_neg, ev_ltI, ev_ltS, ev_leI, ev_leS, ev_gt, ev_ge, ev_eqI, ev_eqS, ev_neI, ev_neS, ev_neB, ev_eqB, ev_is, ev_isnot, ev_ixT, ev_ixS, ev_ixR, ev_ixL, ev_ixK, ev_getL, ev_getM, ev_gL, ev_gM, ev_at0, ev_at1, ev_at2, ev_at3, ev_at4, ev_lenS, ev_lenR, ev_lenT, ev_lenL, ev_lenO, ev_lenD, ev_abs, ev_min2, ev_max2, ev_intI, ev_intB, ev_set, ev_fc, ev_setset, ev_last, ev_appk, ev_app0, ev_setk, ev_set0, ev_assoc, ev_lapp, ev_lappA, ev_sl, ev_nopart, ev_part, ev_ptK, ev_slT, ev_slS, ev_slR, ev_slK, ev_tyN, ev_tyB, ev_tyI, ev_tyS, ev_tyT, ev_tyL, ev_tyR, ev_tyRL, ev_isi, ev_isi1, ev_isi2, ev_isi3, ev_isi4, ev_isi5, ev_isiT, ev_isi2K, ev_isTy, ev_list, ev_listK, ev_tuple, ev_tupK, ev_getST, ev_getSR, ev_getSL, ev_all, ev_allK, ev_eqXI, ev_eqXS, ev_neXI, ev_neXS, ev_neXB, ev_eqXB, ev_eqXR, ev_neXR, ev_nil2, ev_eqK, ev_neK, ev_meth, ev_meth0, ev_mth1, ev_mth2, ev_mth3, ev_append, ev_m0, ev_m0K, ev_str, ev_for, ev_miR1, ev_rg1K, ev_miL, ev_liK, ev_miT, ev_tiK, ev_lc, ev_wipe0, ev_wipeS, ev_yes, ev_lenSet, ev_lenSetK, ev_listR, ev_lrK, ev_put2, ev_p2A, ev_p2K, ev_p2E, ev_put1, ev_pt1, ev_addXI, ev_addXB, ev_addXS, ev_addXT, ev_addXL, ev_subXI, ev_subXB, ev_mulXI, ev_mulXB, ev_mulXL, ev_negXI, ev_negXB, ev_strXI, ev_strXB, ev_mulYI, ev_mulYB, ev_mulYL, ev_mulYT, ev_dnew, ev_dnewT, ev_dgetE, ev_getD, ev_gD, ev_keyI, ev_keyS, ev_dgK, ev_dinE, ev_diK, ev_dputE, ev_dpK, ev_dget2E, ev_isDA, ev_isSome, ev_isNone, ev_dg2K, ev_dpop2E, ev_dp2K, ev_dp3S, ev_dp3N, ev_sortedE, ev_srO1, ev_srO2, ev_gLd, ev_srKS, ev_srKI, ev_gDT, ev_gT, ev_tinE, ev_tiKK, ev_keysA, ev_keysN, ev_keysC, ev_dputTE, ev_dptK, ev_dispE, ev_mpN, ev_mpC, ev_pcK, ev_dsK, ev_dsK2, ev_lc2E, List.getElem?_cons_zero, List.getElem?_cons_succ, List.set_cons_zero, List.set_cons_succ, List.length_cons, List.length_nil, List.cons_append, List.nil_append, if_true, if_false, Bool.false_eq_true, Bool.true_eq_false, reduceIte, Bool.not_true, Bool.not_false, Bool.and_true, Bool.true_and, Bool.and_false, Bool.false_and, Bool.or_true, Bool.true_or, Bool.or_false, Bool.false_or, decide_eq_true_eq, Nat.reduceAdd, Nat.reduceLeDiff, Nat.zero_add, Int.reduceLT, Int.reduceLE, Int.reduceEq, Int.reduceNeg, Nat.reduceEqDiff, and_self, and_true, true_and, decide_true, decide_false, eq_self, ite_true, ite_false, Int.reduceSub, Int.reduceAdd, Int.cast_ofNat_Int, Int.natCast_add, Int.cast_ofNat_Int, Nat.reduceSub, Nat.add_assoc, String.reduceBEq, String.reduceEq, Bool.or_not_self, beq_self_eq_true, e, List.length_map]
  refine okR_use (take_wp hB (by omega) (by omega)) fun a t ht => ?_
  obtain ⟨r, rfl, r0, r1, D⟩ := ht
  have e2 := D.get e hn
  obtain ⟨x, ex, mx, _⟩ := at_pick (xs := hs.map hA) r0 (by rw [List.length_map]; exact r1)
  obtain ⟨q, hq, rfl⟩ := List.mem_map.mp mx
  simp only [wp_okR, wp_okF, wp_fin, wp_next, wp_then, wp_bind, wp_nox, wp_tK, wp_bK, wp_fr, wp_fn, wp_nn, wp_nr, wp_nb, wp_nc, wp_ln, wp_lc, wp_lb, wp_lr, wp_jn, wp_jc, ev_bok, ev_bno, ev_bex, ev_tok, ev_tno, ev_tex, ev_nnx, ev_nrt, ev_nbk, ev_nct, ev_nex, ev_nno, ev_frt, ev_fnx, ev_fex, ev_xok, ev_lsome, ev_lnone, ev_seq, ev_if, ev_ret, ev_retN, ev_drop, ev_nop, ev_brk, ev_cont, ev_asgN, ev_asgT, ev_asgO, ev_mgTup, ev_mgN, ev_mgC, ev_mg0, ev_putL, ev_putO, ev_var, ev_vr, ev_c, ev_op, ev_un, ev_test, ev_tb, ev_notT, ev_andT, ev_orT, ev_ifE, ev_not, ev_nb, ev_and, ev_andK, ev_or, ev_orK, ev_chain, ev_chK, ev_nil, ev_cons, ev_tup, ev_lst, ev_new, ev_call, ev_cb, ev_size, ev_addI, ev_addS, ev_addT, ev_addL, ev_catO, ev_sub, ev_mul, ev_div, ev_mod, ev_p5, ev_p6, ev_p12, ev_p18, ev_p30, ev_neg, ev_ltI, ev_ltS, ev_leI, ev_leS, ev_gt, ev_ge, ev_eqI, ev_eqS, ev_neI, ev_neS, ev_neB, ev_eqB, ev_is, ev_isnot, ev_ixT, ev_ixS, ev_ixR, ev_ixL, ev_ixK, ev_getL, ev_getM, ev_gL, ev_gM, ev_at0, ev_at1, ev_at2, ev_at3, ev_at4, ev_lenS, ev_lenR, ev_lenT, ev_lenL, ev_lenO, ev_lenD, ev_abs, ev_min2, ev_max2, ev_intI, ev_intB, ev_set, ev_fc, ev_setset, ev_last, ev_appk, ev_app0, ev_setk, ev_set0, ev_assoc, ev_lapp, ev_lappA, ev_sl, ev_nopart, ev_part, ev_ptK, ev_slT, ev_slS, ev_slR, ev_slK, ev_tyN, ev_tyB, ev_tyI, ev_tyS, ev_tyT, ev_tyL, ev_tyR, ev_tyRL, ev_isi, ev_isi1, ev_isi2, ev_isi3, ev_isi4, ev_isi5, ev_isiT, ev_isi2K, ev_isTy, ev_list, ev_listK, ev_tuple, ev_tupK, ev_getST, ev_getSR, ev_getSL, ev_all, ev_allK, ev_eqXI, ev_eqXS, ev_neXI, ev_neXS, ev_neXB, ev_eqXB, ev_eqXR, ev_neXR, ev_nil2, ev_eqK, ev_neK, ev_meth, ev_meth0, ev_mth1, ev_mth2, ev_mth3, ev_append, ev_m0, ev_m0K, ev_str, ev_for, ev_miR1, ev_rg1K, ev_miL, ev_liK, ev_miT, ev_tiK, ev_lc, ev_wipe0, ev_wipeS, ev_yes, ev_lenSet, ev_lenSetK, ev_listR, ev_lrK, ev_put2, ev_p2A, ev_p2K, ev_p2E, ev_put1, ev_pt1, ev_addXI, ev_addXB, ev_addXS, ev_addXT, ev_addXL, ev_subXI, ev_subXB, ev_mulXI, ev_mulXB, ev_mulXL, ev_negXI, ev_negXB, ev_strXI, ev_strXB, ev_mulYI, ev_mulYB, ev_mulYL, ev_mulYT, ev_dnew, ev_dnewT, ev_dgetE, ev_getD, ev_gD, ev_keyI, ev_keyS, ev_dgK, ev_dinE, ev_diK, ev_dputE, ev_dpK, ev_dget2E, ev_isDA, ev_isSome, ev_isNone, ev_dg2K, ev_dpop2E, ev_dp2K, ev_dp3S, ev_dp3N, ev_sortedE, ev_srO1, ev_srO2, ev_gLd, ev_srKS, ev_srKI, ev_gDT, ev_gT, ev_tinE, ev_tiKK, ev_keysA, ev_keysN, ev_keysC, ev_dputTE, ev_dptK, ev_dispE, ev_mpN, ev_mpC, ev_pcK, ev_dsK, ev_dsK2, ev_lc2E, List.getElem?_cons_zero, List.getElem?_cons_succ, List.set_cons_zero, List.set_cons_succ, List.length_cons, List.length_nil, List.cons_append, List.nil_append, if_true, if_false, Bool.false_eq_true, Bool.true_eq_false, reduceIte, Bool.not_true, Bool.not_false, Bool.and_true, Bool.true_and, Bool.and_false, Bool.false_and, Bool.or_true, Bool.true_or, Bool.or_false, Bool.false_or, decide_eq_true_eq, Nat.reduceAdd, Nat.reduceLeDiff, Nat.zero_add, Int.reduceLT, Int.reduceLE, Int.reduceEq, Int.reduceNeg, Nat.reduceEqDiff, and_self, and_true, true_and, decide_true, decide_false, eq_self, ite_true, ite_false, Int.reduceSub, Int.reduceAdd, Int.cast_ofNat_Int, Int.natCast_add, Int.cast_ofNat_Int, Nat.reduceSub, Nat.add_assoc, String.reduceBEq, String.reduceEq, Bool.or_not_self, beq_self_eq_true, e2, ex]
  exact ⟨q, hq, rfl, D⟩
/-! the last part of a cell -/
noncomputable def fLast : MS := (sIf (mTest (mOp oNeX (mVar 9) (mLst mNil)))
 (sSeq (sAsg (mCall 2 m__law_of (mCons (mVar 2) (mCons (mVar 9) mNil))) (mgName 10))
 (sSeq (sAsg (mOp oIxD cWrite (mC (.int 0))) (mgName 11))
 (sSeq (sAsg (mOp oAddX cRest (mLst (mCons (mOp oAddX (mSl oSl (mVar 10) mNoPart (mPart (mC (.int 3)))) (mTup (mCons (mC (.int 0)) (mCons (mOp oSubX (mOp oIxD (mVar 11) (mC (.int 3))) (mC (.int 1))) mNil)))) mNil))) (mgName 7))
 (sIf (mOrT (mTest (mOp oNeX (mCall 1 m_ordered (mCons (mVar 7) mNil)) (mTup (mCons (mC (.str "early")) (mCons (mOp oIxD (mVar 10) (mC (.int 0))) (mCons (mOp oIxD (mVar 11) (mC (.int 0))) mNil)))))) (mNotT (mTest (mCall 2 m_shows_none (mCons (mVar 7) (mCons (mTup (mCons (mC (.str "early")) (mCons (mOp oIxD (mVar 10) (mC (.int 0))) (mCons (mOp oIxD (mVar 11) (mC (.int 0))) mNil)))) mNil))))))
 (sRet (mC (.bl false)))
 sNext))))
 sNext)
def EnvQ (x0 : A) : Fl → Sto → Prop := jK fun env _ => ∃ z1 z2 z3 z4 z5 z6 z7 z8 z9 z10 z11, env = envC x0 z1 z2 z3 z4 z5 z6 z7 z8 z9 z10 z11
theorem EnvQ.mk {x0 : A} {z1 z2 z3 z4 z5 z6 z7 z8 z9 z10 z11 : Option A} {t : Sto} : EnvQ x0 (.nx [some x0, z1, z2, z3, z4, z5, z6, z7, z8, z9, z10, z11, none]) t := ⟨z1, z2, z3, z4, z5, z6, z7, z8, z9, z10, z11, rfl⟩
theorem early_ok2 : PyData.strOk ("early" : Str) = true := by decide +kernel
theorem ix_wp {f : ME} {env : AEnv} {S : Sto} {Q : A → Sto → Prop} (h : okR (f env S) fun a s => okR (oIxD a (.int 0) s) Q) : okR (mOp oIxD f (mC (.int 0)) env S) Q := by
  simp only [wp_okR, wp_okF, wp_fin, wp_next, wp_then, wp_bind, wp_nox, wp_tK, wp_bK, wp_fr, wp_fn, wp_nn, wp_nr, wp_nb, wp_nc, wp_ln, wp_lc, wp_lb, wp_lr, wp_jn, wp_jc, ev_bok, ev_bno, ev_bex, ev_tok, ev_tno, ev_tex, ev_nnx, ev_nrt, ev_nbk, ev_nct, ev_nex, ev_nno, ev_frt, ev_fnx, ev_fex, ev_xok, ev_lsome, ev_lnone, ev_seq, ev_if, ev_ret, ev_retN, ev_drop, ev_nop, ev_brk, ev_cont, ev_asgN, ev_asgT, ev_asgO, ev_mgTup, ev_mgN, ev_mgC, ev_mg0, ev_putL, ev_putO, ev_var, ev_vr, ev_c, ev_op, ev_un, ev_test, ev_tb, ev_notT, ev_andT, ev_orT, ev_ifE, ev_not, ev_nb, ev_and, ev_andK, ev_or, ev_orK, ev_chain, ev_chK, ev_nil, ev_cons, ev_tup, ev_lst, ev_new, ev_call, ev_cb, ev_size, ev_addI, ev_addS, ev_addT, ev_addL, ev_catO, ev_sub, ev_mul, ev_div, ev_mod, ev_p5, ev_p6, ev_p12, ev_p18, ev_p30, ev_neg, ev_ltI, ev_ltS, ev_leI, ev_leS, ev_gt, ev_ge, ev_eqI, ev_eqS, ev_neI, ev_neS, ev_neB, ev_eqB, ev_is, ev_isnot, ev_ixT, ev_ixS, ev_ixR, ev_ixL, ev_ixK, ev_getL, ev_getM, ev_gL, ev_gM, ev_at0, ev_at1, ev_at2, ev_at3, ev_at4, ev_lenS, ev_lenR, ev_lenT, ev_lenL, ev_lenO, ev_lenD, ev_abs, ev_min2, ev_max2, ev_intI, ev_intB, ev_set, ev_fc, ev_setset, ev_last, ev_appk, ev_app0, ev_setk, ev_set0, ev_assoc, ev_lapp, ev_lappA, ev_sl, ev_nopart, ev_part, ev_ptK, ev_slT, ev_slS, ev_slR, ev_slK, ev_tyN, ev_tyB, ev_tyI, ev_tyS, ev_tyT, ev_tyL, ev_tyR, ev_tyRL, ev_isi, ev_isi1, ev_isi2, ev_isi3, ev_isi4, ev_isi5, ev_isiT, ev_isi2K, ev_isTy, ev_list, ev_listK, ev_tuple, ev_tupK, ev_getST, ev_getSR, ev_getSL, ev_all, ev_allK, ev_eqXI, ev_eqXS, ev_neXI, ev_neXS, ev_neXB, ev_eqXB, ev_eqXR, ev_neXR, ev_nil2, ev_eqK, ev_neK, ev_meth, ev_meth0, ev_mth1, ev_mth2, ev_mth3, ev_append, ev_m0, ev_m0K, ev_str, ev_for, ev_miR1, ev_rg1K, ev_miL, ev_liK, ev_miT, ev_tiK, ev_lc, ev_wipe0, ev_wipeS, ev_yes, ev_lenSet, ev_lenSetK, ev_listR, ev_lrK, ev_put2, ev_p2A, ev_p2K, ev_p2E, ev_put1, ev_pt1, ev_addXI, ev_addXB, ev_addXS, ev_addXT, ev_addXL, ev_subXI, ev_subXB, ev_mulXI, ev_mulXB, ev_mulXL, ev_negXI, ev_negXB, ev_strXI, ev_strXB, ev_mulYI, ev_mulYB, ev_mulYL, ev_mulYT, ev_dnew, ev_dnewT, ev_dgetE, ev_getD, ev_gD, ev_keyI, ev_keyS, ev_dgK, ev_dinE, ev_diK, ev_dputE, ev_dpK, ev_dget2E, ev_isDA, ev_isSome, ev_isNone, ev_dg2K, ev_dpop2E, ev_dp2K, ev_dp3S, ev_dp3N, ev_sortedE, ev_srO1, ev_srO2, ev_gLd, ev_srKS, ev_srKI, ev_gDT, ev_gT, ev_tinE, ev_tiKK, ev_keysA, ev_keysN, ev_keysC, ev_dputTE, ev_dptK, ev_dispE, ev_mpN, ev_mpC, ev_pcK, ev_dsK, ev_dsK2, ev_lc2E, List.getElem?_cons_zero, List.getElem?_cons_succ, List.set_cons_zero, List.set_cons_succ, List.length_cons, List.length_nil, List.cons_append, List.nil_append, if_true, if_false, Bool.false_eq_true, Bool.true_eq_false, reduceIte, Bool.not_true, Bool.not_false, Bool.and_true, Bool.true_and, Bool.and_false, Bool.false_and, Bool.or_true, Bool.true_or, Bool.or_false, Bool.false_or, decide_eq_true_eq, Nat.reduceAdd, Nat.reduceLeDiff, Nat.zero_add, Int.reduceLT, Int.reduceLE, Int.reduceEq, Int.reduceNeg, Nat.reduceEqDiff, and_self, and_true, true_and, decide_true, decide_false, eq_self, ite_true, ite_false, Int.reduceSub, Int.reduceAdd, Int.cast_ofNat_Int, Int.natCast_add, Int.cast_ofNat_Int, Nat.reduceSub, Nat.add_assoc, String.reduceBEq, String.reduceEq, Bool.or_not_self, beq_self_eq_true]
  refine okR_use h fun a s hh => ?_
  simp only [wp_okR, wp_okF, wp_fin, wp_next, wp_then, wp_bind, wp_nox, wp_tK, wp_bK, wp_fr, wp_fn, wp_nn, wp_nr, wp_nb, wp_nc, wp_ln, wp_lc, wp_lb, wp_lr, wp_jn, wp_jc, ev_bok, ev_bno, ev_bex, ev_tok, ev_tno, ev_tex, ev_nnx, ev_nrt, ev_nbk, ev_nct, ev_nex, ev_nno, ev_frt, ev_fnx, ev_fex, ev_xok, ev_lsome, ev_lnone, ev_seq, ev_if, ev_ret, ev_retN, ev_drop, ev_nop, ev_brk, ev_cont, ev_asgN, ev_asgT, ev_asgO, ev_mgTup, ev_mgN, ev_mgC, ev_mg0, ev_putL, ev_putO, ev_var, ev_vr, ev_c, ev_op, ev_un, ev_test, ev_tb, ev_notT, ev_andT, ev_orT, ev_ifE, ev_not, ev_nb, ev_and, ev_andK, ev_or, ev_orK, ev_chain, ev_chK, ev_nil, ev_cons, ev_tup, ev_lst, ev_new, ev_call, ev_cb, ev_size, ev_addI, ev_addS, ev_addT, ev_addL, ev_catO, ev_sub, ev_mul, ev_div, ev_mod, ev_p5, ev_p6, ev_p12, ev_p18, ev_p30, ev_neg, ev_ltI, ev_ltS, ev_leI, ev_leS, ev_gt, ev_ge, ev_eqI, ev_eqS, ev_neI, ev_neS, ev_neB, ev_eqB, ev_is, ev_isnot, ev_ixT, ev_ixS, ev_ixR, ev_ixL, ev_ixK, ev_getL, ev_getM, ev_gL, ev_gM, ev_at0, ev_at1, ev_at2, ev_at3, ev_at4, ev_lenS, ev_lenR, ev_lenT, ev_lenL, ev_lenO, ev_lenD, ev_abs, ev_min2, ev_max2, ev_intI, ev_intB, ev_set, ev_fc, ev_setset, ev_last, ev_appk, ev_app0, ev_setk, ev_set0, ev_assoc, ev_lapp, ev_lappA, ev_sl, ev_nopart, ev_part, ev_ptK, ev_slT, ev_slS, ev_slR, ev_slK, ev_tyN, ev_tyB, ev_tyI, ev_tyS, ev_tyT, ev_tyL, ev_tyR, ev_tyRL, ev_isi, ev_isi1, ev_isi2, ev_isi3, ev_isi4, ev_isi5, ev_isiT, ev_isi2K, ev_isTy, ev_list, ev_listK, ev_tuple, ev_tupK, ev_getST, ev_getSR, ev_getSL, ev_all, ev_allK, ev_eqXI, ev_eqXS, ev_neXI, ev_neXS, ev_neXB, ev_eqXB, ev_eqXR, ev_neXR, ev_nil2, ev_eqK, ev_neK, ev_meth, ev_meth0, ev_mth1, ev_mth2, ev_mth3, ev_append, ev_m0, ev_m0K, ev_str, ev_for, ev_miR1, ev_rg1K, ev_miL, ev_liK, ev_miT, ev_tiK, ev_lc, ev_wipe0, ev_wipeS, ev_yes, ev_lenSet, ev_lenSetK, ev_listR, ev_lrK, ev_put2, ev_p2A, ev_p2K, ev_p2E, ev_put1, ev_pt1, ev_addXI, ev_addXB, ev_addXS, ev_addXT, ev_addXL, ev_subXI, ev_subXB, ev_mulXI, ev_mulXB, ev_mulXL, ev_negXI, ev_negXB, ev_strXI, ev_strXB, ev_mulYI, ev_mulYB, ev_mulYL, ev_mulYT, ev_dnew, ev_dnewT, ev_dgetE, ev_getD, ev_gD, ev_keyI, ev_keyS, ev_dgK, ev_dinE, ev_diK, ev_dputE, ev_dpK, ev_dget2E, ev_isDA, ev_isSome, ev_isNone, ev_dg2K, ev_dpop2E, ev_dp2K, ev_dp3S, ev_dp3N, ev_sortedE, ev_srO1, ev_srO2, ev_gLd, ev_srKS, ev_srKI, ev_gDT, ev_gT, ev_tinE, ev_tiKK, ev_keysA, ev_keysN, ev_keysC, ev_dputTE, ev_dptK, ev_dispE, ev_mpN, ev_mpC, ev_pcK, ev_dsK, ev_dsK2, ev_lc2E, List.getElem?_cons_zero, List.getElem?_cons_succ, List.set_cons_zero, List.set_cons_succ, List.length_cons, List.length_nil, List.cons_append, List.nil_append, if_true, if_false, Bool.false_eq_true, Bool.true_eq_false, reduceIte, Bool.not_true, Bool.not_false, Bool.and_true, Bool.true_and, Bool.and_false, Bool.false_and, Bool.or_true, Bool.true_or, Bool.or_false, Bool.false_or, decide_eq_true_eq, Nat.reduceAdd, Nat.reduceLeDiff, Nat.zero_add, Int.reduceLT, Int.reduceLE, Int.reduceEq, Int.reduceNeg, Nat.reduceEqDiff, and_self, and_true, true_and, decide_true, decide_false, eq_self, ite_true, ite_false, Int.reduceSub, Int.reduceAdd, Int.cast_ofNat_Int, Int.natCast_add, Int.cast_ofNat_Int, Nat.reduceSub, Nat.add_assoc, String.reduceBEq, String.reduceEq, Bool.or_not_self, beq_self_eq_true]
  exact hh
theorem fLast_wp {S : Sto} {b n m : Nat} {h : List HRow} {x0 : A} {z1 z4 z5 z6 z7 z8 z10 z11 : Option A} (G : Good h) (hB : BagAt S b) (nb : n ≠ b) (mb : m ≠ b) (e : S[n]? = some (.lst (h.map hA))) (em : S[m]? = some (.lst ((h.filter isRd).map hA))) : okF (fLast (envC x0 z1 (some (.ref b)) (some (.ref n)) z4 z5 z6 z7 z8 (some (.ref m)) z10 z11) S) (EnvQ x0) := by
  have hl := G.g.len
  have hm := (List.getElem?_eq_some_iff.mp em).1
  unfold fLast
  by_cases h0 : h.filter isRd = []
  · have e1 : (h.filter isRd).map hA = [] := by rw [h0]; rfl
    rw [e1] at em
    have em' : ∀ l, (S ++ l)[m]? = some (.lst []) := fun l => by rw [List.getElem?_append_left hm]; exact em
    simp only [wp_okR, wp_okF, wp_fin, wp_next, wp_then, wp_bind, wp_nox, wp_tK, wp_bK, wp_fr, wp_fn, wp_nn, wp_nr, wp_nb, wp_nc, wp_ln, wp_lc, wp_lb, wp_lr, wp_jn, wp_jc, ev_bok, ev_bno, ev_bex, ev_tok, ev_tno, ev_tex, ev_nnx, ev_nrt, ev_nbk, ev_nct, ev_nex, ev_nno, ev_frt, ev_fnx, ev_fex, ev_xok, ev_lsome, ev_lnone, ev_seq, ev_if, ev_ret, ev_retN, ev_drop, ev_nop, ev_brk, ev_cont, ev_asgN, ev_asgT, ev_asgO, ev_mgTup, ev_mgN, ev_mgC, ev_mg0, ev_putL, ev_putO, ev_var, ev_vr, ev_c, ev_op, ev_un, ev_test, ev_tb, ev_notT, ev_andT, ev_orT, ev_ifE, ev_not, ev_nb, ev_and, ev_andK, ev_or, ev_orK, ev_chain, ev_chK, ev_nil, ev_cons, ev_tup, ev_lst, ev_new, ev_call, ev_cb, ev_size, ev_addI, ev_addS, ev_addT, ev_addL, ev_catO, ev_sub, ev_mul, ev_div, ev_mod, ev_p5, ev_p6, ev_p12, ev_p18, ev_p30, ev_neg, ev_ltI, ev_ltS, ev_leI, ev_leS, ev_gt, ev_ge, ev_eqI, ev_eqS, ev_neI, ev_neS, ev_neB, ev_eqB, ev_is, ev_isnot, ev_ixT, ev_ixS, ev_ixR, ev_ixL, ev_ixK, ev_getL, ev_getM, ev_gL, ev_gM, ev_at0, ev_at1, ev_at2, ev_at3, ev_at4, ev_lenS, ev_lenR, ev_lenT, ev_lenL, ev_lenO, ev_lenD, ev_abs, ev_min2, ev_max2, ev_intI, ev_intB, ev_set, ev_fc, ev_setset, ev_last, ev_appk, ev_app0, ev_setk, ev_set0, ev_assoc, ev_lapp, ev_lappA, ev_sl, ev_nopart, ev_part, ev_ptK, ev_slT, ev_slS, ev_slR, ev_slK, ev_tyN, ev_tyB, ev_tyI, ev_tyS, ev_tyT, ev_tyL, ev_tyR, ev_tyRL, ev_isi, ev_isi1, ev_isi2, ev_isi3, ev_isi4, ev_isi5, ev_isiT, ev_isi2K, ev_isTy, ev_list, ev_listK, ev_tuple, ev_tupK, ev_getST, ev_getSR, ev_getSL, ev_all, ev_allK, ev_eqXI, ev_eqXS, ev_neXI, ev_neXS, ev_neXB, ev_eqXB, ev_eqXR, ev_neXR, ev_nil2, ev_eqK, ev_neK, ev_meth, ev_meth0, ev_mth1, ev_mth2, ev_mth3, ev_append, ev_m0, ev_m0K, ev_str, ev_for, ev_miR1, ev_rg1K, ev_miL, ev_liK, ev_miT, ev_tiK, ev_lc, ev_wipe0, ev_wipeS, ev_yes, ev_lenSet, ev_lenSetK, ev_listR, ev_lrK, ev_put2, ev_p2A, ev_p2K, ev_p2E, ev_put1, ev_pt1, ev_addXI, ev_addXB, ev_addXS, ev_addXT, ev_addXL, ev_subXI, ev_subXB, ev_mulXI, ev_mulXB, ev_mulXL, ev_negXI, ev_negXB, ev_strXI, ev_strXB, ev_mulYI, ev_mulYB, ev_mulYL, ev_mulYT, ev_dnew, ev_dnewT, ev_dgetE, ev_getD, ev_gD, ev_keyI, ev_keyS, ev_dgK, ev_dinE, ev_diK, ev_dputE, ev_dpK, ev_dget2E, ev_isDA, ev_isSome, ev_isNone, ev_dg2K, ev_dpop2E, ev_dp2K, ev_dp3S, ev_dp3N, ev_sortedE, ev_srO1, ev_srO2, ev_gLd, ev_srKS, ev_srKI, ev_gDT, ev_gT, ev_tinE, ev_tiKK, ev_keysA, ev_keysN, ev_keysC, ev_dputTE, ev_dptK, ev_dispE, ev_mpN, ev_mpC, ev_pcK, ev_dsK, ev_dsK2, ev_lc2E, List.getElem?_cons_zero, List.getElem?_cons_succ, List.set_cons_zero, List.set_cons_succ, List.length_cons, List.length_nil, List.cons_append, List.nil_append, if_true, if_false, Bool.false_eq_true, Bool.true_eq_false, reduceIte, Bool.not_true, Bool.not_false, Bool.and_true, Bool.true_and, Bool.and_false, Bool.false_and, Bool.or_true, Bool.true_or, Bool.or_false, Bool.false_or, decide_eq_true_eq, Nat.reduceAdd, Nat.reduceLeDiff, Nat.zero_add, Int.reduceLT, Int.reduceLE, Int.reduceEq, Int.reduceNeg, Nat.reduceEqDiff, and_self, and_true, true_and, decide_true, decide_false, eq_self, ite_true, ite_false, Int.reduceSub, Int.reduceAdd, Int.cast_ofNat_Int, Int.natCast_add, Int.cast_ofNat_Int, Nat.reduceSub, Nat.add_assoc, String.reduceBEq, String.reduceEq, Bool.or_not_self, beq_self_eq_true, em', List.isEmpty_nil]
    exact EnvQ.mk
  · have em' : ∀ l, (S ++ l)[m]? = some (.lst ((h.filter isRd).map hA)) := fun l => by rw [List.getElem?_append_left hm]; exact em
    have ne : ((h.filter isRd).map hA).isEmpty = false := by
      cases hf : h.filter isRd with
      | nil => exact absurd hf h0
      | cons x xs => rfl
    simp only [wp_okR, wp_okF, wp_fin, wp_next, wp_then, wp_bind, wp_nox, wp_tK, wp_bK, wp_fr, wp_fn, wp_nn, wp_nr, wp_nb, wp_nc, wp_ln, wp_lc, wp_lb, wp_lr, wp_jn, wp_jc, ev_bok, ev_bno, ev_bex, ev_tok, ev_tno, ev_tex, ev_nnx, ev_nrt, ev_nbk, ev_nct, ev_nex, ev_nno, ev_frt, ev_fnx, ev_fex, ev_xok, ev_lsome, ev_lnone, ev_seq, ev_if, ev_ret, ev_retN, ev_drop, ev_nop, ev_brk, ev_cont, ev_asgN, ev_asgT, ev_asgO, ev_mgTup, ev_mgN, ev_mgC, ev_mg0, ev_putL, ev_putO, ev_var, ev_vr, ev_c, ev_op, ev_un, ev_test, ev_tb, ev_notT, ev_andT, ev_orT, ev_ifE, ev_not, ev_nb, ev_and, ev_andK, ev_or, ev_orK, ev_chain, ev_chK, ev_nil, ev_cons, ev_tup, ev_lst, ev_new, ev_call, ev_cb, ev_size, ev_addI, ev_addS, ev_addT, ev_addL, ev_catO, ev_sub, ev_mul, ev_div, ev_mod, ev_p5, ev_p6, ev_p12, ev_p18, ev_p30, ev_neg, ev_ltI, ev_ltS, ev_leI, ev_leS, ev_gt, ev_ge, ev_eqI, ev_eqS, ev_neI, ev_neS, ev_neB, ev_eqB, ev_is, ev_isnot, ev_ixT, ev_ixS, ev_ixR, ev_ixL, ev_ixK, ev_getL, ev_getM, ev_gL, ev_gM, ev_at0, ev_at1, ev_at2, ev_at3, ev_at4, ev_lenS, ev_lenR, ev_lenT, ev_lenL, ev_lenO, ev_lenD, ev_abs, ev_min2, ev_max2, ev_intI, ev_intB, ev_set, ev_fc, ev_setset, ev_last, ev_appk, ev_app0, ev_setk, ev_set0, ev_assoc, ev_lapp, ev_lappA, ev_sl, ev_nopart, ev_part, ev_ptK, ev_slT, ev_slS, ev_slR, ev_slK, ev_tyN, ev_tyB, ev_tyI, ev_tyS, ev_tyT, ev_tyL, ev_tyR, ev_tyRL, ev_isi, ev_isi1, ev_isi2, ev_isi3, ev_isi4, ev_isi5, ev_isiT, ev_isi2K, ev_isTy, ev_list, ev_listK, ev_tuple, ev_tupK, ev_getST, ev_getSR, ev_getSL, ev_all, ev_allK, ev_eqXI, ev_eqXS, ev_neXI, ev_neXS, ev_neXB, ev_eqXB, ev_eqXR, ev_neXR, ev_nil2, ev_eqK, ev_neK, ev_meth, ev_meth0, ev_mth1, ev_mth2, ev_mth3, ev_append, ev_m0, ev_m0K, ev_str, ev_for, ev_miR1, ev_rg1K, ev_miL, ev_liK, ev_miT, ev_tiK, ev_lc, ev_wipe0, ev_wipeS, ev_yes, ev_lenSet, ev_lenSetK, ev_listR, ev_lrK, ev_put2, ev_p2A, ev_p2K, ev_p2E, ev_put1, ev_pt1, ev_addXI, ev_addXB, ev_addXS, ev_addXT, ev_addXL, ev_subXI, ev_subXB, ev_mulXI, ev_mulXB, ev_mulXL, ev_negXI, ev_negXB, ev_strXI, ev_strXB, ev_mulYI, ev_mulYB, ev_mulYL, ev_mulYT, ev_dnew, ev_dnewT, ev_dgetE, ev_getD, ev_gD, ev_keyI, ev_keyS, ev_dgK, ev_dinE, ev_diK, ev_dputE, ev_dpK, ev_dget2E, ev_isDA, ev_isSome, ev_isNone, ev_dg2K, ev_dpop2E, ev_dp2K, ev_dp3S, ev_dp3N, ev_sortedE, ev_srO1, ev_srO2, ev_gLd, ev_srKS, ev_srKI, ev_gDT, ev_gT, ev_tinE, ev_tiKK, ev_keysA, ev_keysN, ev_keysC, ev_dputTE, ev_dptK, ev_dispE, ev_mpN, ev_mpC, ev_pcK, ev_dsK, ev_dsK2, ev_lc2E, List.getElem?_cons_zero, List.getElem?_cons_succ, List.set_cons_zero, List.set_cons_succ, List.length_cons, List.length_nil, List.cons_append, List.nil_append, if_true, if_false, Bool.false_eq_true, Bool.true_eq_false, reduceIte, Bool.not_true, Bool.not_false, Bool.and_true, Bool.true_and, Bool.and_false, Bool.false_and, Bool.or_true, Bool.true_or, Bool.or_false, Bool.false_or, decide_eq_true_eq, Nat.reduceAdd, Nat.reduceLeDiff, Nat.zero_add, Int.reduceLT, Int.reduceLE, Int.reduceEq, Int.reduceNeg, Nat.reduceEqDiff, and_self, and_true, true_and, decide_true, decide_false, eq_self, ite_true, ite_false, Int.reduceSub, Int.reduceAdd, Int.cast_ofNat_Int, Int.natCast_add, Int.cast_ofNat_Int, Nat.reduceSub, Nat.add_assoc, String.reduceBEq, String.reduceEq, Bool.or_not_self, beq_self_eq_true, em', ne]
    refine okR_use (of_wp (hB.app _) mb (em' _) h0 (Nat.le_trans (List.length_filter_le ..) (by omega))) fun a S2 ht => ?_
    obtain ⟨rd, hrd, rfl, D2⟩ := ht
    obtain ⟨hr, hr2⟩ := List.mem_filter.mp hrd
    have r1 : rd.wr = false ∧ rd.v ≠ 0 := by simpa [isRd] using hr2
    have D2' : Dr b S S2 := ((Dr.refl hB).app _).trans D2
    have e2 := D2'.get e nb
    obtain ⟨w0, hw0, w1, w2⟩ : ∃ w ∈ h, w.wr = true ∧ w.v = rd.v := (G.g.rd rd hr r1.1).resolve_left r1.2
    simp only [wp_nn, ev_seq, wp_next, ev_asgN, wp_then, wp_tK, wp_okF]
    refine ix_wp (cWrite_wp e2 (by omega) fun l => ?_)
    obtain ⟨w, ws, hws⟩ : ∃ w ws, h.filter (isWr rd.v) = w :: ws := by
      cases hf : h.filter (isWr rd.v) with
      | nil =>
        have : w0 ∈ h.filter (isWr rd.v) := List.mem_filter.mpr ⟨hw0, by simp [isWr, w1, w2]⟩
        rw [hf] at this
        cases this
      | cons w ws => exact ⟨w, ws, rfl⟩
    have hw : w ∈ h ∧ w.wr = true ∧ w.v = rd.v := by
      have : w ∈ h.filter (isWr rd.v) := by rw [hws]; exact List.mem_cons_self
      obtain ⟨a1, a2⟩ := List.mem_filter.mp this
      have a3 : w.wr = true ∧ w.v = rd.v := by simpa [isWr] using a2
      exact ⟨a1, a3⟩
    rw [hws]
    obtain ⟨S3, hS3⟩ : ∃ S3, S3 = S2 ++ AO.lst ((w :: ws).map hA) :: l := ⟨_, rfl⟩
    have g3 : S3[S2.length]? = some (.lst (hA w :: ws.map hA)) := by rw [hS3]; exact ev_app0
    have e3 : S3[n]? = some (.lst (h.map hA)) := by rw [hS3, List.getElem?_append_left (List.getElem?_eq_some_iff.mp e2).1]; exact e2
    rw [← hS3]
    simp only [ev_ixR, ev_getL, g3, ev_gL, ev_ixK, ev_at0, ev_lsome, wp_okR, wp_tK, wp_okF, wp_nn, ev_seq, wp_next, ev_asgN, wp_then, ev_op, wp_bind, wp_bK]
    refine cRest_wp e3 (by omega) fun l2 => ?_
    obtain ⟨S4, hS4⟩ : ∃ S4, S4 = S3 ++ AO.lst ((h.filter (notR rd)).map hA) :: l2 := ⟨_, rfl⟩
    have g4 : ∀ l, (S4 ++ l)[S3.length]? = some (.lst ((h.filter (notR rd)).map hA)) := fun l => by rw [hS4, List.append_assoc]; exact ev_app0
    rw [← hS4]
    have c3 : ∀ a b c d e : A, cutA [a, b, c, d, e] none (some 3) = [a, b, c] := fun _ _ _ _ _ => rfl
    obtain ⟨h', hh'⟩ : ∃ h', h' = h.filter (notR rd) ++ [movedR rd w] := ⟨_, rfl⟩
    have hl' : h'.length ≤ 61 := by
      rw [hh', List.length_append]
      have := List.length_filter_le (notR rd) h
      show _ + 1 ≤ 61
      omega
    have sz : (((h.filter (notR rd)).map hA).length ≤ 16777215) = True := by
      refine eq_true ?_
      rw [List.length_map]
      have := List.length_filter_le (notR rd) h
      omega
    obtain ⟨f1, f2, f3⟩ := early_facts G.g (order_sound G.g.mid G.so) hr r1.1 hw.1 hw.2.1 hw.2.2
    rw [← hh'] at f1 f2 f3
    have mv : A.tup [.int rd.t, .str (kindS rd.wr), .int rd.v, .int 0, .int (w.b - 1)] = hA (movedR rd w) := rfl
    have eh : (h.filter (notR rd)).map hA ++ [hA (movedR rd w)] = h'.map hA := by rw [hh', List.map_append]; rfl
    simp only [wp_okR, wp_okF, wp_fin, wp_next, wp_then, wp_bind, wp_nox, wp_tK, wp_bK, wp_fr, wp_fn, wp_nn, wp_nr, wp_nb, wp_nc, wp_ln, wp_lc, wp_lb, wp_lr, wp_jn, wp_jc, ev_bok, ev_bno, ev_bex, ev_tok, ev_tno, ev_tex, ev_nnx, ev_nrt, ev_nbk, ev_nct, ev_nex, ev_nno, ev_frt, ev_fnx, ev_fex, ev_xok, ev_lsome, ev_lnone, ev_seq, ev_if, ev_ret, ev_retN, ev_drop, ev_nop, ev_brk, ev_cont, ev_asgN, ev_asgT, ev_asgO, ev_mgTup, ev_mgN, ev_mgC, ev_mg0, ev_putL, ev_putO, ev_var, ev_vr, ev_c, ev_op, ev_un, ev_test, ev_tb, ev_notT, ev_andT, ev_orT, ev_ifE, ev_not, ev_nb, ev_and, ev_andK, ev_or, ev_orK, ev_chain, ev_chK, ev_nil, ev_cons, ev_tup, ev_lst, ev_new, ev_call, ev_cb, ev_size, ev_addI, ev_addS, ev_addT, ev_addL, ev_catO, ev_sub, ev_mul, ev_div, ev_mod, ev_p5, ev_p6, ev_p12, ev_p18, ev_p30, ev_neg, ev_ltI, ev_ltS, ev_leI, ev_leS, ev_gt, ev_ge, ev_eqI, ev_eqS, ev_neI, ev_neS, ev_neB, ev_eqB, ev_is, ev_isnot, ev_ixT, ev_ixS, ev_ixR, ev_ixL, ev_ixK, ev_getL, ev_getM, ev_gL, ev_gM, ev_at0, ev_at1, ev_at2, ev_at3, ev_at4, ev_lenS, ev_lenR, ev_lenT, ev_lenL, ev_lenO, ev_lenD, ev_abs, ev_min2, ev_max2, ev_intI, ev_intB, ev_set, ev_fc, ev_setset, ev_last, ev_appk, ev_app0, ev_setk, ev_set0, ev_assoc, ev_lapp, ev_lappA, ev_sl, ev_nopart, ev_part, ev_ptK, ev_slT, ev_slS, ev_slR, ev_slK, ev_tyN, ev_tyB, ev_tyI, ev_tyS, ev_tyT, ev_tyL, ev_tyR, ev_tyRL, ev_isi, ev_isi1, ev_isi2, ev_isi3, ev_isi4, ev_isi5, ev_isiT, ev_isi2K, ev_isTy, ev_list, ev_listK, ev_tuple, ev_tupK, ev_getST, ev_getSR, ev_getSL, ev_all, ev_allK, ev_eqXI, ev_eqXS, ev_neXI, ev_neXS, ev_neXB, ev_eqXB, ev_eqXR, ev_neXR, ev_nil2, ev_eqK, ev_neK, ev_meth, ev_meth0, ev_mth1, ev_mth2, ev_mth3, ev_append, ev_m0, ev_m0K, ev_str, ev_for, ev_miR1, ev_rg1K, ev_miL, ev_liK, ev_miT, ev_tiK, ev_lc, ev_wipe0, ev_wipeS, ev_yes, ev_lenSet, ev_lenSetK, ev_listR, ev_lrK, ev_put2, ev_p2A, ev_p2K, ev_p2E, ev_put1, ev_pt1, ev_addXI, ev_addXB, ev_addXS, ev_addXT, ev_addXL, ev_subXI, ev_subXB, ev_mulXI, ev_mulXB, ev_mulXL, ev_negXI, ev_negXB, ev_strXI, ev_strXB, ev_mulYI, ev_mulYB, ev_mulYL, ev_mulYT, ev_dnew, ev_dnewT, ev_dgetE, ev_getD, ev_gD, ev_keyI, ev_keyS, ev_dgK, ev_dinE, ev_diK, ev_dputE, ev_dpK, ev_dget2E, ev_isDA, ev_isSome, ev_isNone, ev_dg2K, ev_dpop2E, ev_dp2K, ev_dp3S, ev_dp3N, ev_sortedE, ev_srO1, ev_srO2, ev_gLd, ev_srKS, ev_srKI, ev_gDT, ev_gT, ev_tinE, ev_tiKK, ev_keysA, ev_keysN, ev_keysC, ev_dputTE, ev_dptK, ev_dispE, ev_mpN, ev_mpC, ev_pcK, ev_dsK, ev_dsK2, ev_lc2E, List.getElem?_cons_zero, List.getElem?_cons_succ, List.set_cons_zero, List.set_cons_succ, List.length_cons, List.length_nil, List.cons_append, List.nil_append, if_true, if_false, Bool.false_eq_true, Bool.true_eq_false, reduceIte, Bool.not_true, Bool.not_false, Bool.and_true, Bool.true_and, Bool.and_false, Bool.false_and, Bool.or_true, Bool.true_or, Bool.or_false, Bool.false_or, decide_eq_true_eq, Nat.reduceAdd, Nat.reduceLeDiff, Nat.zero_add, Int.reduceLT, Int.reduceLE, Int.reduceEq, Int.reduceNeg, Nat.reduceEqDiff, and_self, and_true, true_and, decide_true, decide_false, eq_self, ite_true, ite_false, Int.reduceSub, Int.reduceAdd, Int.cast_ofNat_Int, Int.natCast_add, Int.cast_ofNat_Int, Nat.reduceSub, Nat.add_assoc, String.reduceBEq, String.reduceEq, Bool.or_not_self, beq_self_eq_true, hA_un, c3, g4]
    rw [mv]
    simp only [wp_okR, wp_okF, wp_fin, wp_next, wp_then, wp_bind, wp_nox, wp_tK, wp_bK, wp_fr, wp_fn, wp_nn, wp_nr, wp_nb, wp_nc, wp_ln, wp_lc, wp_lb, wp_lr, wp_jn, wp_jc, ev_bok, ev_bno, ev_bex, ev_tok, ev_tno, ev_tex, ev_nnx, ev_nrt, ev_nbk, ev_nct, ev_nex, ev_nno, ev_frt, ev_fnx, ev_fex, ev_xok, ev_lsome, ev_lnone, ev_seq, ev_if, ev_ret, ev_retN, ev_drop, ev_nop, ev_brk, ev_cont, ev_asgN, ev_asgT, ev_asgO, ev_mgTup, ev_mgN, ev_mgC, ev_mg0, ev_putL, ev_putO, ev_var, ev_vr, ev_c, ev_op, ev_un, ev_test, ev_tb, ev_notT, ev_andT, ev_orT, ev_ifE, ev_not, ev_nb, ev_and, ev_andK, ev_or, ev_orK, ev_chain, ev_chK, ev_nil, ev_cons, ev_tup, ev_lst, ev_new, ev_call, ev_cb, ev_size, ev_addI, ev_addS, ev_addT, ev_addL, ev_catO, ev_sub, ev_mul, ev_div, ev_mod, ev_p5, ev_p6, ev_p12, ev_p18, ev_p30, ev_neg, ev_ltI, ev_ltS, ev_leI, ev_leS, ev_gt, ev_ge, ev_eqI, ev_eqS, ev_neI, ev_neS, ev_neB, ev_eqB, ev_is, ev_isnot, ev_ixT, ev_ixS, ev_ixR, ev_ixL, ev_ixK, ev_getL, ev_getM, ev_gL, ev_gM, ev_at0, ev_at1, ev_at2, ev_at3, ev_at4, ev_lenS, ev_lenR, ev_lenT, ev_lenL, ev_lenO, ev_lenD, ev_abs, ev_min2, ev_max2, ev_intI, ev_intB, ev_set, ev_fc, ev_setset, ev_last, ev_appk, ev_app0, ev_setk, ev_set0, ev_assoc, ev_lapp, ev_lappA, ev_sl, ev_nopart, ev_part, ev_ptK, ev_slT, ev_slS, ev_slR, ev_slK, ev_tyN, ev_tyB, ev_tyI, ev_tyS, ev_tyT, ev_tyL, ev_tyR, ev_tyRL, ev_isi, ev_isi1, ev_isi2, ev_isi3, ev_isi4, ev_isi5, ev_isiT, ev_isi2K, ev_isTy, ev_list, ev_listK, ev_tuple, ev_tupK, ev_getST, ev_getSR, ev_getSL, ev_all, ev_allK, ev_eqXI, ev_eqXS, ev_neXI, ev_neXS, ev_neXB, ev_eqXB, ev_eqXR, ev_neXR, ev_nil2, ev_eqK, ev_neK, ev_meth, ev_meth0, ev_mth1, ev_mth2, ev_mth3, ev_append, ev_m0, ev_m0K, ev_str, ev_for, ev_miR1, ev_rg1K, ev_miL, ev_liK, ev_miT, ev_tiK, ev_lc, ev_wipe0, ev_wipeS, ev_yes, ev_lenSet, ev_lenSetK, ev_listR, ev_lrK, ev_put2, ev_p2A, ev_p2K, ev_p2E, ev_put1, ev_pt1, ev_addXI, ev_addXB, ev_addXS, ev_addXT, ev_addXL, ev_subXI, ev_subXB, ev_mulXI, ev_mulXB, ev_mulXL, ev_negXI, ev_negXB, ev_strXI, ev_strXB, ev_mulYI, ev_mulYB, ev_mulYL, ev_mulYT, ev_dnew, ev_dnewT, ev_dgetE, ev_getD, ev_gD, ev_keyI, ev_keyS, ev_dgK, ev_dinE, ev_diK, ev_dputE, ev_dpK, ev_dget2E, ev_isDA, ev_isSome, ev_isNone, ev_dg2K, ev_dpop2E, ev_dp2K, ev_dp3S, ev_dp3N, ev_sortedE, ev_srO1, ev_srO2, ev_gLd, ev_srKS, ev_srKI, ev_gDT, ev_gT, ev_tinE, ev_tiKK, ev_keysA, ev_keysN, ev_keysC, ev_dputTE, ev_dptK, ev_dispE, ev_mpN, ev_mpC, ev_pcK, ev_dsK, ev_dsK2, ev_lc2E, List.getElem?_cons_zero, List.getElem?_cons_succ, List.set_cons_zero, List.set_cons_succ, List.length_cons, List.length_nil, List.cons_append, List.nil_append, if_true, if_false, Bool.false_eq_true, Bool.true_eq_false, reduceIte, Bool.not_true, Bool.not_false, Bool.and_true, Bool.true_and, Bool.and_false, Bool.false_and, Bool.or_true, Bool.true_or, Bool.or_false, Bool.false_or, decide_eq_true_eq, Nat.reduceAdd, Nat.reduceLeDiff, Nat.zero_add, Int.reduceLT, Int.reduceLE, Int.reduceEq, Int.reduceNeg, Nat.reduceEqDiff, and_self, and_true, true_and, decide_true, decide_false, eq_self, ite_true, ite_false, Int.reduceSub, Int.reduceAdd, Int.cast_ofNat_Int, Int.natCast_add, Int.cast_ofNat_Int, Nat.reduceSub, Nat.add_assoc, String.reduceBEq, String.reduceEq, Bool.or_not_self, beq_self_eq_true, g4, sz, eh]
    obtain ⟨S5, hS5⟩ : ∃ S5, S5 = S4 ++ [AO.lst [hA (movedR rd w)], AO.lst (h'.map hA)] := ⟨_, rfl⟩
    have g5 : S5[S4.length + 1]? = some (.lst (h'.map hA)) := by rw [hS5]; exact ev_appk
    rw [← hS5]
    obtain ⟨q1, q2⟩ := early_wp hl' f1 f2 f3 g5 early_ok2
    have q3 := neX_rea (S := S5) (x := ("early", rd.t, w.t)) (y := ("early", rd.t, w.t)) early_ok2 early_ok2
    have rA : reaA ("early", rd.t, w.t) = .tup [.str "early", .int rd.t, .int w.t] := rfl
    rw [rA] at q1 q2 q3
    simp only [wp_okR, wp_okF, wp_fin, wp_next, wp_then, wp_bind, wp_nox, wp_tK, wp_bK, wp_fr, wp_fn, wp_nn, wp_nr, wp_nb, wp_nc, wp_ln, wp_lc, wp_lb, wp_lr, wp_jn, wp_jc, ev_bok, ev_bno, ev_bex, ev_tok, ev_tno, ev_tex, ev_nnx, ev_nrt, ev_nbk, ev_nct, ev_nex, ev_nno, ev_frt, ev_fnx, ev_fex, ev_xok, ev_lsome, ev_lnone, ev_seq, ev_if, ev_ret, ev_retN, ev_drop, ev_nop, ev_brk, ev_cont, ev_asgN, ev_asgT, ev_asgO, ev_mgTup, ev_mgN, ev_mgC, ev_mg0, ev_putL, ev_putO, ev_var, ev_vr, ev_c, ev_op, ev_un, ev_test, ev_tb, ev_notT, ev_andT, ev_orT, ev_ifE, ev_not, ev_nb, ev_and, ev_andK, ev_or, ev_orK, ev_chain, ev_chK, ev_nil, ev_cons, ev_tup, ev_lst, ev_new, ev_call, ev_cb, ev_size, ev_addI, ev_addS, ev_addT, ev_addL, ev_catO, ev_sub, ev_mul, ev_div, ev_mod, ev_p5, ev_p6, ev_p12, ev_p18, ev_p30, ev_neg, ev_ltI, ev_ltS, ev_leI, ev_leS, ev_gt, ev_ge, ev_eqI, ev_eqS, ev_neI, ev_neS, ev_neB, ev_eqB, ev_is, ev_isnot, ev_ixT, ev_ixS, ev_ixR, ev_ixL, ev_ixK, ev_getL, ev_getM, ev_gL, ev_gM, ev_at0, ev_at1, ev_at2, ev_at3, ev_at4, ev_lenS, ev_lenR, ev_lenT, ev_lenL, ev_lenO, ev_lenD, ev_abs, ev_min2, ev_max2, ev_intI, ev_intB, ev_set, ev_fc, ev_setset, ev_last, ev_appk, ev_app0, ev_setk, ev_set0, ev_assoc, ev_lapp, ev_lappA, ev_sl, ev_nopart, ev_part, ev_ptK, ev_slT, ev_slS, ev_slR, ev_slK, ev_tyN, ev_tyB, ev_tyI, ev_tyS, ev_tyT, ev_tyL, ev_tyR, ev_tyRL, ev_isi, ev_isi1, ev_isi2, ev_isi3, ev_isi4, ev_isi5, ev_isiT, ev_isi2K, ev_isTy, ev_list, ev_listK, ev_tuple, ev_tupK, ev_getST, ev_getSR, ev_getSL, ev_all, ev_allK, ev_eqXI, ev_eqXS, ev_neXI, ev_neXS, ev_neXB, ev_eqXB, ev_eqXR, ev_neXR, ev_nil2, ev_eqK, ev_neK, ev_meth, ev_meth0, ev_mth1, ev_mth2, ev_mth3, ev_append, ev_m0, ev_m0K, ev_str, ev_for, ev_miR1, ev_rg1K, ev_miL, ev_liK, ev_miT, ev_tiK, ev_lc, ev_wipe0, ev_wipeS, ev_yes, ev_lenSet, ev_lenSetK, ev_listR, ev_lrK, ev_put2, ev_p2A, ev_p2K, ev_p2E, ev_put1, ev_pt1, ev_addXI, ev_addXB, ev_addXS, ev_addXT, ev_addXL, ev_subXI, ev_subXB, ev_mulXI, ev_mulXB, ev_mulXL, ev_negXI, ev_negXB, ev_strXI, ev_strXB, ev_mulYI, ev_mulYB, ev_mulYL, ev_mulYT, ev_dnew, ev_dnewT, ev_dgetE, ev_getD, ev_gD, ev_keyI, ev_keyS, ev_dgK, ev_dinE, ev_diK, ev_dputE, ev_dpK, ev_dget2E, ev_isDA, ev_isSome, ev_isNone, ev_dg2K, ev_dpop2E, ev_dp2K, ev_dp3S, ev_dp3N, ev_sortedE, ev_srO1, ev_srO2, ev_gLd, ev_srKS, ev_srKI, ev_gDT, ev_gT, ev_tinE, ev_tiKK, ev_keysA, ev_keysN, ev_keysC, ev_dputTE, ev_dptK, ev_dispE, ev_mpN, ev_mpC, ev_pcK, ev_dsK, ev_dsK2, ev_lc2E, List.getElem?_cons_zero, List.getElem?_cons_succ, List.set_cons_zero, List.set_cons_succ, List.length_cons, List.length_nil, List.cons_append, List.nil_append, if_true, if_false, Bool.false_eq_true, Bool.true_eq_false, reduceIte, Bool.not_true, Bool.not_false, Bool.and_true, Bool.true_and, Bool.and_false, Bool.false_and, Bool.or_true, Bool.true_or, Bool.or_false, Bool.false_or, decide_eq_true_eq, Nat.reduceAdd, Nat.reduceLeDiff, Nat.zero_add, Int.reduceLT, Int.reduceLE, Int.reduceEq, Int.reduceNeg, Nat.reduceEqDiff, and_self, and_true, true_and, decide_true, decide_false, eq_self, ite_true, ite_false, Int.reduceSub, Int.reduceAdd, Int.cast_ofNat_Int, Int.natCast_add, Int.cast_ofNat_Int, Nat.reduceSub, Nat.add_assoc, String.reduceBEq, String.reduceEq, Bool.or_not_self, beq_self_eq_true, q1, q2, q3, decide_true]
    exact EnvQ.mk

theorem lbE : lb_law_2 = (sSeq (sAsg (mCall 2 m__law_bag (mCons (mVar 0) (mCons (mVar 1) mNil))) (mgName 2))
 (sSeq (sAsg (mCall 2 m__law_in_row (mCons (mVar 2) (mCons (mOp oIxD (mLst (mCons (mC (.int 5)) (mCons (mC (.int 12)) (mCons (mC (.int 30)) (mCons (mC (.int 60)) mNil))))) (mCall 2 m__law_take (mCons (mVar 2) (mCons (mC (.int 4)) mNil)))) mNil))) (mgName 3))
 (sSeq (sAsg (mOp oAddX (mC (.int 1)) (mCall 2 m__law_take (mCons (mVar 2) (mCons (mOp oPow (mC (.int 10)) (mC (.int 5))) mNil)))) (mgName 4))
 (sSeq (sAsg cOther (mgName 5))
 (sSeq (sAsg cAgain (mgName 6))
 (sSeq (sFor (miL (mLst (mCons (mVar 3) (mCons (mVar 5) (mCons (mVar 6) mNil))))) (mgName 7)
 lb_law_1)
 (sSeq (sAsg cReads (mgName 9)) fLast))))))) := rfl
theorem row_t {o : List HRow} (g : RowG o) (hl : o.length ≤ 60) : ∀ r ∈ o, r.t < 1000 := fun r hr => by
  obtain ⟨i, hi⟩ := List.mem_iff_getElem?.mp hr
  have h1 := (g.at_ i r hi).1
  have h2 := (List.getElem?_eq_some_iff.mp hi).1
  omega
theorem good_row {h o : List HRow} (g : RowG o) (p : h.Perm o) (hl : o.length ≤ 60) : Good h := ⟨(g.fine hl).perm p.symm, some_row g p, fun r hr => row_t g hl r (p.mem_iff.mp hr)⟩
theorem good_shift {h o : List HRow} {d : Int} (g : RowG o) (p : h.Perm o) (hl : o.length ≤ 60) (d0 : 0 ≤ d) (d1 : d ≤ 100000) : Good (h.map (shiftR d)) := by
  have G := good_row g p hl
  refine ⟨G.g.shift d0 fun r hr => ?_, some_shift g p d, fun r hr => ?_⟩
  · obtain ⟨i, hi⟩ := List.mem_iff_getElem?.mp (p.mem_iff.mp hr)
    have h1 := g.at_ i r hi
    have h2 := (List.getElem?_eq_some_iff.mp hi).1
    omega
  · obtain ⟨x, hx, rfl⟩ := List.mem_map.mp hr
    exact G.tt x hx
theorem good_called {h o : List HRow} (g : RowG o) (p : h.Perm o) (hl : o.length ≤ 60) : Good ((h.filter not999).map callR) := by
  have G := good_row g p hl
  refine ⟨G.g.called, some_called g p, fun r hr => ?_⟩
  obtain ⟨x, hx, rfl⟩ := List.mem_map.mp hr
  exact G.tt x (List.mem_filter.mp hx).1
theorem cell_wp {ns : List Int} {k : Nat} {z2 z3 z4 z5 z6 z7 z8 z9 z10 z11 : Option A} {S : Sto} (hk : k < 100) : okF (lb_law_2 (envC (.lit (ns.map A.int)) (some (.int (0 + (k : Int)))) z2 z3 z4 z5 z6 z7 z8 z9 z10 z11) S) (EnvQ (.lit (ns.map A.int))) := by
  rw [lbE]
  simp only [wp_okR, wp_okF, wp_fin, wp_next, wp_then, wp_bind, wp_nox, wp_tK, wp_bK, wp_fr, wp_fn, wp_nn, wp_nr, wp_nb, wp_nc, wp_ln, wp_lc, wp_lb, wp_lr, wp_jn, wp_jc, ev_bok, ev_bno, ev_bex, ev_tok, ev_tno, ev_tex, ev_nnx, ev_nrt, ev_nbk, ev_nct, ev_nex, ev_nno, ev_frt, ev_fnx, ev_fex, ev_xok, ev_lsome, ev_lnone, ev_seq, ev_if, ev_ret, ev_retN, ev_drop, ev_nop, ev_brk, ev_cont, ev_asgN, ev_asgT, ev_asgO, ev_mgTup, ev_mgN, ev_mgC, ev_mg0, ev_putL, ev_putO, ev_var, ev_vr, ev_c, ev_op, ev_un, ev_test, ev_tb, ev_notT, ev_andT, ev_orT, ev_ifE, ev_not, ev_nb, ev_and, ev_andK, ev_or, ev_orK, ev_chain, ev_chK, ev_nil, ev_cons, ev_tup, ev_lst, ev_new, ev_call, ev_cb, ev_size, ev_addI, ev_addS, ev_addT, ev_addL, ev_catO, ev_sub, ev_mul, ev_div, ev_mod, ev_p5, ev_p6, ev_p12, ev_p18, ev_p30, ev_neg, ev_ltI, ev_ltS, ev_leI, ev_leS, ev_gt, ev_ge, ev_eqI, ev_eqS, ev_neI, ev_neS, ev_neB, ev_eqB, ev_is, ev_isnot, ev_ixT, ev_ixS, ev_ixR, ev_ixL, ev_ixK, ev_getL, ev_getM, ev_gL, ev_gM, ev_at0, ev_at1, ev_at2, ev_at3, ev_at4, ev_lenS, ev_lenR, ev_lenT, ev_lenL, ev_lenO, ev_lenD, ev_abs, ev_min2, ev_max2, ev_intI, ev_intB, ev_set, ev_fc, ev_setset, ev_last, ev_appk, ev_app0, ev_setk, ev_set0, ev_assoc, ev_lapp, ev_lappA, ev_sl, ev_nopart, ev_part, ev_ptK, ev_slT, ev_slS, ev_slR, ev_slK, ev_tyN, ev_tyB, ev_tyI, ev_tyS, ev_tyT, ev_tyL, ev_tyR, ev_tyRL, ev_isi, ev_isi1, ev_isi2, ev_isi3, ev_isi4, ev_isi5, ev_isiT, ev_isi2K, ev_isTy, ev_list, ev_listK, ev_tuple, ev_tupK, ev_getST, ev_getSR, ev_getSL, ev_all, ev_allK, ev_eqXI, ev_eqXS, ev_neXI, ev_neXS, ev_neXB, ev_eqXB, ev_eqXR, ev_neXR, ev_nil2, ev_eqK, ev_neK, ev_meth, ev_meth0, ev_mth1, ev_mth2, ev_mth3, ev_append, ev_m0, ev_m0K, ev_str, ev_for, ev_miR1, ev_rg1K, ev_miL, ev_liK, ev_miT, ev_tiK, ev_lc, ev_wipe0, ev_wipeS, ev_yes, ev_lenSet, ev_lenSetK, ev_listR, ev_lrK, ev_put2, ev_p2A, ev_p2K, ev_p2E, ev_put1, ev_pt1, ev_addXI, ev_addXB, ev_addXS, ev_addXT, ev_addXL, ev_subXI, ev_subXB, ev_mulXI, ev_mulXB, ev_mulXL, ev_negXI, ev_negXB, ev_strXI, ev_strXB, ev_mulYI, ev_mulYB, ev_mulYL, ev_mulYT, ev_dnew, ev_dnewT, ev_dgetE, ev_getD, ev_gD, ev_keyI, ev_keyS, ev_dgK, ev_dinE, ev_diK, ev_dputE, ev_dpK, ev_dget2E, ev_isDA, ev_isSome, ev_isNone, ev_dg2K, ev_dpop2E, ev_dp2K, ev_dp3S, ev_dp3N, ev_sortedE, ev_srO1, ev_srO2, ev_gLd, ev_srKS, ev_srKI, ev_gDT, ev_gT, ev_tinE, ev_tiKK, ev_keysA, ev_keysN, ev_keysC, ev_dputTE, ev_dptK, ev_dispE, ev_mpN, ev_mpC, ev_pcK, ev_dsK, ev_dsK2, ev_lc2E, List.getElem?_cons_zero, List.getElem?_cons_succ, List.set_cons_zero, List.set_cons_succ, List.length_cons, List.length_nil, List.cons_append, List.nil_append, if_true, if_false, Bool.false_eq_true, Bool.true_eq_false, reduceIte, Bool.not_true, Bool.not_false, Bool.and_true, Bool.true_and, Bool.and_false, Bool.false_and, Bool.or_true, Bool.true_or, Bool.or_false, Bool.false_or, decide_eq_true_eq, Nat.reduceAdd, Nat.reduceLeDiff, Nat.zero_add, Int.reduceLT, Int.reduceLE, Int.reduceEq, Int.reduceNeg, Nat.reduceEqDiff, and_self, and_true, true_and, decide_true, decide_false, eq_self, ite_true, ite_false, Int.reduceSub, Int.reduceAdd, Int.cast_ofNat_Int, Int.natCast_add, Int.cast_ofNat_Int, Nat.reduceSub, Nat.add_assoc, String.reduceBEq, String.reduceEq, Bool.or_not_self, beq_self_eq_true]
  refine okR_use (bag_wp (by omega) (by omega)) fun a t ht => ?_
  obtain ⟨rfl, o', rfl, B1⟩ := ht
  obtain ⟨b, hb⟩ : ∃ b, b = S.length := ⟨_, rfl⟩
  rw [← hb] at B1 ⊢
  obtain ⟨S1, hS1⟩ : ∃ S1, S1 = S ++ [o'] := ⟨_, rfl⟩
  rw [← hS1] at B1 ⊢
  simp only [wp_okR, wp_okF, wp_fin, wp_next, wp_then, wp_bind, wp_nox, wp_tK, wp_bK, wp_fr, wp_fn, wp_nn, wp_nr, wp_nb, wp_nc, wp_ln, wp_lc, wp_lb, wp_lr, wp_jn, wp_jc, ev_bok, ev_bno, ev_bex, ev_tok, ev_tno, ev_tex, ev_nnx, ev_nrt, ev_nbk, ev_nct, ev_nex, ev_nno, ev_frt, ev_fnx, ev_fex, ev_xok, ev_lsome, ev_lnone, ev_seq, ev_if, ev_ret, ev_retN, ev_drop, ev_nop, ev_brk, ev_cont, ev_asgN, ev_asgT, ev_asgO, ev_mgTup, ev_mgN, ev_mgC, ev_mg0, ev_putL, ev_putO, ev_var, ev_vr, ev_c, ev_op, ev_un, ev_test, ev_tb, ev_notT, ev_andT, ev_orT, ev_ifE, ev_not, ev_nb, ev_and, ev_andK, ev_or, ev_orK, ev_chain, ev_chK, ev_nil, ev_cons, ev_tup, ev_lst, ev_new, ev_call, ev_cb, ev_size, ev_addI, ev_addS, ev_addT, ev_addL, ev_catO, ev_sub, ev_mul, ev_div, ev_mod, ev_p5, ev_p6, ev_p12, ev_p18, ev_p30, ev_neg, ev_ltI, ev_ltS, ev_leI, ev_leS, ev_gt, ev_ge, ev_eqI, ev_eqS, ev_neI, ev_neS, ev_neB, ev_eqB, ev_is, ev_isnot, ev_ixT, ev_ixS, ev_ixR, ev_ixL, ev_ixK, ev_getL, ev_getM, ev_gL, ev_gM, ev_at0, ev_at1, ev_at2, ev_at3, ev_at4, ev_lenS, ev_lenR, ev_lenT, ev_lenL, ev_lenO, ev_lenD, ev_abs, ev_min2, ev_max2, ev_intI, ev_intB, ev_set, ev_fc, ev_setset, ev_last, ev_appk, ev_app0, ev_setk, ev_set0, ev_assoc, ev_lapp, ev_lappA, ev_sl, ev_nopart, ev_part, ev_ptK, ev_slT, ev_slS, ev_slR, ev_slK, ev_tyN, ev_tyB, ev_tyI, ev_tyS, ev_tyT, ev_tyL, ev_tyR, ev_tyRL, ev_isi, ev_isi1, ev_isi2, ev_isi3, ev_isi4, ev_isi5, ev_isiT, ev_isi2K, ev_isTy, ev_list, ev_listK, ev_tuple, ev_tupK, ev_getST, ev_getSR, ev_getSL, ev_all, ev_allK, ev_eqXI, ev_eqXS, ev_neXI, ev_neXS, ev_neXB, ev_eqXB, ev_eqXR, ev_neXR, ev_nil2, ev_eqK, ev_neK, ev_meth, ev_meth0, ev_mth1, ev_mth2, ev_mth3, ev_append, ev_m0, ev_m0K, ev_str, ev_for, ev_miR1, ev_rg1K, ev_miL, ev_liK, ev_miT, ev_tiK, ev_lc, ev_wipe0, ev_wipeS, ev_yes, ev_lenSet, ev_lenSetK, ev_listR, ev_lrK, ev_put2, ev_p2A, ev_p2K, ev_p2E, ev_put1, ev_pt1, ev_addXI, ev_addXB, ev_addXS, ev_addXT, ev_addXL, ev_subXI, ev_subXB, ev_mulXI, ev_mulXB, ev_mulXL, ev_negXI, ev_negXB, ev_strXI, ev_strXB, ev_mulYI, ev_mulYB, ev_mulYL, ev_mulYT, ev_dnew, ev_dnewT, ev_dgetE, ev_getD, ev_gD, ev_keyI, ev_keyS, ev_dgK, ev_dinE, ev_diK, ev_dputE, ev_dpK, ev_dget2E, ev_isDA, ev_isSome, ev_isNone, ev_dg2K, ev_dpop2E, ev_dp2K, ev_dp3S, ev_dp3N, ev_sortedE, ev_srO1, ev_srO2, ev_gLd, ev_srKS, ev_srKI, ev_gDT, ev_gT, ev_tinE, ev_tiKK, ev_keysA, ev_keysN, ev_keysC, ev_dputTE, ev_dptK, ev_dispE, ev_mpN, ev_mpC, ev_pcK, ev_dsK, ev_dsK2, ev_lc2E, List.getElem?_cons_zero, List.getElem?_cons_succ, List.set_cons_zero, List.set_cons_succ, List.length_cons, List.length_nil, List.cons_append, List.nil_append, if_true, if_false, Bool.false_eq_true, Bool.true_eq_false, reduceIte, Bool.not_true, Bool.not_false, Bool.and_true, Bool.true_and, Bool.and_false, Bool.false_and, Bool.or_true, Bool.true_or, Bool.or_false, Bool.false_or, decide_eq_true_eq, Nat.reduceAdd, Nat.reduceLeDiff, Nat.zero_add, Int.reduceLT, Int.reduceLE, Int.reduceEq, Int.reduceNeg, Nat.reduceEqDiff, and_self, and_true, true_and, decide_true, decide_false, eq_self, ite_true, ite_false, Int.reduceSub, Int.reduceAdd, Int.cast_ofNat_Int, Int.natCast_add, Int.cast_ofNat_Int, Nat.reduceSub, Nat.add_assoc, String.reduceBEq, String.reduceEq, Bool.or_not_self, beq_self_eq_true]
  refine okR_use (take_wp (B1.app _) (by decide) (by decide)) fun a S2 ht => ?_
  obtain ⟨r, rfl, r0, r1, D2⟩ := ht
  have b1 := B1.lt
  have g2 : S2[S1.length]? = some (.lst ([5, 12, 30, 60].map A.int)) := D2.get ev_last (by omega)
  obtain ⟨many, mm, gm, _⟩ := pickI (ns := [5, 12, 30, 60]) r0 r1
  have hm : 0 ≤ many ∧ many ≤ 60 := by
    simp only [List.mem_cons, List.not_mem_nil, or_false] at mm
    omega
  simp only [List.map_cons, List.map_nil] at g2 gm
  simp only [wp_okR, wp_okF, wp_fin, wp_next, wp_then, wp_bind, wp_nox, wp_tK, wp_bK, wp_fr, wp_fn, wp_nn, wp_nr, wp_nb, wp_nc, wp_ln, wp_lc, wp_lb, wp_lr, wp_jn, wp_jc, ev_bok, ev_bno, ev_bex, ev_tok, ev_tno, ev_tex, ev_nnx, ev_nrt, ev_nbk, ev_nct, ev_nex, ev_nno, ev_frt, ev_fnx, ev_fex, ev_xok, ev_lsome, ev_lnone, ev_seq, ev_if, ev_ret, ev_retN, ev_drop, ev_nop, ev_brk, ev_cont, ev_asgN, ev_asgT, ev_asgO, ev_mgTup, ev_mgN, ev_mgC, ev_mg0, ev_putL, ev_putO, ev_var, ev_vr, ev_c, ev_op, ev_un, ev_test, ev_tb, ev_notT, ev_andT, ev_orT, ev_ifE, ev_not, ev_nb, ev_and, ev_andK, ev_or, ev_orK, ev_chain, ev_chK, ev_nil, ev_cons, ev_tup, ev_lst, ev_new, ev_call, ev_cb, ev_size, ev_addI, ev_addS, ev_addT, ev_addL, ev_catO, ev_sub, ev_mul, ev_div, ev_mod, ev_p5, ev_p6, ev_p12, ev_p18, ev_p30, ev_neg, ev_ltI, ev_ltS, ev_leI, ev_leS, ev_gt, ev_ge, ev_eqI, ev_eqS, ev_neI, ev_neS, ev_neB, ev_eqB, ev_is, ev_isnot, ev_ixT, ev_ixS, ev_ixR, ev_ixL, ev_ixK, ev_getL, ev_getM, ev_gL, ev_gM, ev_at0, ev_at1, ev_at2, ev_at3, ev_at4, ev_lenS, ev_lenR, ev_lenT, ev_lenL, ev_lenO, ev_lenD, ev_abs, ev_min2, ev_max2, ev_intI, ev_intB, ev_set, ev_fc, ev_setset, ev_last, ev_appk, ev_app0, ev_setk, ev_set0, ev_assoc, ev_lapp, ev_lappA, ev_sl, ev_nopart, ev_part, ev_ptK, ev_slT, ev_slS, ev_slR, ev_slK, ev_tyN, ev_tyB, ev_tyI, ev_tyS, ev_tyT, ev_tyL, ev_tyR, ev_tyRL, ev_isi, ev_isi1, ev_isi2, ev_isi3, ev_isi4, ev_isi5, ev_isiT, ev_isi2K, ev_isTy, ev_list, ev_listK, ev_tuple, ev_tupK, ev_getST, ev_getSR, ev_getSL, ev_all, ev_allK, ev_eqXI, ev_eqXS, ev_neXI, ev_neXS, ev_neXB, ev_eqXB, ev_eqXR, ev_neXR, ev_nil2, ev_eqK, ev_neK, ev_meth, ev_meth0, ev_mth1, ev_mth2, ev_mth3, ev_append, ev_m0, ev_m0K, ev_str, ev_for, ev_miR1, ev_rg1K, ev_miL, ev_liK, ev_miT, ev_tiK, ev_lc, ev_wipe0, ev_wipeS, ev_yes, ev_lenSet, ev_lenSetK, ev_listR, ev_lrK, ev_put2, ev_p2A, ev_p2K, ev_p2E, ev_put1, ev_pt1, ev_addXI, ev_addXB, ev_addXS, ev_addXT, ev_addXL, ev_subXI, ev_subXB, ev_mulXI, ev_mulXB, ev_mulXL, ev_negXI, ev_negXB, ev_strXI, ev_strXB, ev_mulYI, ev_mulYB, ev_mulYL, ev_mulYT, ev_dnew, ev_dnewT, ev_dgetE, ev_getD, ev_gD, ev_keyI, ev_keyS, ev_dgK, ev_dinE, ev_diK, ev_dputE, ev_dpK, ev_dget2E, ev_isDA, ev_isSome, ev_isNone, ev_dg2K, ev_dpop2E, ev_dp2K, ev_dp3S, ev_dp3N, ev_sortedE, ev_srO1, ev_srO2, ev_gLd, ev_srKS, ev_srKI, ev_gDT, ev_gT, ev_tinE, ev_tiKK, ev_keysA, ev_keysN, ev_keysC, ev_dputTE, ev_dptK, ev_dispE, ev_mpN, ev_mpC, ev_pcK, ev_dsK, ev_dsK2, ev_lc2E, List.getElem?_cons_zero, List.getElem?_cons_succ, List.set_cons_zero, List.set_cons_succ, List.length_cons, List.length_nil, List.cons_append, List.nil_append, if_true, if_false, Bool.false_eq_true, Bool.true_eq_false, reduceIte, Bool.not_true, Bool.not_false, Bool.and_true, Bool.true_and, Bool.and_false, Bool.false_and, Bool.or_true, Bool.true_or, Bool.or_false, Bool.false_or, decide_eq_true_eq, Nat.reduceAdd, Nat.reduceLeDiff, Nat.zero_add, Int.reduceLT, Int.reduceLE, Int.reduceEq, Int.reduceNeg, Nat.reduceEqDiff, and_self, and_true, true_and, decide_true, decide_false, eq_self, ite_true, ite_false, Int.reduceSub, Int.reduceAdd, Int.cast_ofNat_Int, Int.natCast_add, Int.cast_ofNat_Int, Nat.reduceSub, Nat.add_assoc, String.reduceBEq, String.reduceEq, Bool.or_not_self, beq_self_eq_true, g2, gm]
  refine okR_use (inRow_wp D2.bag hm.1 hm.2) fun a S3 ht => ?_
  obtain ⟨o, rfl, I, ol, D3⟩ := ht
  obtain ⟨h, hh, hp⟩ := I.h
  have olen : o.length ≤ 60 := by omega
  have hlen := hp.length_eq
  have b2 := D2.lt
  obtain ⟨n, hn⟩ : ∃ n, n = S2.length := ⟨_, rfl⟩
  rw [← hn] at hh ⊢
  simp only [wp_okR, wp_okF, wp_fin, wp_next, wp_then, wp_bind, wp_nox, wp_tK, wp_bK, wp_fr, wp_fn, wp_nn, wp_nr, wp_nb, wp_nc, wp_ln, wp_lc, wp_lb, wp_lr, wp_jn, wp_jc, ev_bok, ev_bno, ev_bex, ev_tok, ev_tno, ev_tex, ev_nnx, ev_nrt, ev_nbk, ev_nct, ev_nex, ev_nno, ev_frt, ev_fnx, ev_fex, ev_xok, ev_lsome, ev_lnone, ev_seq, ev_if, ev_ret, ev_retN, ev_drop, ev_nop, ev_brk, ev_cont, ev_asgN, ev_asgT, ev_asgO, ev_mgTup, ev_mgN, ev_mgC, ev_mg0, ev_putL, ev_putO, ev_var, ev_vr, ev_c, ev_op, ev_un, ev_test, ev_tb, ev_notT, ev_andT, ev_orT, ev_ifE, ev_not, ev_nb, ev_and, ev_andK, ev_or, ev_orK, ev_chain, ev_chK, ev_nil, ev_cons, ev_tup, ev_lst, ev_new, ev_call, ev_cb, ev_size, ev_addI, ev_addS, ev_addT, ev_addL, ev_catO, ev_sub, ev_mul, ev_div, ev_mod, ev_p5, ev_p6, ev_p12, ev_p18, ev_p30, ev_neg, ev_ltI, ev_ltS, ev_leI, ev_leS, ev_gt, ev_ge, ev_eqI, ev_eqS, ev_neI, ev_neS, ev_neB, ev_eqB, ev_is, ev_isnot, ev_ixT, ev_ixS, ev_ixR, ev_ixL, ev_ixK, ev_getL, ev_getM, ev_gL, ev_gM, ev_at0, ev_at1, ev_at2, ev_at3, ev_at4, ev_lenS, ev_lenR, ev_lenT, ev_lenL, ev_lenO, ev_lenD, ev_abs, ev_min2, ev_max2, ev_intI, ev_intB, ev_set, ev_fc, ev_setset, ev_last, ev_appk, ev_app0, ev_setk, ev_set0, ev_assoc, ev_lapp, ev_lappA, ev_sl, ev_nopart, ev_part, ev_ptK, ev_slT, ev_slS, ev_slR, ev_slK, ev_tyN, ev_tyB, ev_tyI, ev_tyS, ev_tyT, ev_tyL, ev_tyR, ev_tyRL, ev_isi, ev_isi1, ev_isi2, ev_isi3, ev_isi4, ev_isi5, ev_isiT, ev_isi2K, ev_isTy, ev_list, ev_listK, ev_tuple, ev_tupK, ev_getST, ev_getSR, ev_getSL, ev_all, ev_allK, ev_eqXI, ev_eqXS, ev_neXI, ev_neXS, ev_neXB, ev_eqXB, ev_eqXR, ev_neXR, ev_nil2, ev_eqK, ev_neK, ev_meth, ev_meth0, ev_mth1, ev_mth2, ev_mth3, ev_append, ev_m0, ev_m0K, ev_str, ev_for, ev_miR1, ev_rg1K, ev_miL, ev_liK, ev_miT, ev_tiK, ev_lc, ev_wipe0, ev_wipeS, ev_yes, ev_lenSet, ev_lenSetK, ev_listR, ev_lrK, ev_put2, ev_p2A, ev_p2K, ev_p2E, ev_put1, ev_pt1, ev_addXI, ev_addXB, ev_addXS, ev_addXT, ev_addXL, ev_subXI, ev_subXB, ev_mulXI, ev_mulXB, ev_mulXL, ev_negXI, ev_negXB, ev_strXI, ev_strXB, ev_mulYI, ev_mulYB, ev_mulYL, ev_mulYT, ev_dnew, ev_dnewT, ev_dgetE, ev_getD, ev_gD, ev_keyI, ev_keyS, ev_dgK, ev_dinE, ev_diK, ev_dputE, ev_dpK, ev_dget2E, ev_isDA, ev_isSome, ev_isNone, ev_dg2K, ev_dpop2E, ev_dp2K, ev_dp3S, ev_dp3N, ev_sortedE, ev_srO1, ev_srO2, ev_gLd, ev_srKS, ev_srKI, ev_gDT, ev_gT, ev_tinE, ev_tiKK, ev_keysA, ev_keysN, ev_keysC, ev_dputTE, ev_dptK, ev_dispE, ev_mpN, ev_mpC, ev_pcK, ev_dsK, ev_dsK2, ev_lc2E, List.getElem?_cons_zero, List.getElem?_cons_succ, List.set_cons_zero, List.set_cons_succ, List.length_cons, List.length_nil, List.cons_append, List.nil_append, if_true, if_false, Bool.false_eq_true, Bool.true_eq_false, reduceIte, Bool.not_true, Bool.not_false, Bool.and_true, Bool.true_and, Bool.and_false, Bool.false_and, Bool.or_true, Bool.true_or, Bool.or_false, Bool.false_or, decide_eq_true_eq, Nat.reduceAdd, Nat.reduceLeDiff, Nat.zero_add, Int.reduceLT, Int.reduceLE, Int.reduceEq, Int.reduceNeg, Nat.reduceEqDiff, and_self, and_true, true_and, decide_true, decide_false, eq_self, ite_true, ite_false, Int.reduceSub, Int.reduceAdd, Int.cast_ofNat_Int, Int.natCast_add, Int.cast_ofNat_Int, Nat.reduceSub, Nat.add_assoc, String.reduceBEq, String.reduceEq, Bool.or_not_self, beq_self_eq_true]
  refine okR_use (take_wp D3.bag (by decide) (by decide)) fun a S4 ht => ?_
  obtain ⟨d, rfl, d0, d1, D4⟩ := ht
  have e4 := D4.get hh (by omega)
  have b4 := D4.lt
  simp only [wp_bK, wp_tK, ev_addXI, wp_okR, wp_okF, wp_nn, ev_seq, wp_next, ev_asgN, wp_then, List.set_cons_succ, List.set_cons_zero]
  refine cOther_wp e4 (by omega) ?_
  obtain ⟨S5, hS5⟩ : ∃ S5, S5 = S4 ++ [AO.lst ((h.map (shiftR (1 + d))).map hA)] := ⟨_, rfl⟩
  have D5 : Dr b S4 S5 := by rw [hS5]; exact (Dr.refl D4.bag).app _
  have f5 : S5[S4.length]? = some (.lst ((h.map (shiftR (1 + d))).map hA)) := by rw [hS5]; exact ev_last
  have e5 := D5.get e4 (by omega)
  rw [← hS5]
  simp only [wp_tK, wp_okF, wp_nn, ev_seq, wp_next, ev_asgN, wp_then, List.set_cons_succ, List.set_cons_zero]
  refine cAgain_wp e5 (by omega) fun l => ?_
  obtain ⟨S6, hS6⟩ : ∃ S6, S6 = S5 ++ AO.lst (((h.filter not999).map callR).map hA) :: l := ⟨_, rfl⟩
  have D6 : Dr b S5 S6 := by rw [hS6]; exact (Dr.refl D5.bag).apps _
  have g6 : S6[S5.length]? = some (.lst (((h.filter not999).map callR).map hA)) := by rw [hS6]; exact ev_app0
  have f6 := D6.get f5 (by omega)
  have e6 := D6.get e5 (by omega)
  rw [← hS6]
  simp only [wp_okR, wp_okF, wp_fin, wp_next, wp_then, wp_bind, wp_nox, wp_tK, wp_bK, wp_fr, wp_fn, wp_nn, wp_nr, wp_nb, wp_nc, wp_ln, wp_lc, wp_lb, wp_lr, wp_jn, wp_jc, ev_bok, ev_bno, ev_bex, ev_tok, ev_tno, ev_tex, ev_nnx, ev_nrt, ev_nbk, ev_nct, ev_nex, ev_nno, ev_frt, ev_fnx, ev_fex, ev_xok, ev_lsome, ev_lnone, ev_seq, ev_if, ev_ret, ev_retN, ev_drop, ev_nop, ev_brk, ev_cont, ev_asgN, ev_asgT, ev_asgO, ev_mgTup, ev_mgN, ev_mgC, ev_mg0, ev_putL, ev_putO, ev_var, ev_vr, ev_c, ev_op, ev_un, ev_test, ev_tb, ev_notT, ev_andT, ev_orT, ev_ifE, ev_not, ev_nb, ev_and, ev_andK, ev_or, ev_orK, ev_chain, ev_chK, ev_nil, ev_cons, ev_tup, ev_lst, ev_new, ev_call, ev_cb, ev_size, ev_addI, ev_addS, ev_addT, ev_addL, ev_catO, ev_sub, ev_mul, ev_div, ev_mod, ev_p5, ev_p6, ev_p12, ev_p18, ev_p30, ev_neg, ev_ltI, ev_ltS, ev_leI, ev_leS, ev_gt, ev_ge, ev_eqI, ev_eqS, ev_neI, ev_neS, ev_neB, ev_eqB, ev_is, ev_isnot, ev_ixT, ev_ixS, ev_ixR, ev_ixL, ev_ixK, ev_getL, ev_getM, ev_gL, ev_gM, ev_at0, ev_at1, ev_at2, ev_at3, ev_at4, ev_lenS, ev_lenR, ev_lenT, ev_lenL, ev_lenO, ev_lenD, ev_abs, ev_min2, ev_max2, ev_intI, ev_intB, ev_set, ev_fc, ev_setset, ev_last, ev_appk, ev_app0, ev_setk, ev_set0, ev_assoc, ev_lapp, ev_lappA, ev_sl, ev_nopart, ev_part, ev_ptK, ev_slT, ev_slS, ev_slR, ev_slK, ev_tyN, ev_tyB, ev_tyI, ev_tyS, ev_tyT, ev_tyL, ev_tyR, ev_tyRL, ev_isi, ev_isi1, ev_isi2, ev_isi3, ev_isi4, ev_isi5, ev_isiT, ev_isi2K, ev_isTy, ev_list, ev_listK, ev_tuple, ev_tupK, ev_getST, ev_getSR, ev_getSL, ev_all, ev_allK, ev_eqXI, ev_eqXS, ev_neXI, ev_neXS, ev_neXB, ev_eqXB, ev_eqXR, ev_neXR, ev_nil2, ev_eqK, ev_neK, ev_meth, ev_meth0, ev_mth1, ev_mth2, ev_mth3, ev_append, ev_m0, ev_m0K, ev_str, ev_for, ev_miR1, ev_rg1K, ev_miL, ev_liK, ev_miT, ev_tiK, ev_lc, ev_wipe0, ev_wipeS, ev_yes, ev_lenSet, ev_lenSetK, ev_listR, ev_lrK, ev_put2, ev_p2A, ev_p2K, ev_p2E, ev_put1, ev_pt1, ev_addXI, ev_addXB, ev_addXS, ev_addXT, ev_addXL, ev_subXI, ev_subXB, ev_mulXI, ev_mulXB, ev_mulXL, ev_negXI, ev_negXB, ev_strXI, ev_strXB, ev_mulYI, ev_mulYB, ev_mulYL, ev_mulYT, ev_dnew, ev_dnewT, ev_dgetE, ev_getD, ev_gD, ev_keyI, ev_keyS, ev_dgK, ev_dinE, ev_diK, ev_dputE, ev_dpK, ev_dget2E, ev_isDA, ev_isSome, ev_isNone, ev_dg2K, ev_dpop2E, ev_dp2K, ev_dp3S, ev_dp3N, ev_sortedE, ev_srO1, ev_srO2, ev_gLd, ev_srKS, ev_srKI, ev_gDT, ev_gT, ev_tinE, ev_tiKK, ev_keysA, ev_keysN, ev_keysC, ev_dputTE, ev_dptK, ev_dispE, ev_mpN, ev_mpC, ev_pcK, ev_dsK, ev_dsK2, ev_lc2E, List.getElem?_cons_zero, List.getElem?_cons_succ, List.set_cons_zero, List.set_cons_succ, List.length_cons, List.length_nil, List.cons_append, List.nil_append, if_true, if_false, Bool.false_eq_true, Bool.true_eq_false, reduceIte, Bool.not_true, Bool.not_false, Bool.and_true, Bool.true_and, Bool.and_false, Bool.false_and, Bool.or_true, Bool.true_or, Bool.or_false, Bool.false_or, decide_eq_true_eq, Nat.reduceAdd, Nat.reduceLeDiff, Nat.zero_add, Int.reduceLT, Int.reduceLE, Int.reduceEq, Int.reduceNeg, Nat.reduceEqDiff, and_self, and_true, true_and, decide_true, decide_false, eq_self, ite_true, ite_false, Int.reduceSub, Int.reduceAdd, Int.cast_ofNat_Int, Int.natCast_add, Int.cast_ofNat_Int, Nat.reduceSub, Nat.add_assoc, String.reduceBEq, String.reduceEq, Bool.or_not_self, beq_self_eq_true]
  obtain ⟨S7, hS7⟩ : ∃ S7, S7 = S6 ++ [AO.lst [A.ref n, .ref S4.length, .ref S5.length]] := ⟨_, rfl⟩
  have D7 : Dr b S6 S7 := by rw [hS7]; exact (Dr.refl D6.bag).app _
  have L7 : S7[S6.length]? = some (.lst [A.ref n, .ref S4.length, .ref S5.length]) := by rw [hS7]; exact ev_last
  have l5 := D5.lt
  rw [← hS7]
  refine loop_wp (good_row I.g hp olen) (good_shift (d := 1 + d) I.g hp olen (by omega) (by omega)) (good_called I.g hp olen) L7 (D7.get e6 (by omega)) (D7.get f6 (by omega)) (D7.get g6 (by omega)) fun z7 z8 l2 => ?_
  have D8 : Dr b S7 (S7 ++ l2) := (Dr.refl D7.bag).apps _
  have e8 := D8.get (D7.get e6 (by omega)) (by omega)
  obtain ⟨S8, hS8⟩ : ∃ S8, S8 = S7 ++ l2 := ⟨_, rfl⟩
  rw [← hS8] at e8 D8 ⊢
  simp only [wp_tK, wp_okF, wp_nn, ev_seq, wp_next, ev_asgN, wp_then, List.set_cons_succ, List.set_cons_zero]
  refine cReads_wp e8 (by omega) fun l3 => ?_
  have D9 : Dr b S8 (S8 ++ AO.lst ((h.filter isRd).map hA) :: l3) := (Dr.refl D8.bag).apps _
  have l8 := D8.lt
  simp only [wp_tK, wp_okF, wp_nn, List.set_cons_succ, List.set_cons_zero]
  exact fLast_wp (good_row I.g hp olen) D9.bag (by omega) (by omega) (D9.get e8 (by omega)) ev_app0
theorem law_true : ∀ ns : List Int, ns.length ≤ 63 → ∃ st, m_law [.lit (ns.map A.int)] [] = .ok (.bl true) st := fun ns hl => by
  obtain ⟨m, hm, hm2⟩ : ∃ m : Int, m = 1 + (if (4 : Int) < (ns.length : Nat) then 4 else ((ns.length : Nat) : Int)) ∧ m < 100 ∧ 0 ≤ m := ⟨_, rfl, by split <;> omega, by split <;> omega⟩
  have key : okR (m_law [.lit (ns.map A.int)] []) fun a _ => a = .bl true := by
    rw [st_law]
    unfold b_law
    have c1 : (-(2 ^ 62) ≤ m ∧ m < 2 ^ 62) = True := eq_true ⟨by omega, by omega⟩
    rw [← List.length_map (f := A.int) (as := ns)] at hm
    simp only [wp_okR, wp_okF, wp_fin, wp_next, wp_then, wp_bind, wp_nox, wp_tK, wp_bK, wp_fr, wp_fn, wp_nn, wp_nr, wp_nb, wp_nc, wp_ln, wp_lc, wp_lb, wp_lr, wp_jn, wp_jc, ev_bok, ev_bno, ev_bex, ev_tok, ev_tno, ev_tex, ev_nnx, ev_nrt, ev_nbk, ev_nct, ev_nex, ev_nno, ev_frt, ev_fnx, ev_fex, ev_xok, ev_lsome, ev_lnone, ev_seq, ev_if, ev_ret, ev_retN, ev_drop, ev_nop, ev_brk, ev_cont, ev_asgN, ev_asgT, ev_asgO, ev_mgTup, ev_mgN, ev_mgC, ev_mg0, ev_putL, ev_putO, ev_var, ev_vr, ev_c, ev_op, ev_un, ev_test, ev_tb, ev_notT, ev_andT, ev_orT, ev_ifE, ev_not, ev_nb, ev_and, ev_andK, ev_or, ev_orK, ev_chain, ev_chK, ev_nil, ev_cons, ev_tup, ev_lst, ev_new, ev_call, ev_cb, ev_size, ev_addI, ev_addS, ev_addT, ev_addL, ev_catO, ev_sub, ev_mul, ev_div, ev_mod, ev_p5, ev_p6, ev_p12, ev_p18, ev_p30, ev_neg, ev_ltI, ev_ltS, ev_leI, ev_leS, ev_gt, ev_ge, ev_eqI, ev_eqS, ev_neI, ev_neS, ev_neB, ev_eqB, ev_is, ev_isnot, ev_ixT, ev_ixS, ev_ixR, ev_ixL, ev_ixK, ev_getL, ev_getM, ev_gL, ev_gM, ev_at0, ev_at1, ev_at2, ev_at3, ev_at4, ev_lenS, ev_lenR, ev_lenT, ev_lenL, ev_lenO, ev_lenD, ev_abs, ev_min2, ev_max2, ev_intI, ev_intB, ev_set, ev_fc, ev_setset, ev_last, ev_appk, ev_app0, ev_setk, ev_set0, ev_assoc, ev_lapp, ev_lappA, ev_sl, ev_nopart, ev_part, ev_ptK, ev_slT, ev_slS, ev_slR, ev_slK, ev_tyN, ev_tyB, ev_tyI, ev_tyS, ev_tyT, ev_tyL, ev_tyR, ev_tyRL, ev_isi, ev_isi1, ev_isi2, ev_isi3, ev_isi4, ev_isi5, ev_isiT, ev_isi2K, ev_isTy, ev_list, ev_listK, ev_tuple, ev_tupK, ev_getST, ev_getSR, ev_getSL, ev_all, ev_allK, ev_eqXI, ev_eqXS, ev_neXI, ev_neXS, ev_neXB, ev_eqXB, ev_eqXR, ev_neXR, ev_nil2, ev_eqK, ev_neK, ev_meth, ev_meth0, ev_mth1, ev_mth2, ev_mth3, ev_append, ev_m0, ev_m0K, ev_str, ev_for, ev_miR1, ev_rg1K, ev_miL, ev_liK, ev_miT, ev_tiK, ev_lc, ev_wipe0, ev_wipeS, ev_yes, ev_lenSet, ev_lenSetK, ev_listR, ev_lrK, ev_put2, ev_p2A, ev_p2K, ev_p2E, ev_put1, ev_pt1, ev_addXI, ev_addXB, ev_addXS, ev_addXT, ev_addXL, ev_subXI, ev_subXB, ev_mulXI, ev_mulXB, ev_mulXL, ev_negXI, ev_negXB, ev_strXI, ev_strXB, ev_mulYI, ev_mulYB, ev_mulYL, ev_mulYT, ev_dnew, ev_dnewT, ev_dgetE, ev_getD, ev_gD, ev_keyI, ev_keyS, ev_dgK, ev_dinE, ev_diK, ev_dputE, ev_dpK, ev_dget2E, ev_isDA, ev_isSome, ev_isNone, ev_dg2K, ev_dpop2E, ev_dp2K, ev_dp3S, ev_dp3N, ev_sortedE, ev_srO1, ev_srO2, ev_gLd, ev_srKS, ev_srKI, ev_gDT, ev_gT, ev_tinE, ev_tiKK, ev_keysA, ev_keysN, ev_keysC, ev_dputTE, ev_dptK, ev_dispE, ev_mpN, ev_mpC, ev_pcK, ev_dsK, ev_dsK2, ev_lc2E, List.getElem?_cons_zero, List.getElem?_cons_succ, List.set_cons_zero, List.set_cons_succ, List.length_cons, List.length_nil, List.cons_append, List.nil_append, if_true, if_false, Bool.false_eq_true, Bool.true_eq_false, reduceIte, Bool.not_true, Bool.not_false, Bool.and_true, Bool.true_and, Bool.and_false, Bool.false_and, Bool.or_true, Bool.true_or, Bool.or_false, Bool.false_or, decide_eq_true_eq, Nat.reduceAdd, Nat.reduceLeDiff, Nat.zero_add, Int.reduceLT, Int.reduceLE, Int.reduceEq, Int.reduceNeg, Nat.reduceEqDiff, and_self, and_true, true_and, decide_true, decide_false, eq_self, ite_true, ite_false, Int.reduceSub, Int.reduceAdd, Int.cast_ofNat_Int, Int.natCast_add, Int.cast_ofNat_Int, Nat.reduceSub, Nat.add_assoc, String.reduceBEq, String.reduceEq, Bool.or_not_self, beq_self_eq_true, ← hm, c1]
    refine forL_wp (j := 0) (fun _ env _ => ∃ z1 z2 z3 z4 z5 z6 z7 z8 z9 z10 z11, env = envC (.lit (ns.map A.int)) z1 z2 z3 z4 z5 z6 z7 z8 z9 z10 z11) (fun _ _ _ _ => trivial) ⟨_, _, _, _, _, _, _, _, _, _, _, rfl⟩ (fun i x env S hx hI => ?_) (fun env S hI => ?_)
    · obtain ⟨z1, z2, z3, z4, z5, z6, z7, z8, z9, z10, z11, rfl⟩ := hI
      obtain ⟨rfl, hi⟩ := rngA_get hx
      refine ⟨_, rfl, okF_use (cell_wp (by omega)) fun fl t ht => ?_⟩
      cases fl with
      | nx e => exact ht
      | ct e => exact ht
      | _ => exact ht.elim
    · obtain ⟨z1, z2, z3, z4, z5, z6, z7, z8, z9, z10, z11, rfl⟩ := hI
      simp only [wp_okR, wp_okF, wp_fin, wp_next, wp_then, wp_bind, wp_nox, wp_tK, wp_bK, wp_fr, wp_fn, wp_nn, wp_nr, wp_nb, wp_nc, wp_ln, wp_lc, wp_lb, wp_lr, wp_jn, wp_jc, ev_bok, ev_bno, ev_bex, ev_tok, ev_tno, ev_tex, ev_nnx, ev_nrt, ev_nbk, ev_nct, ev_nex, ev_nno, ev_frt, ev_fnx, ev_fex, ev_xok, ev_lsome, ev_lnone, ev_seq, ev_if, ev_ret, ev_retN, ev_drop, ev_nop, ev_brk, ev_cont, ev_asgN, ev_asgT, ev_asgO, ev_mgTup, ev_mgN, ev_mgC, ev_mg0, ev_putL, ev_putO, ev_var, ev_vr, ev_c, ev_op, ev_un, ev_test, ev_tb, ev_notT, ev_andT, ev_orT, ev_ifE, ev_not, ev_nb, ev_and, ev_andK, ev_or, ev_orK, ev_chain, ev_chK, ev_nil, ev_cons, ev_tup, ev_lst, ev_new, ev_call, ev_cb, ev_size, ev_addI, ev_addS, ev_addT, ev_addL, ev_catO, ev_sub, ev_mul, ev_div, ev_mod, ev_p5, ev_p6, ev_p12, ev_p18, ev_p30, ev_neg, ev_ltI, ev_ltS, ev_leI, ev_leS, ev_gt, ev_ge, ev_eqI, ev_eqS, ev_neI, ev_neS, ev_neB, ev_eqB, ev_is, ev_isnot, ev_ixT, ev_ixS, ev_ixR, ev_ixL, ev_ixK, ev_getL, ev_getM, ev_gL, ev_gM, ev_at0, ev_at1, ev_at2, ev_at3, ev_at4, ev_lenS, ev_lenR, ev_lenT, ev_lenL, ev_lenO, ev_lenD, ev_abs, ev_min2, ev_max2, ev_intI, ev_intB, ev_set, ev_fc, ev_setset, ev_last, ev_appk, ev_app0, ev_setk, ev_set0, ev_assoc, ev_lapp, ev_lappA, ev_sl, ev_nopart, ev_part, ev_ptK, ev_slT, ev_slS, ev_slR, ev_slK, ev_tyN, ev_tyB, ev_tyI, ev_tyS, ev_tyT, ev_tyL, ev_tyR, ev_tyRL, ev_isi, ev_isi1, ev_isi2, ev_isi3, ev_isi4, ev_isi5, ev_isiT, ev_isi2K, ev_isTy, ev_list, ev_listK, ev_tuple, ev_tupK, ev_getST, ev_getSR, ev_getSL, ev_all, ev_allK, ev_eqXI, ev_eqXS, ev_neXI, ev_neXS, ev_neXB, ev_eqXB, ev_eqXR, ev_neXR, ev_nil2, ev_eqK, ev_neK, ev_meth, ev_meth0, ev_mth1, ev_mth2, ev_mth3, ev_append, ev_m0, ev_m0K, ev_str, ev_for, ev_miR1, ev_rg1K, ev_miL, ev_liK, ev_miT, ev_tiK, ev_lc, ev_wipe0, ev_wipeS, ev_yes, ev_lenSet, ev_lenSetK, ev_listR, ev_lrK, ev_put2, ev_p2A, ev_p2K, ev_p2E, ev_put1, ev_pt1, ev_addXI, ev_addXB, ev_addXS, ev_addXT, ev_addXL, ev_subXI, ev_subXB, ev_mulXI, ev_mulXB, ev_mulXL, ev_negXI, ev_negXB, ev_strXI, ev_strXB, ev_mulYI, ev_mulYB, ev_mulYL, ev_mulYT, ev_dnew, ev_dnewT, ev_dgetE, ev_getD, ev_gD, ev_keyI, ev_keyS, ev_dgK, ev_dinE, ev_diK, ev_dputE, ev_dpK, ev_dget2E, ev_isDA, ev_isSome, ev_isNone, ev_dg2K, ev_dpop2E, ev_dp2K, ev_dp3S, ev_dp3N, ev_sortedE, ev_srO1, ev_srO2, ev_gLd, ev_srKS, ev_srKI, ev_gDT, ev_gT, ev_tinE, ev_tiKK, ev_keysA, ev_keysN, ev_keysC, ev_dputTE, ev_dptK, ev_dispE, ev_mpN, ev_mpC, ev_pcK, ev_dsK, ev_dsK2, ev_lc2E, List.getElem?_cons_zero, List.getElem?_cons_succ, List.set_cons_zero, List.set_cons_succ, List.length_cons, List.length_nil, List.cons_append, List.nil_append, if_true, if_false, Bool.false_eq_true, Bool.true_eq_false, reduceIte, Bool.not_true, Bool.not_false, Bool.and_true, Bool.true_and, Bool.and_false, Bool.false_and, Bool.or_true, Bool.true_or, Bool.or_false, Bool.false_or, decide_eq_true_eq, Nat.reduceAdd, Nat.reduceLeDiff, Nat.zero_add, Int.reduceLT, Int.reduceLE, Int.reduceEq, Int.reduceNeg, Nat.reduceEqDiff, and_self, and_true, true_and, decide_true, decide_false, eq_self, ite_true, ite_false, Int.reduceSub, Int.reduceAdd, Int.cast_ofNat_Int, Int.natCast_add, Int.cast_ofNat_Int, Nat.reduceSub, Nat.add_assoc, String.reduceBEq, String.reduceEq, Bool.or_not_self, beq_self_eq_true]
  obtain ⟨a, s, e, rfl⟩ := okR_out key
  exact ⟨s, e⟩

end
theorem all_mk {l : PySem.W.OpenLaw} {w : World} {K : PySem.W.Frag} {h : Heap} {mg : Str → Option Value} {fa f0 f1 f2 f3 f4 f5 f6 f7 f8 f9 f10 f11 f12 f13 f14 f15 f16 f17 f18 f19 f20 f21 f22 f23 f24 f25 f26 : Addr} (X : K.In h) (G : h.Ns mainGlobals mg) (hfa : mg "law" = some (.ref fa))
    {od0 an0 : Option Addr} {sl0 : Array (Option Value)} {oc0 kV0 dc0 pm0 cd0 ct0 : Value} {od1 an1 : Option Addr} {sl1 : Array (Option Value)} {oc1 kV1 dc1 pm1 cd1 ct1 : Value} {od2 an2 : Option Addr} {sl2 : Array (Option Value)} {oc2 kV2 dc2 pm2 cd2 ct2 : Value} {od3 an3 : Option Addr} {sl3 : Array (Option Value)} {oc3 kV3 dc3 pm3 cd3 ct3 : Value} {od4 an4 : Option Addr} {sl4 : Array (Option Value)} {oc4 kV4 dc4 pm4 cd4 ct4 : Value} {od5 an5 : Option Addr} {sl5 : Array (Option Value)} {oc5 kV5 dc5 pm5 cd5 ct5 : Value} {od6 an6 : Option Addr} {sl6 : Array (Option Value)} {oc6 kV6 dc6 pm6 cd6 ct6 : Value} {od7 an7 : Option Addr} {sl7 : Array (Option Value)} {oc7 kV7 dc7 pm7 cd7 ct7 : Value} {od8 an8 : Option Addr} {sl8 : Array (Option Value)} {oc8 kV8 dc8 pm8 cd8 ct8 : Value} {od9 an9 : Option Addr} {sl9 : Array (Option Value)} {oc9 kV9 dc9 pm9 cd9 ct9 : Value} {od10 an10 : Option Addr} {sl10 : Array (Option Value)} {oc10 kV10 dc10 pm10 cd10 ct10 : Value} {od11 an11 : Option Addr} {sl11 : Array (Option Value)} {oc11 kV11 dc11 pm11 cd11 ct11 : Value} {od12 an12 : Option Addr} {sl12 : Array (Option Value)} {oc12 kV12 dc12 pm12 cd12 ct12 : Value} {od13 an13 : Option Addr} {sl13 : Array (Option Value)} {oc13 kV13 dc13 pm13 cd13 ct13 : Value} {od14 an14 : Option Addr} {sl14 : Array (Option Value)} {oc14 kV14 dc14 pm14 cd14 ct14 : Value} {od15 an15 : Option Addr} {sl15 : Array (Option Value)} {oc15 kV15 dc15 pm15 cd15 ct15 : Value} {od16 an16 : Option Addr} {sl16 : Array (Option Value)} {oc16 kV16 dc16 pm16 cd16 ct16 : Value} {od17 an17 : Option Addr} {sl17 : Array (Option Value)} {oc17 kV17 dc17 pm17 cd17 ct17 : Value} {od18 an18 : Option Addr} {sl18 : Array (Option Value)} {oc18 kV18 dc18 pm18 cd18 ct18 : Value} {od19 an19 : Option Addr} {sl19 : Array (Option Value)} {oc19 kV19 dc19 pm19 cd19 ct19 : Value} {od20 an20 : Option Addr} {sl20 : Array (Option Value)} {oc20 kV20 dc20 pm20 cd20 ct20 : Value} {od21 an21 : Option Addr} {sl21 : Array (Option Value)} {oc21 kV21 dc21 pm21 cd21 ct21 : Value} {od22 an22 : Option Addr} {sl22 : Array (Option Value)} {oc22 kV22 dc22 pm22 cd22 ct22 : Value} {od23 an23 : Option Addr} {sl23 : Array (Option Value)} {oc23 kV23 dc23 pm23 cd23 ct23 : Value} {od24 an24 : Option Addr} {sl24 : Array (Option Value)} {oc24 kV24 dc24 pm24 cd24 ct24 : Value} {od25 an25 : Option Addr} {sl25 : Array (Option Value)} {oc25 kV25 dc25 pm25 cd25 ct25 : Value} {od26 an26 : Option Addr} {sl26 : Array (Option Value)} {oc26 kV26 dc26 pm26 cd26 ct26 : Value} {tc_GREATEST_VALUE : Tok} {tc_MOST_TASKS : Tok} {tc_LAST_TIME : Tok}
    (a0 : PySem.W.nsIn K mainGlobals "is_whole" = some (some (.ref f0)))
    (l0 : K.lookup f0 = some ⟨oc0, od0, .func (PySem.W.fnOf "is_whole" "is_whole" (defArgs s_is_whole) (defBody s_is_whole) (defScope s_is_whole) .none kV0 dc0 pm0 an0 cd0 ct0), sl0⟩)
    (c0 : PySem.W.codeIn K cd0 "is_whole" = true) (k0 : PySem.W.keepIn K (.ref f0) = true)
    (a1 : PySem.W.nsIn K mainGlobals "is_number" = some (some (.ref f1)))
    (l1 : K.lookup f1 = some ⟨oc1, od1, .func (PySem.W.fnOf "is_number" "is_number" (defArgs s_is_number) (defBody s_is_number) (defScope s_is_number) .none kV1 dc1 pm1 an1 cd1 ct1), sl1⟩)
    (c1 : PySem.W.codeIn K cd1 "is_number" = true) (k1 : PySem.W.keepIn K (.ref f1) = true)
    (a2 : PySem.W.nsIn K mainGlobals "is_within" = some (some (.ref f2)))
    (l2 : K.lookup f2 = some ⟨oc2, od2, .func (PySem.W.fnOf "is_within" "is_within" (defArgs s_is_within) (defBody s_is_within) (defScope s_is_within) .none kV2 dc2 pm2 an2 cd2 ct2), sl2⟩)
    (c2 : PySem.W.codeIn K cd2 "is_within" = true) (k2 : PySem.W.keepIn K (.ref f2) = true)
    (a3 : PySem.W.nsIn K mainGlobals "is_tuple" = some (some (.ref f3)))
    (l3 : K.lookup f3 = some ⟨oc3, od3, .func (PySem.W.fnOf "is_tuple" "is_tuple" (defArgs s_is_tuple) (defBody s_is_tuple) (defScope s_is_tuple) .none kV3 dc3 pm3 an3 cd3 ct3), sl3⟩)
    (c3 : PySem.W.codeIn K cd3 "is_tuple" = true) (k3 : PySem.W.keepIn K (.ref f3) = true)
    (a4 : PySem.W.nsIn K mainGlobals "are_unlike" = some (some (.ref f4)))
    (l4 : K.lookup f4 = some ⟨oc4, od4, .func (PySem.W.fnOf "are_unlike" "are_unlike" (defArgs s_are_unlike) (defBody s_are_unlike) (defScope s_are_unlike) .none kV4 dc4 pm4 an4 cd4 ct4), sl4⟩)
    (c4 : PySem.W.codeIn K cd4 "are_unlike" = true) (k4 : PySem.W.keepIn K (.ref f4) = true)
    (a5 : PySem.W.nsIn K mainGlobals "is_history_row" = some (some (.ref f5)))
    (l5 : K.lookup f5 = some ⟨oc5, od5, .func (PySem.W.fnOf "is_history_row" "is_history_row" (defArgs s_is_history_row) (defBody s_is_history_row) (defScope s_is_history_row) .none kV5 dc5 pm5 an5 cd5 ct5), sl5⟩)
    (c5 : PySem.W.codeIn K cd5 "is_history_row" = true) (k5 : PySem.W.keepIn K (.ref f5) = true)
    (a6 : PySem.W.nsIn K mainGlobals "is_history" = some (some (.ref f6)))
    (l6 : K.lookup f6 = some ⟨oc6, od6, .func (PySem.W.fnOf "is_history" "is_history" (defArgs s_is_history) (defBody s_is_history) (defScope s_is_history) .none kV6 dc6 pm6 an6 cd6 ct6), sl6⟩)
    (c6 : PySem.W.codeIn K cd6 "is_history" = true) (k6 : PySem.W.keepIn K (.ref f6) = true)
    (a7 : PySem.W.nsIn K mainGlobals "sees_last_writes" = some (some (.ref f7)))
    (l7 : K.lookup f7 = some ⟨oc7, od7, .func (PySem.W.fnOf "sees_last_writes" "sees_last_writes" (defArgs s_sees_last_writes) (defBody s_sees_last_writes) (defScope s_sees_last_writes) .none kV7 dc7 pm7 an7 cd7 ct7), sl7⟩)
    (c7 : PySem.W.codeIn K cd7 "sees_last_writes" = true) (k7 : PySem.W.keepIn K (.ref f7) = true)
    (a8 : PySem.W.nsIn K mainGlobals "keeps_times" = some (some (.ref f8)))
    (l8 : K.lookup f8 = some ⟨oc8, od8, .func (PySem.W.fnOf "keeps_times" "keeps_times" (defArgs s_keeps_times) (defBody s_keeps_times) (defScope s_keeps_times) .none kV8 dc8 pm8 an8 cd8 ct8), sl8⟩)
    (c8 : PySem.W.codeIn K cd8 "keeps_times" = true) (k8 : PySem.W.keepIn K (.ref f8) = true)
    (a9 : PySem.W.nsIn K mainGlobals "is_order" = some (some (.ref f9)))
    (l9 : K.lookup f9 = some ⟨oc9, od9, .func (PySem.W.fnOf "is_order" "is_order" (defArgs s_is_order) (defBody s_is_order) (defScope s_is_order) .none kV9 dc9 pm9 an9 cd9 ct9), sl9⟩)
    (c9 : PySem.W.codeIn K cd9 "is_order" = true) (k9 : PySem.W.keepIn K (.ref f9) = true)
    (a10 : PySem.W.nsIn K mainGlobals "zones_of" = some (some (.ref f10)))
    (l10 : K.lookup f10 = some ⟨oc10, od10, .func (PySem.W.fnOf "zones_of" "zones_of" (defArgs s_zones_of) (defBody s_zones_of) (defScope s_zones_of) .none kV10 dc10 pm10 an10 cd10 ct10), sl10⟩)
    (c10 : PySem.W.codeIn K cd10 "zones_of" = true) (k10 : PySem.W.keepIn K (.ref f10) = true)
    (a11 : PySem.W.nsIn K mainGlobals "is_open_zone" = some (some (.ref f11)))
    (l11 : K.lookup f11 = some ⟨oc11, od11, .func (PySem.W.fnOf "is_open_zone" "is_open_zone" (defArgs s_is_open_zone) (defBody s_is_open_zone) (defScope s_is_open_zone) .none kV11 dc11 pm11 an11 cd11 ct11), sl11⟩)
    (c11 : PySem.W.codeIn K cd11 "is_open_zone" = true) (k11 : PySem.W.keepIn K (.ref f11) = true)
    (a12 : PySem.W.nsIn K mainGlobals "clash" = some (some (.ref f12)))
    (l12 : K.lookup f12 = some ⟨oc12, od12, .func (PySem.W.fnOf "clash" "clash" (defArgs s_clash) (defBody s_clash) (defScope s_clash) .none kV12 dc12 pm12 an12 cd12 ct12), sl12⟩)
    (c12 : PySem.W.codeIn K cd12 "clash" = true) (k12 : PySem.W.keepIn K (.ref f12) = true)
    (a13 : PySem.W.nsIn K mainGlobals "early_reasons" = some (some (.ref f13)))
    (l13 : K.lookup f13 = some ⟨oc13, od13, .func (PySem.W.fnOf "early_reasons" "early_reasons" (defArgs s_early_reasons) (defBody s_early_reasons) (defScope s_early_reasons) .none kV13 dc13 pm13 an13 cd13 ct13), sl13⟩)
    (c13 : PySem.W.codeIn K cd13 "early_reasons" = true) (k13 : PySem.W.keepIn K (.ref f13) = true)
    (a14 : PySem.W.nsIn K mainGlobals "both_reasons" = some (some (.ref f14)))
    (l14 : K.lookup f14 = some ⟨oc14, od14, .func (PySem.W.fnOf "both_reasons" "both_reasons" (defArgs s_both_reasons) (defBody s_both_reasons) (defScope s_both_reasons) .none kV14 dc14 pm14 an14 cd14 ct14), sl14⟩)
    (c14 : PySem.W.codeIn K cd14 "both_reasons" = true) (k14 : PySem.W.keepIn K (.ref f14) = true)
    (a15 : PySem.W.nsIn K mainGlobals "within_reasons" = some (some (.ref f15)))
    (l15 : K.lookup f15 = some ⟨oc15, od15, .func (PySem.W.fnOf "within_reasons" "within_reasons" (defArgs s_within_reasons) (defBody s_within_reasons) (defScope s_within_reasons) .none kV15 dc15 pm15 an15 cd15 ct15), sl15⟩)
    (c15 : PySem.W.codeIn K cd15 "within_reasons" = true) (k15 : PySem.W.keepIn K (.ref f15) = true)
    (a16 : PySem.W.nsIn K mainGlobals "reasons_of" = some (some (.ref f16)))
    (l16 : K.lookup f16 = some ⟨oc16, od16, .func (PySem.W.fnOf "reasons_of" "reasons_of" (defArgs s_reasons_of) (defBody s_reasons_of) (defScope s_reasons_of) .none kV16 dc16 pm16 an16 cd16 ct16), sl16⟩)
    (c16 : PySem.W.codeIn K cd16 "reasons_of" = true) (k16 : PySem.W.keepIn K (.ref f16) = true)
    (a17 : PySem.W.nsIn K mainGlobals "place_of" = some (some (.ref f17)))
    (l17 : K.lookup f17 = some ⟨oc17, od17, .func (PySem.W.fnOf "place_of" "place_of" (defArgs s_place_of) (defBody s_place_of) (defScope s_place_of) .none kV17 dc17 pm17 an17 cd17 ct17), sl17⟩)
    (c17 : PySem.W.codeIn K cd17 "place_of" = true) (k17 : PySem.W.keepIn K (.ref f17) = true)
    (a18 : PySem.W.nsIn K mainGlobals "order_of" = some (some (.ref f18)))
    (l18 : K.lookup f18 = some ⟨oc18, od18, .func (PySem.W.fnOf "order_of" "order_of" (defArgs s_order_of) (defBody s_order_of) (defScope s_order_of) .none kV18 dc18 pm18 an18 cd18 ct18), sl18⟩)
    (c18 : PySem.W.codeIn K cd18 "order_of" = true) (k18 : PySem.W.keepIn K (.ref f18) = true)
    (a19 : PySem.W.nsIn K mainGlobals "ordered" = some (some (.ref f19)))
    (l19 : K.lookup f19 = some ⟨oc19, od19, .func (PySem.W.fnOf "ordered" "ordered" (defArgs s_ordered) (defBody s_ordered) (defScope s_ordered) .none kV19 dc19 pm19 an19 cd19 ct19), sl19⟩)
    (c19 : PySem.W.codeIn K cd19 "ordered" = true) (k19 : PySem.W.keepIn K (.ref f19) = true)
    (a20 : PySem.W.nsIn K mainGlobals "shows_none" = some (some (.ref f20)))
    (l20 : K.lookup f20 = some ⟨oc20, od20, .func (PySem.W.fnOf "shows_none" "shows_none" (defArgs s_shows_none) (defBody s_shows_none) (defScope s_shows_none) .none kV20 dc20 pm20 an20 cd20 ct20), sl20⟩)
    (c20 : PySem.W.codeIn K cd20 "shows_none" = true) (k20 : PySem.W.keepIn K (.ref f20) = true)
    (a21 : PySem.W.nsIn K mainGlobals "_law_bag" = some (some (.ref f21)))
    (l21 : K.lookup f21 = some ⟨oc21, od21, .func (PySem.W.fnOf "_law_bag" "_law_bag" (defArgs s__law_bag) (defBody s__law_bag) (defScope s__law_bag) .none kV21 dc21 pm21 an21 cd21 ct21), sl21⟩)
    (c21 : PySem.W.codeIn K cd21 "_law_bag" = true) (k21 : PySem.W.keepIn K (.ref f21) = true)
    (a22 : PySem.W.nsIn K mainGlobals "_law_take" = some (some (.ref f22)))
    (l22 : K.lookup f22 = some ⟨oc22, od22, .func (PySem.W.fnOf "_law_take" "_law_take" (defArgs s__law_take) (defBody s__law_take) (defScope s__law_take) .none kV22 dc22 pm22 an22 cd22 ct22), sl22⟩)
    (c22 : PySem.W.codeIn K cd22 "_law_take" = true) (k22 : PySem.W.keepIn K (.ref f22) = true)
    (a23 : PySem.W.nsIn K mainGlobals "_law_of" = some (some (.ref f23)))
    (l23 : K.lookup f23 = some ⟨oc23, od23, .func (PySem.W.fnOf "_law_of" "_law_of" (defArgs s__law_of) (defBody s__law_of) (defScope s__law_of) .none kV23 dc23 pm23 an23 cd23 ct23), sl23⟩)
    (c23 : PySem.W.codeIn K cd23 "_law_of" = true) (k23 : PySem.W.keepIn K (.ref f23) = true)
    (a24 : PySem.W.nsIn K mainGlobals "_law_order_right" = some (some (.ref f24)))
    (l24 : K.lookup f24 = some ⟨oc24, od24, .func (PySem.W.fnOf "_law_order_right" "_law_order_right" (defArgs s__law_order_right) (defBody s__law_order_right) (defScope s__law_order_right) .none kV24 dc24 pm24 an24 cd24 ct24), sl24⟩)
    (c24 : PySem.W.codeIn K cd24 "_law_order_right" = true) (k24 : PySem.W.keepIn K (.ref f24) = true)
    (a25 : PySem.W.nsIn K mainGlobals "_law_in_row" = some (some (.ref f25)))
    (l25 : K.lookup f25 = some ⟨oc25, od25, .func (PySem.W.fnOf "_law_in_row" "_law_in_row" (defArgs s__law_in_row) (defBody s__law_in_row) (defScope s__law_in_row) .none kV25 dc25 pm25 an25 cd25 ct25), sl25⟩)
    (c25 : PySem.W.codeIn K cd25 "_law_in_row" = true) (k25 : PySem.W.keepIn K (.ref f25) = true)
    (a26 : PySem.W.nsIn K mainGlobals "law" = some (some (.ref f26)))
    (l26 : K.lookup f26 = some ⟨oc26, od26, .func (PySem.W.fnOf "law" "law" (defArgs s_law) (defBody s_law) (defScope s_law) .none kV26 dc26 pm26 an26 cd26 ct26), sl26⟩)
    (c26 : PySem.W.codeIn K cd26 "law" = true) (k26 : PySem.W.keepIn K (.ref f26) = true)
    (g_GREATEST_VALUE : PySem.W.nsIn K mainGlobals "GREATEST_VALUE" = some (some (.int 999 tc_GREATEST_VALUE)))
    (g_MOST_TASKS : PySem.W.nsIn K mainGlobals "MOST_TASKS" = some (some (.int 60 tc_MOST_TASKS)))
    (g_LAST_TIME : PySem.W.nsIn K mainGlobals "LAST_TIME" = some (some (.int 1000000 tc_LAST_TIME)))
    (z_abs : PySem.W.nsIn K mainGlobals "abs" = some none)
    (z_all : PySem.W.nsIn K mainGlobals "all" = some none)
    (z_bool : PySem.W.nsIn K mainGlobals "bool" = some none)
    (z_int : PySem.W.nsIn K mainGlobals "int" = some none)
    (z_isinstance : PySem.W.nsIn K mainGlobals "isinstance" = some none)
    (z_len : PySem.W.nsIn K mainGlobals "len" = some none)
    (z_list : PySem.W.nsIn K mainGlobals "list" = some none)
    (z_max : PySem.W.nsIn K mainGlobals "max" = some none)
    (z_min : PySem.W.nsIn K mainGlobals "min" = some none)
    (z_range : PySem.W.nsIn K mainGlobals "range" = some none)
    (z_set : PySem.W.nsIn K mainGlobals "set" = some none)
    (z_sorted : PySem.W.nsIn K mainGlobals "sorted" = some none)
    (z_tuple : PySem.W.nsIn K mainGlobals "tuple" = some none) :
    ∃ fd : FuncData, (∀ (s : Shared) (v : Value), BindsTo s fd ⟨[v], []⟩ [("script", v)]) ∧ ∀ base : Heap, K.In base → base.Ns mainGlobals mg → FnOk l.prog w K mg base CX0 5 fa fd ["script"] (splaw K) := by
  have N : Fre K mg := ⟨PySem.W.mg_none_of X G z_abs, PySem.W.mg_none_of X G z_all, PySem.W.mg_none_of X G z_bool, PySem.W.mg_none_of X G z_int, PySem.W.mg_none_of X G z_isinstance, PySem.W.mg_none_of X G z_len, PySem.W.mg_none_of X G z_list, PySem.W.mg_none_of X G z_max, PySem.W.mg_none_of X G z_min, PySem.W.mg_none_of X G z_range, PySem.W.mg_none_of X G z_set, PySem.W.mg_none_of X G z_sorted, PySem.W.mg_none_of X G z_tuple, ⟨_, PySem.W.mg_of X G g_GREATEST_VALUE⟩, ⟨_, PySem.W.mg_of X G g_MOST_TASKS⟩, ⟨_, PySem.W.mg_of X G g_LAST_TIME⟩⟩
  have e := hfa.symm.trans (PySem.W.mg_of X G a26)
  cases e
  have F0 := fun_mk (st := s_is_whole) l0 c0 k0
  have F1 := fun_mk (st := s_is_number) l1 c1 k1
  have F2 := fun_mk (st := s_is_within) l2 c2 k2
  have F3 := fun_mk (st := s_is_tuple) l3 c3 k3
  have F4 := fun_mk (st := s_are_unlike) l4 c4 k4
  have F5 := fun_mk (st := s_is_history_row) l5 c5 k5
  have F6 := fun_mk (st := s_is_history) l6 c6 k6
  have F7 := fun_mk (st := s_sees_last_writes) l7 c7 k7
  have F8 := fun_mk (st := s_keeps_times) l8 c8 k8
  have F9 := fun_mk (st := s_is_order) l9 c9 k9
  have F10 := fun_mk (st := s_zones_of) l10 c10 k10
  have F11 := fun_mk (st := s_is_open_zone) l11 c11 k11
  have F12 := fun_mk (st := s_clash) l12 c12 k12
  have F13 := fun_mk (st := s_early_reasons) l13 c13 k13
  have F14 := fun_mk (st := s_both_reasons) l14 c14 k14
  have F15 := fun_mk (st := s_within_reasons) l15 c15 k15
  have F16 := fun_mk (st := s_reasons_of) l16 c16 k16
  have F17 := fun_mk (st := s_place_of) l17 c17 k17
  have F18 := fun_mk (st := s_order_of) l18 c18 k18
  have F19 := fun_mk (st := s_ordered) l19 c19 k19
  have F20 := fun_mk (st := s_shows_none) l20 c20 k20
  have F21 := fun_mk (st := s__law_bag) l21 c21 k21
  have F22 := fun_mk (st := s__law_take) l22 c22 k22
  have F23 := fun_mk (st := s__law_of) l23 c23 k23
  have F24 := fun_mk (st := s__law_order_right) l24 c24 k24
  have F25 := fun_mk (st := s__law_in_row) l25 c25 k25
  have F26 := fun_mk (st := s_law) l26 c26 k26
  refine ⟨PySem.W.fnOf "law" "law" (defArgs s_law) (defBody s_law) (defScope s_law) .none kV26 dc26 pm26 an26 cd26 ct26, fun s v => .of_eq rfl, fun base _ _ => ?_⟩
  have c_is_whole := ok_is_whole (base := base) (P := l.prog) (w := w) F0 (PySem.W.mg_of X G a0) N
  have c_is_number := ok_is_number (base := base) (P := l.prog) (w := w) F1 (PySem.W.mg_of X G a1) N c_is_whole
  have c_is_within := ok_is_within (base := base) (P := l.prog) (w := w) F2 (PySem.W.mg_of X G a2) N c_is_whole
  have c_is_tuple := ok_is_tuple (base := base) (P := l.prog) (w := w) F3 (PySem.W.mg_of X G a3) N
  have c_are_unlike := ok_are_unlike (base := base) (P := l.prog) (w := w) F4 (PySem.W.mg_of X G a4) N
  have c_is_history_row := ok_is_history_row (base := base) (P := l.prog) (w := w) F5 (PySem.W.mg_of X G a5) N c_is_number c_is_tuple c_is_within
  have c_is_history := ok_is_history (base := base) (P := l.prog) (w := w) F6 (PySem.W.mg_of X G a6) N c_are_unlike c_is_history_row
  have c_sees_last_writes := ok_sees_last_writes (base := base) (P := l.prog) (w := w) F7 (PySem.W.mg_of X G a7) N
  have c_keeps_times := ok_keeps_times (base := base) (P := l.prog) (w := w) F8 (PySem.W.mg_of X G a8) N
  have c_is_order := ok_is_order (base := base) (P := l.prog) (w := w) F9 (PySem.W.mg_of X G a9) N c_keeps_times c_sees_last_writes
  have c_zones_of := ok_zones_of (base := base) (P := l.prog) (w := w) F10 (PySem.W.mg_of X G a10) N
  have c_is_open_zone := ok_is_open_zone (base := base) (P := l.prog) (w := w) F11 (PySem.W.mg_of X G a11) N
  have c_clash := ok_clash (base := base) (P := l.prog) (w := w) F12 (PySem.W.mg_of X G a12) N
  have c_early_reasons := ok_early_reasons (base := base) (P := l.prog) (w := w) F13 (PySem.W.mg_of X G a13) N
  have c_both_reasons := ok_both_reasons (base := base) (P := l.prog) (w := w) F14 (PySem.W.mg_of X G a14) N c_clash c_is_open_zone
  have c_within_reasons := ok_within_reasons (base := base) (P := l.prog) (w := w) F15 (PySem.W.mg_of X G a15) N c_clash c_is_open_zone
  have c_reasons_of := ok_reasons_of (base := base) (P := l.prog) (w := w) F16 (PySem.W.mg_of X G a16) N c_both_reasons c_early_reasons c_within_reasons c_zones_of
  have c_place_of := ok_place_of (base := base) (P := l.prog) (w := w) F17 (PySem.W.mg_of X G a17) N c_is_open_zone
  have c_order_of := ok_order_of (base := base) (P := l.prog) (w := w) F18 (PySem.W.mg_of X G a18) N c_place_of c_zones_of
  have c_ordered := ok_ordered (base := base) (P := l.prog) (w := w) F19 (PySem.W.mg_of X G a19) N c_order_of c_reasons_of
  have c_shows_none := ok_shows_none (base := base) (P := l.prog) (w := w) F20 (PySem.W.mg_of X G a20) N c_reasons_of
  have c__law_bag := ok__law_bag (base := base) (P := l.prog) (w := w) F21 (PySem.W.mg_of X G a21) N
  have c__law_take := ok__law_take (base := base) (P := l.prog) (w := w) F22 (PySem.W.mg_of X G a22) N
  have c__law_of := ok__law_of (base := base) (P := l.prog) (w := w) F23 (PySem.W.mg_of X G a23) N c__law_take
  have c__law_order_right := ok__law_order_right (base := base) (P := l.prog) (w := w) F24 (PySem.W.mg_of X G a24) N
  have c__law_in_row := ok__law_in_row (base := base) (P := l.prog) (w := w) F25 (PySem.W.mg_of X G a25) N c__law_take
  exact ok_law_of law_true (base := base) (P := l.prog) (w := w) F26 N c__law_bag c__law_in_row c__law_of (br__law_order_right c__law_order_right) c__law_take c_is_history (br_is_order c_is_order) (br_ordered c_ordered) (br_shows_none c_shows_none)
end My
open PySem PySem.W PyProof.Rows
set_option maxRecDepth 100000 in
set_option maxHeartbeats 0 in
theorem PySem.Challenge.cw_pagelend_k51_whole_histories_made_of_ord_holds : PySem.Challenge.rw_pagelend_k51_whole_histories_made_of_ord.Holds := by
  w_on; o_law; k_head; (case hw => w_witness2)
  k_fill
  refine L2.walk_of (l := PySem.Challenge.rw_pagelend_k51_whole_histories_made_of_ord) (n := 63) (k := 5) (x := "script") (CX := fun _ => L2.CX0) (sp := fun w => My.splaw _) rfl (by decide) rfl ⟨rfl, by decide, by decide⟩ (fun w h Y => PySem.W.kIn_of Y) ?F (fun _ _ a ns hl hO hS => ⟨a, ns, rfl, hO, hS, hl, fun _ => rfl⟩) (fun _ _ _ _ _ h => h)
  case F =>
    intro w mg fa h KX G hmg
    refine' My.all_mk KX G hmg ?a0 ?l0 ?c0 ?k0 ?a1 ?l1 ?c1 ?k1 ?a2 ?l2 ?c2 ?k2 ?a3 ?l3 ?c3 ?k3 ?a4 ?l4 ?c4 ?k4 ?a5 ?l5 ?c5 ?k5 ?a6 ?l6 ?c6 ?k6 ?a7 ?l7 ?c7 ?k7 ?a8 ?l8 ?c8 ?k8 ?a9 ?l9 ?c9 ?k9 ?a10 ?l10 ?c10 ?k10 ?a11 ?l11 ?c11 ?k11 ?a12 ?l12 ?c12 ?k12 ?a13 ?l13 ?c13 ?k13 ?a14 ?l14 ?c14 ?k14 ?a15 ?l15 ?c15 ?k15 ?a16 ?l16 ?c16 ?k16 ?a17 ?l17 ?c17 ?k17 ?a18 ?l18 ?c18 ?k18 ?a19 ?l19 ?c19 ?k19 ?a20 ?l20 ?c20 ?k20 ?a21 ?l21 ?c21 ?k21 ?a22 ?l22 ?c22 ?k22 ?a23 ?l23 ?c23 ?k23 ?a24 ?l24 ?c24 ?k24 ?a25 ?l25 ?c25 ?k25 ?a26 ?l26 ?c26 ?k26 ?g_GREATEST_VALUE ?g_MOST_TASKS ?g_LAST_TIME ?z_abs ?z_all ?z_bool ?z_int ?z_isinstance ?z_len ?z_list ?z_max ?z_min ?z_range ?z_set ?z_sorted ?z_tuple
    (case a0 => k_is); (case l0 => k_is); (case c0 => k_is); (case k0 => k_is); (case a1 => k_is); (case l1 => k_is); (case c1 => k_is); (case k1 => k_is); (case a2 => k_is); (case l2 => k_is); (case c2 => k_is); (case k2 => k_is); (case a3 => k_is); (case l3 => k_is); (case c3 => k_is); (case k3 => k_is); (case a4 => k_is); (case l4 => k_is); (case c4 => k_is); (case k4 => k_is); (case a5 => k_is); (case l5 => k_is); (case c5 => k_is); (case k5 => k_is); (case a6 => k_is); (case l6 => k_is); (case c6 => k_is); (case k6 => k_is); (case a7 => k_is); (case l7 => k_is); (case c7 => k_is); (case k7 => k_is); (case a8 => k_is); (case l8 => k_is); (case c8 => k_is); (case k8 => k_is); (case a9 => k_is); (case l9 => k_is); (case c9 => k_is); (case k9 => k_is); (case a10 => k_is); (case l10 => k_is); (case c10 => k_is); (case k10 => k_is); (case a11 => k_is); (case l11 => k_is); (case c11 => k_is); (case k11 => k_is); (case a12 => k_is); (case l12 => k_is); (case c12 => k_is); (case k12 => k_is); (case a13 => k_is); (case l13 => k_is); (case c13 => k_is); (case k13 => k_is); (case a14 => k_is); (case l14 => k_is); (case c14 => k_is); (case k14 => k_is); (case a15 => k_is); (case l15 => k_is); (case c15 => k_is); (case k15 => k_is); (case a16 => k_is); (case l16 => k_is); (case c16 => k_is); (case k16 => k_is); (case a17 => k_is); (case l17 => k_is); (case c17 => k_is); (case k17 => k_is); (case a18 => k_is); (case l18 => k_is); (case c18 => k_is); (case k18 => k_is); (case a19 => k_is); (case l19 => k_is); (case c19 => k_is); (case k19 => k_is); (case a20 => k_is); (case l20 => k_is); (case c20 => k_is); (case k20 => k_is); (case a21 => k_is); (case l21 => k_is); (case c21 => k_is); (case k21 => k_is); (case a22 => k_is); (case l22 => k_is); (case c22 => k_is); (case k22 => k_is); (case a23 => k_is); (case l23 => k_is); (case c23 => k_is); (case k23 => k_is); (case a24 => k_is); (case l24 => k_is); (case c24 => k_is); (case k24 => k_is); (case a25 => k_is); (case l25 => k_is); (case c25 => k_is); (case k25 => k_is); (case a26 => k_is); (case l26 => k_is); (case c26 => k_is); (case k26 => k_is); (case g_GREATEST_VALUE => k_is); (case g_MOST_TASKS => k_is); (case g_LAST_TIME => k_is); (case z_abs => k_is); (case z_all => k_is); (case z_bool => k_is); (case z_int => k_is); (case z_isinstance => k_is); (case z_len => k_is); (case z_list => k_is); (case z_max => k_is); (case z_min => k_is); (case z_range => k_is); (case z_set => k_is); (case z_sorted => k_is); (case z_tuple => k_is)

