
import PyProof.Rows.All
import Wide.All
import OpenK.AllK
import Wide.FinOn
import HandS.SortInts
import PySem.Challenge.RW_pagelend_k58_steps_as_texts
import HandS.ForMost
import HandS.Wide
import HandS.Defaults
import HandS.MakeKwOnly
import HandS.IsInst
import HandS.Codes
import HandS.Walk
import HandS.TupAny
import HandS.More
import HandS.Sort
import HandS.Conv
import HandS.HotCalls
import HandS.ExcIs
import KE.KSortTupAny
import HandS.DictComp
import HandS.Deep
import HandS.Rev
import KE.KDictKeyed
import HandS.SetFor
import HandS.Strs
import HandS.SortOrd
import HandS.SortRule
import HandS.Zip
import HandS.TupMul
import HandS.Text
import HandS.FStr
import HandS.Star
import HandS.RaiseMore
import HandS.Exc
import HandS.NoneIn
import HandS.ExcInit
import HandS.ExcValue
import HandS.ExcField
import KE.KExcIs
import HandS.Style
import HandS.MakeKw
import KE.GoesZip
import KE.GoesMore
import KE.GoesEnum
import KE.GoesEnumKw
import KE.KRevSl
set_option Elab.async false
set_option linter.all false
set_option maxRecDepth 100000
set_option maxHeartbeats 1000000
namespace My
open PySem PySem.Spec PyProof.Rows L2
def topS (i : Nat) : Stmt := PySem.Challenge.pw_pagelend_k58_steps_as_texts.main.body.getD i (.Pass ⟨0, 0, 0, 0⟩)
structure Fre (K : PySem.W.Frag) (mg : Str → Option Value) : Prop where
  ValueError : mg "ValueError" = none
  abs : mg "abs" = none
  all : mg "all" = none
  bool : mg "bool" = none
  enumerate : mg "enumerate" = none
  int : mg "int" = none
  isinstance : mg "isinstance" = none
  len : mg "len" = none
  min : mg "min" = none
  range : mg "range" = none
  str : mg "str" = none
  tuple : mg "tuple" = none
  zip : mg "zip" = none
  c_LETTERS : ∃ t, mg "LETTERS" = some (.str "abcdefghijklmnopqrstuvwxyz" t)
  c_LONGEST_NAME : ∃ t, mg "LONGEST_NAME" = some (.int 8 t)
  c_FIGURES : ∃ t, mg "FIGURES" = some (.str "0123456789" t)
  c_MOST_FIGURES : ∃ t, mg "MOST_FIGURES" = some (.int 12 t)
/-! ### calls with keywords, a def kept as its promise -/
structure CalN (P : Program) (w : World) (K : PySem.W.Frag) (mg : Str → Option Value) (base : Heap) (k : Nat) (x : Str) (sp : Sp) (n : Nat) (ks : List Str) (gV : List V → List V → List V) : Prop where
  ex : ∃ (f : Addr) (fd : FuncData) (ps : List Str) (g : List Value → List Value → List Value), FnOk P w K mg base CX0 k f fd ps sp ∧ mg x = some (.ref f) ∧ PySem.W.keepIn K (.ref f) = true ∧ KBn K fd ps n ks g gV
section
variable {X : Cx} {k j n : Nat} {x : Str} {sp : Sp} {ks : List Str} {gV : List V → List V → List V} {p pos : Pos} {e : Expr} {es : List Expr} {kws : List Keyword} {t tk : TA}
theorem pe_cn (c : CalN X.prog X.w X.K X.mg X.base k x sp n ks gV) (hr : Room j X.A) (hk : k ≤ j) (hg : Gl X x) (ha : PA X (e :: es) t) (hkw : PK X kws tk)
    (hall : (backToKw pos (keywordEach kws X.env)).all (·.1.isSome) = true := by rfl) (hks : (backToKw pos (keywordEach kws X.env)).filterMap (·.1) = ks := by rfl)
    (hdb : (x == ("__debug__" : Str)) = false := by decide) (he : starEach (e :: es) X.env = (false, eval e X.env) :: starEach es X.env := by rfl)
    (hpl : ((backTo pos (starEach (e :: es) X.env)).any (·.1) || (backToKw pos (keywordEach kws X.env)).any (·.1.isNone)) = false := by rfl) :
    PE X (.Call (.Name x p) (e :: es) kws pos) (tCallN n ks.length sp gV E0 t tk) := by
  obtain ⟨f, fd, ps, g, F, hm, kp, b⟩ := c.ex
  exact pe_callN F (hr.mono hk) hg hm kp b pass0 ha hkw hall hks hdb he hpl
theorem pe_cn0 (c : CalN X.prog X.w X.K X.mg X.base k x sp 0 ks gV) (hr : Room j X.A) (hk : k ≤ j) (hg : Gl X x) (hkw : PK X kws tk)
    (hall : (backToKw pos (keywordEach kws X.env)).all (·.1.isSome) = true := by rfl) (hks : (backToKw pos (keywordEach kws X.env)).filterMap (·.1) = ks := by rfl)
    (hdb : (x == ("__debug__" : Str)) = false := by decide)
    (hpl : ((backTo pos (starEach [] X.env)).any (·.1) || (backToKw pos (keywordEach kws X.env)).any (·.1.isNone)) = false := by rfl) :
    PE X (.Call (.Name x p) [] kws pos) (tCallN 0 ks.length sp gV E0 tNil tk) := by
  obtain ⟨f, fd, ps, g, F, hm, kp, b⟩ := c.ex
  refine ⟨fun pins s σ H Q I h => ?_⟩
  refine wpAny_Call_Name_kw (ld_glob I hg hm ?_ hdb)
  refine PySem.W.callWith_KW0 (h₀ := X.base) I.ok.mod.kin kp hall ?_ hpl
  refine thn (hkw.run pos pins s σ H _ I h) fun ws s2 ⟨zs, H2, I2, rz, l1, l2, q2⟩ => ⟨I2.kIn, ?_⟩
  rw [hks]
  exact run_fnN (us := []) (vs := []) F (hr.mono hk) b pass0 I2 .nil rz rfl l2 q2
end
section
variable {P : Program} {w : World} {K : PySem.W.Frag} {mg : Str → Option Value} {base : Heap}
theorem mkCal {x : Str} {st : Stmt} {f : Addr} {fd : FuncData} {N ps : List Str} {k : Nat} {sp : Sp} (F : Fun K x x st f fd) (gm : mg x = some (.ref f)) (S : FnScope N ps (defScope st)) (b : Binds K fd ps []) (len : ∀ vs H Q E, sp vs H Q E → vs.length = ps.length)
    (hbody : ∀ (cdv : Value) (A : Around) (outer : List Env) (s : Shared) (H : Hp) (vs : List V) (Q : VK) (E : XK), Room k (A.deeper (envOfC x (defScope st) s.heap.objs.size f cdv)) → sp vs H Q E →
      ∃ t, PSs (cxOf CX0 P w K mg base N x (defScope st) f cdv A outer s H E).nox (defBody st) t ∧ t { nx := fun _ H' => Q .non H', rt := Q } (start N vs) H) : C8.Cal P w K mg base (k + 1) x sp [] :=
  ⟨f, fd, ps, [], F.ok S len hbody, gm, F.kp, b, .nil⟩
end
/-! ### heaps -/
def But (b : Addr) (H H' : Hp) : Prop := ∀ a o, a ≠ b → H a = some o → H' a = some o
theorem But.trans {b : Addr} {H H1 H2 : Hp} (h : But b H H1) (g : But b H1 H2) : But b H H2 := fun a o n e => g a o n (h a o n e)
theorem But.refl (b : Addr) (H : Hp) : But b H H := fun _ _ _ e => e
theorem But.put {b : Addr} {H : Hp} {o : HO} : But b H (L2.upd H b o) := fun a _ n e => by rw [upd_ne n]; exact e
theorem But.new {b p : Addr} {H : Hp} {o : HO} (h : H p = none) : But b H (L2.upd H p o) := fun a _ n e => by rw [upd_ne (ne_of_none e h)]; exact e
theorem same_upd {H : Hp} {p : Addr} {o : HO} (h : H p = none) : Same H (upd H p o) := fun b x e => by
  rw [upd_ne (ne_of_none e h)]
  exact e
def Bag (H : Hp) (b : Addr) : Prop := ∃ x y : Int, H b = some (.lst [.int x, .int y]) ∧ 0 ≤ x ∧ 0 ≤ y ∧ y < 2147483647
theorem Bag.new {H : Hp} {b p : Addr} {o : HO} (g : Bag H b) (h : H p = none) : Bag (L2.upd H p o) b := by
  obtain ⟨x, y, e, r⟩ := g
  exact ⟨x, y, by rw [upd_ne (ne_of_none e h)]; exact e, r⟩
theorem Bag.ne {H : Hp} {b p : Addr} (g : Bag H b) (h : H p = none) : p ≠ b := by
  obtain ⟨x, y, e, r⟩ := g
  exact (ne_of_none e h).symm
theorem Bag.ne_tup {H : Hp} {b p : Addr} {xs : List V} (g : Bag H b) (h : H p = some (.tup xs)) : p ≠ b := by
  obtain ⟨x, y, e, r⟩ := g
  exact ne_of h e (by intro z; cases z)
theorem seqBut {K : PySem.W.Frag} {H H' : Hp} {a b : Addr} {xs : List V} (e : But b H H') (n : a ≠ b) (h : SqL K H a xs) : SqL K H' a xs := by
  rcases h with (h | ⟨o, h⟩) | h
  · exact .inl (.inl (e _ _ n h))
  · exact .inl (.inr ⟨o, e _ _ n h⟩)
  · exact .inr h
theorem dT {a : Bool} {b : Bool} (h : a = b) : decide (V.bl a = V.bl b) = true := by rw [h]; exact decide_eq_true rfl
theorem two_ok (a b : V) : [a, b].length ≤ sizeLine := by show 2 ≤ sizeLine; decide
theorem three_ok (a b c : V) : [a, b, c].length ≤ sizeLine := by show 3 ≤ sizeLine; decide
theorem four_ok (a b c d : V) : [a, b, c, d].length ≤ sizeLine := by show 4 ≤ sizeLine; decide
theorem free_of {b p : Addr} {H H' : Hp} (g : But b H H') (hB : Bag H b) (hB' : Bag H' b) (np : H' p = none) : H p = none := by
  cases e : H p with
  | none => rfl
  | some o =>
    have z := g p o (hB'.ne np) e
    rw [np] at z
    cases z
theorem same_but {b : Addr} {H0 H1 H2 : Hp} (sm : Same H0 H1) (nb : H0 b = none) (g : But b H1 H2) : Same H0 H2 := fun c o e => g c o (ne_of_none e nb) (sm c o e)
theorem iteD {p A B : Prop} [Decidable p] (h : ¬ p) (b : B) : if decide p = true then A else B := by
  rw [if_neg (by rw [decide_eq_false h]; exact Bool.false_ne_true)]
  exact b
theorem iteD' {p A B : Prop} [Decidable p] (h : p) (b : A) : if decide p = true then A else B := by
  rw [if_pos (decide_eq_true h)]
  exact b
theorem vone {vs : List V} {us : List Value} (i : Nat) (r : Vals vs us) : Vals ((vs.drop i).take 1) ((us.drop i).take 1) := by
  exact (r.drop i).take 1
section
variable {P : Program} {w : World} {K : PySem.W.Frag} {mg : Str → Option Value} {base : Heap}

/-! ### data: what stands at a value -/
theorem sqT_same {H H' : Hp} {a : Addr} {xs : List V} (e : Same H H') (h : SqT K H a xs) : SqT K H' a xs := by
  rcases h with (h | ⟨o, h⟩) | h
  · exact .inl (.inl (e _ _ h))
  · exact .inl (.inr ⟨o, e _ _ h⟩)
  · exact .inr h
mutual
theorem dp_same {H H' : Hp} (e : Same H H') : ∀ (d : PyData) (v : V), Dp K H v d → Dp K H' v d
  | .none, _, h => by cases h; exact .non
  | .bool b, _, h => by cases h; exact .bl b
  | .int i, _, h => by cases h; exact .int i
  | .str x, _, h => by cases h; exact .str x
  | .list ds, _, h => by
    cases h with
    | lst hs ha => exact .lst (e.seq hs) (dp_sameAll e ds _ ha)
  | .tuple ds, _, h => by
    cases h with
    | tup hs ha => exact .tup (sqT_same e hs) (dp_sameAll e ds _ ha)
  | .dict _, _, h => by cases h
theorem dp_sameAll {H H' : Hp} (e : Same H H') : ∀ (ds : List PyData) (vs : List V), DpAll K H vs ds → DpAll K H' vs ds
  | [], _, h => by cases h; exact .nil
  | d :: ds, _, h => by
    cases h with
    | cons h1 h2 => exact .cons (dp_same e d _ h1) (dp_sameAll e ds _ h2)
end
theorem dpAll_len {H : Hp} : ∀ {vs : List V} {ds : List PyData}, DpAll K H vs ds → vs.length = ds.length
  | [], _, h => by cases h; rfl
  | _ :: vs, _, h => by
    cases h with
    | cons _ h2 => rw [List.length_cons, List.length_cons, dpAll_len h2]
theorem dpAll_get {H : Hp} : ∀ {vs : List V} {ds : List PyData} {i : Nat} {v : V}, DpAll K H vs ds → vs[i]? = some v → ∃ d, ds[i]? = some d ∧ Dp K H v d
  | _, _, 0, _, .cons h1 _, e => by
    cases e
    exact ⟨_, rfl, h1⟩
  | _, _, i + 1, _, .cons _ h2, e => dpAll_get (i := i) h2 (by simpa using e)
  | _, _, i, _, .nil, e => by simp at e
theorem dpAll_append {H : Hp} : ∀ {vs us : List V} {ds es : List PyData}, DpAll K H vs ds → DpAll K H us es → DpAll K H (vs ++ us) (ds ++ es)
  | _, _, _, _, .nil, h => h
  | _, _, _, _, .cons h1 h2, h => .cons h1 (dpAll_append h2 h)
def tyD : PyData → String
  | .none => "NoneType"
  | .bool _ => "bool"
  | .int _ => "int"
  | .str _ => "str"
  | .list _ => "list"
  | .tuple _ => "tuple"
  | .dict _ => "dict"
theorem dp_ty {H : Hp} {v : V} {d : PyData} (h : Dp K H v d) : TyX K H v (.type (tyD d)) := by
  cases h with
  | non => exact .base .non
  | bl b => exact .base (.bl b)
  | int i => exact .base (.int i)
  | str x => exact .base (.str x)
  | lst hs _ =>
    rcases hs with (h | ⟨o, h⟩) | ⟨o, _, _, h, c, _⟩
    · exact .base (.lst h)
    · exact .base (.frz h)
    · exact .kList h c
  | tup hs _ =>
    rcases hs with (h | ⟨o, h⟩) | ⟨o, _, _, h, c, _⟩
    · exact .base (.tup h)
    · exact .fTuple h
    · exact .kTuple h c
def isTy (t T : String) : Bool := t == T || (T == "int" && t == "bool")
def isT (d : PyData) (T : String) : Bool := isTy (tyD d) T
theorem kit_all : ∀ t ∈ ["NoneType", "bool", "int", "str", "list", "tuple", "dict"], ∀ T ∈ ["int", "bool", "str", "tuple", "list"], kitB t T = some (isTy t T) := by decide +kernel
theorem tyD_mem (d : PyData) : tyD d ∈ ["NoneType", "bool", "int", "str", "list", "tuple", "dict"] := by cases d <;> simp [tyD]
theorem kit_d (d : PyData) {T : String} (hT : T = "int" ∨ T = "bool" ∨ T = "str" ∨ T = "tuple" ∨ T = "list") : PySem.W.kitOne K (.type (tyD d)) (.type T) = some (isT d T) :=
  kit_ty (kit_all _ (tyD_mem d) _ (by simpa using hT))

end
/-! ### rules of our own: a list against an empty one -/
section
variable {X : Cx}
theorem op_eqNil (hu : X.A.units < cLine) : OpR X (compareOp .Eq) (fun x y H Q => ∃ a b xs, x = .ref a ∧ y = .ref b ∧ SqL X.K H a xs ∧ SqL X.K H b [] ∧ Q (.bl xs.isEmpty) H) := by
  intro pins s σ H x y v u Q I rx ry h
  obtain ⟨a, b, xs, rfl, rfl, ha, hb, q⟩ := h
  obtain rfl : v = Value.ref a := rx
  obtain rfl : u = Value.ref b := ry
  obtain ⟨its, rv, p, _⟩ := I.list ha
  obtain ⟨its2, rv2, p2, _⟩ := I.list hb
  cases rv2
  cases xs with
  | nil =>
    cases rv
    exact PySem.EqBoolInt.of_rc (SeqAt.RcAt.lists (e := fun _ => true) p.isList p2.isList rfl hu (fun j h1 => absurd h1 (Nat.not_lt_zero j))) ⟨.bl true, H, I, rfl, q⟩
  | cons z zs =>
    cases rv
    exact PySem.EqBoolInt.of_rc (SeqAt.RcAt.lists_lengths p.isList p2.isList (by simp) hu) ⟨.bl false, H, I, rfl, q⟩
theorem op_neNil (hu : X.A.units < cLine) : OpR X (compareOp .NotEq) (fun x y H Q => ∃ a b xs, x = .ref a ∧ y = .ref b ∧ SqL X.K H a xs ∧ SqL X.K H b [] ∧ Q (.bl (!xs.isEmpty)) H) := by
  intro pins s σ H x y v u Q I rx ry h
  obtain ⟨a, b, xs, rfl, rfl, ha, hb, q⟩ := h
  obtain rfl : v = Value.ref a := rx
  obtain rfl : u = Value.ref b := ry
  obtain ⟨its, rv, p, _⟩ := I.list ha
  obtain ⟨its2, rv2, p2, _⟩ := I.list hb
  cases rv2
  cases xs with
  | nil =>
    cases rv
    exact PySem.EqBoolInt.of_rcne (SeqAt.RcNeAt.lists (e := fun _ => true) p.isList p2.isList rfl hu (fun j h1 => absurd h1 (Nat.not_lt_zero j))) ⟨.bl false, H, I, rfl, q⟩
  | cons z zs =>
    cases rv
    exact PySem.EqBoolInt.of_rcne (SeqAt.RcNeAt.lists_lengths p.isList p2.isList (by simp) hu) ⟨.bl true, H, I, rfl, q⟩
end
theorem hu0 {A : Around} {k : Nat} (hr : Room k A) : A.units < cLine := by have := hr.un; omega
section
variable {P : Program} {w : World} {K : PySem.W.Frag} {mg : Str → Option Value} {base : Heap}

/-! ### data that nothing changes -/
mutual
def imm : PyData → Bool
  | .list _ => false
  | .dict _ => false
  | .tuple ds => immAll ds
  | .none => true
  | .bool _ => true
  | .int _ => true
  | .str _ => true
def immAll : List PyData → Bool
  | [] => true
  | d :: ds => imm d && immAll ds
end
/-- tuples, and what is locked -/
def Fix : HO → Prop
  | .tup _ => True
  | .frz _ _ => True
  | _ => False
def Kt (H H' : Hp) : Prop := ∀ a o, H a = some o → Fix o → H' a = some o
theorem Kt.refl (H : Hp) : Kt H H := fun _ _ e _ => e
theorem Kt.trans {H H1 H2 : Hp} (h : Kt H H1) (g : Kt H1 H2) : Kt H H2 := fun a o e f => g a o (h a o e f) f
theorem Kt.same {H H' : Hp} (h : Same H H') : Kt H H' := fun a o e _ => h a o e
theorem Kt.but {H H' : Hp} {b : Addr} {o : HO} (h : But b H H') (hb : H b = some o) (n : ¬ Fix o) : Kt H H' := fun a o' e f => h a o' (fun z => n (by rw [z, hb] at e; cases e; exact f)) e
theorem Kt.upd {H : Hp} {b : Addr} {o o' : HO} (hb : H b = some o) (n : ¬ Fix o) : Kt H (upd H b o') := fun a o2 e f => by
  rw [upd_ne (fun z => n (by rw [z, hb] at e; cases e; exact f))]
  exact e
theorem Kt.bag {H H' : Hp} {b : Addr} (h : But b H H') (g : Bag H b) : Kt H H' := by
  obtain ⟨x, y, e, _⟩ := g
  exact Kt.but h e (fun z => z)
theorem sqT_kt {H H' : Hp} {a : Addr} {xs : List V} (e : Kt H H') (h : SqT K H a xs) : SqT K H' a xs := by
  rcases h with (h | ⟨o, h⟩) | h
  · exact .inl (.inl (e _ _ h trivial))
  · exact .inl (.inr ⟨o, e _ _ h trivial⟩)
  · exact .inr h
mutual
theorem dp_kt {H H' : Hp} (e : Kt H H') : ∀ (d : PyData) (v : V), imm d = true → Dp K H v d → Dp K H' v d
  | .none, _, _, h => by cases h; exact .non
  | .bool b, _, _, h => by cases h; exact .bl b
  | .int i, _, _, h => by cases h; exact .int i
  | .str x, _, _, h => by cases h; exact .str x
  | .list ds, _, i, h => by simp [imm] at i
  | .tuple ds, _, i, h => by
    cases h with
    | tup hs ha => exact .tup (sqT_kt e hs) (dp_ktAll e ds _ (by simpa [imm] using i) ha)
  | .dict _, _, _, h => by cases h
theorem dp_ktAll {H H' : Hp} (e : Kt H H') : ∀ (ds : List PyData) (vs : List V), immAll ds = true → DpAll K H vs ds → DpAll K H' vs ds
  | [], _, _, h => by cases h; exact .nil
  | d :: ds, _, i, h => by
    cases h with
    | cons h1 h2 =>
      have i2 : imm d = true ∧ immAll ds = true := by simpa [immAll] using i
      exact .cons (dp_kt e d _ i2.1 h1) (dp_ktAll e ds _ i2.2 h2)
end
theorem immAll_iff : ∀ {ds : List PyData}, immAll ds = true ↔ ∀ d ∈ ds, imm d = true
  | [] => by simp [immAll]
  | d :: ds => by simp [immAll, immAll_iff (ds := ds)]
theorem dpAll_getD {H : Hp} {vs : List V} {ds : List PyData} {i : Nat} {d : PyData} (h : DpAll K H vs ds) (e : ds[i]? = some d) : ∃ v, vs[i]? = some v ∧ Dp K H v d := by
  have hl := dpAll_len h
  have hi : i < vs.length := by
    rw [hl]
    exact (List.getElem?_eq_some_iff.mp e).1
  obtain ⟨d', e', p⟩ := dpAll_get h (List.getElem?_eq_getElem hi)
  rw [e] at e'
  cases e'
  exact ⟨_, List.getElem?_eq_getElem hi, p⟩
theorem dp_list {H : Hp} {v : V} {ds : List PyData} (h : Dp K H v (.list ds)) : ∃ a vs, v = .ref a ∧ SqL K H a vs ∧ DpAll K H vs ds := by
  cases h with
  | lst hs ha => exact ⟨_, _, rfl, hs, ha⟩
theorem dp_tuple {H : Hp} {v : V} {ds : List PyData} (h : Dp K H v (.tuple ds)) : ∃ a vs, v = .ref a ∧ SqT K H a vs ∧ DpAll K H vs ds := by
  cases h with
  | tup hs ha => exact ⟨_, _, rfl, hs, ha⟩
theorem take_fm {α β : Type} (f : α → Option β) (ds : List α) (i : Nat) (d : α) (h : ds[i]? = some d) : (ds.take (i + 1)).filterMap f = (ds.take i).filterMap f ++ (f d).toList := by
  rw [List.take_add_one, h, List.filterMap_append]
  cases e : f d <;> simp [e]
theorem fm_take_le {α β : Type} (f : α → Option β) (ds : List α) (i : Nat) : ((ds.take i).filterMap f).length ≤ i :=
  Nat.le_trans (List.length_filterMap_le _ _) (by rw [List.length_take]; exact Nat.min_le_left _ _)
/-- a list made of a list of data, by a function of it -/
theorem lc_ty {α β : Type} {a D : Addr} {vs : List V} {xs : List α} {H1 : Hp} {σ : L2.St} {g : TG} {tt : TT} {te : TE} {ws : List Nat} {Qd : Hp → Prop} (ea : α → PyData) (eb : β → PyData) (f : α → Option β)
    (hS : SqL K H1 a vs) (hA : DpAll K H1 vs (xs.map ea)) (hn : H1 D = none) (hlen : xs.length ≤ 1000000) (him : ∀ y, imm (eb y) = true)
    (step : ∀ (i : Nat) (v : V) (x : α) (H : Hp) (k : V → Hp → Prop) (kf : Hp → Prop), xs[i]? = some x → Same H1 H → Dp K H v (ea x) → (∀ y, f x = some y → ∀ v' H4, Same H H4 → Dp K H4 v' (eb y) → k v' H4) → (f x = none → ∀ H3, Same H H3 → kf H3) →
      g v (wipe σ ws) H fun σ2 H2 => wipe σ2 ws = wipe σ ws ∧ tt σ2 H2 fun b H3 => if b = true then te σ2 H3 k else kf H3)
    (hd : ∀ H ys, Same H1 H → H D = some (.lst ys) → DpAll K H ys ((xs.filterMap f).map eb) → Qd H) :
    ∃ W : Nat → Nat → Hp → Prop, (∃ m, W 0 m (upd H1 D (.lst []))) ∧ ∀ i m H, W i m H →
      ((Itl K a).stop i H ∧ Qd H) ∨ ((Itl K a).go i H ∧ ∃ Nx : Hp → Prop, (∀ H', Nx H' → ∃ m', m' < m ∧ W (i + 1) m' H') ∧ ∀ x H', (Itl K a).yld i H x H' → g x (wipe σ ws) H' fun σ2 H2 => wipe σ2 ws = wipe σ ws ∧ tt σ2 H2 fun b H3 =>
        if b = true then te σ2 H3 fun y H4 => ∃ acc, H4 D = some (.lst acc) ∧ acc.length < sizeLine ∧ Nx (upd H4 D (.lst (acc ++ [y]))) else Nx H3) := by
  have hl := dpAll_len hA
  rw [List.length_map] at hl
  have imA : ∀ zs : List β, immAll (zs.map eb) = true := fun zs => immAll_iff.mpr fun e he => by
    obtain ⟨y, _, rfl⟩ := List.mem_map.mp he
    exact him y
  refine lc_it (walk_list (K := K) (a := a) (xs := vs)) (fun i H => Same H1 H ∧ ∃ acc, H D = some (.lst acc) ∧ DpAll K H acc (((xs.take i).filterMap f).map eb)) ⟨same_upd hn, [], upd_same, .nil⟩ (fun i H _ z => z.1.seq hS) ?_ ?_
  · rintro i v H H' hi ⟨s1, acc, hD, hacc⟩ ⟨rfl, hv⟩
    obtain ⟨d, ed, pd⟩ := dpAll_get hA hv
    rw [List.getElem?_map] at ed
    obtain ⟨x, ex, rfl⟩ := Option.map_eq_some_iff.mp ed
    refine step i v x H' _ _ ex s1 (dp_same s1 _ _ pd) ?_ ?_
    · intro e fe y H4 s4 py
      have hD4 := s4 _ _ hD
      have kt : Kt H' (upd H4 D (.lst (acc ++ [y]))) := (Kt.same s4).trans (Kt.upd hD4 (fun z => z))
      refine ⟨acc, hD4, ?_, ?_, acc ++ [y], upd_same, ?_⟩
      · have := dpAll_len hacc
        rw [List.length_map] at this
        have h2 := fm_take_le f xs i
        rw [sizeLine_eq]
        omega
      · intro c o ec
        rw [upd_ne (ne_of_none ec hn)]
        exact s4 _ _ (s1 _ _ ec)
      · rw [take_fm f xs i x ex, fe, List.map_append]
        exact dpAll_append (dp_ktAll kt _ _ (imA _) hacc) (.cons (dp_kt (Kt.upd hD4 (fun z => z)) _ _ (him e) py) .nil)
    · intro fe H3 s3
      refine ⟨s1.trans s3, acc, s3 _ _ hD, ?_⟩
      rw [take_fm f xs i x ex, fe]
      have := dp_sameAll s3 _ _ hacc
      simpa using this
  · rintro H ⟨s1, acc, hD, hacc⟩
    refine hd H acc s1 hD ?_
    rw [hl, List.take_of_length_le (Nat.le_refl _)] at hacc
    exact hacc
/-- the same, with no test -/
theorem lc_map {α β : Type} {a D : Addr} {vs : List V} {xs : List α} {H1 : Hp} {σ : L2.St} {g : TG} {te : TE} {ws : List Nat} {Qd : Hp → Prop} (ea : α → PyData) (eb : β → PyData) (f : α → β)
    (hS : SqL K H1 a vs) (hA : DpAll K H1 vs (xs.map ea)) (hn : H1 D = none) (hlen : xs.length ≤ 1000000) (him : ∀ y, imm (eb y) = true)
    (step : ∀ (i : Nat) (v : V) (x : α) (H : Hp) (k : V → Hp → Prop), xs[i]? = some x → Same H1 H → Dp K H v (ea x) → (∀ v' H4, Same H H4 → Dp K H4 v' (eb (f x)) → k v' H4) →
      g v (wipe σ ws) H fun σ2 H2 => wipe σ2 ws = wipe σ ws ∧ te σ2 H2 k)
    (hd : ∀ H ys, Same H1 H → H D = some (.lst ys) → DpAll K H ys ((xs.map f).map eb) → Qd H) :
    ∃ W : Nat → Nat → Hp → Prop, (∃ m, W 0 m (upd H1 D (.lst []))) ∧ ∀ i m H, W i m H →
      ((Itl K a).stop i H ∧ Qd H) ∨ ((Itl K a).go i H ∧ ∃ Nx : Hp → Prop, (∀ H', Nx H' → ∃ m', m' < m ∧ W (i + 1) m' H') ∧ ∀ x H', (Itl K a).yld i H x H' → g x (wipe σ ws) H' fun σ2 H2 => wipe σ2 ws = wipe σ ws ∧ tYes σ2 H2 fun b H3 =>
        if b = true then te σ2 H3 fun y H4 => ∃ acc, H4 D = some (.lst acc) ∧ acc.length < sizeLine ∧ Nx (upd H4 D (.lst (acc ++ [y]))) else Nx H3) := by
  refine lc_ty (tt := tYes) ea eb (fun x => some (f x)) hS hA hn hlen him (fun i v x H k kf ex s1 px hk _ => ?_) (fun H ys s1 hD hy => hd H ys s1 hD ?_)
  · have := step i v x H k ex s1 px (fun v' H4 s4 p4 => hk _ rfl v' H4 s4 p4)
    simpa only [tYes, if_true] using this
  · rw [List.filterMap_eq_map'] at hy
    exact hy
/-- a dict made by a walk -/
theorem dc_it {J : It} {n : Nat} {G : Hp → Prop} {Y : Nat → Hp → V → Hp → Prop} (w : Walk J n G Y) {g : TG} {tt : TT} {tk tv : TE} {vs : List Nat} {σ : L2.St} {H1 : Hp} {D : Addr} {Qd : Hp → Prop} (Pv : Nat → Hp → Prop) (h0 : Pv 0 (upd H1 D (.dK []))) (hG : ∀ i H, i ≤ n → Pv i H → G H)
    (hs : ∀ i x H H', i < n → Pv i H → Y i H x H' → g x (wipe σ vs) H' fun σ2 H2 => wipe σ2 vs = wipe σ vs ∧ tt σ2 H2 fun b H3 =>
      if b = true then tk σ2 H3 fun y H4 => tv σ2 H4 fun z H5 => ∃ kvs k, y = kV k ∧ H5 D = some (.dK kvs) ∧ kvs.length < sizeLine ∧ Pv (i + 1) (upd H5 D (.dK (putK kvs k z))) else Pv (i + 1) H3) (hd : ∀ H, Pv n H → Qd H) :
    ∃ W : Nat → Nat → Hp → Prop, (∃ m, W 0 m (upd H1 D (.dK []))) ∧ ∀ i m H, W i m H →
      (J.stop i H ∧ Qd H) ∨ (J.go i H ∧ ∃ Nx : Hp → Prop, (∀ H', Nx H' → ∃ m', m' < m ∧ W (i + 1) m' H') ∧ ∀ x H', J.yld i H x H' → g x (wipe σ vs) H' fun σ2 H2 => wipe σ2 vs = wipe σ vs ∧ tt σ2 H2 fun b H3 =>
        if b = true then tk σ2 H3 fun y H4 => tv σ2 H4 fun z H5 => ∃ kvs k, y = kV k ∧ H5 D = some (.dK kvs) ∧ kvs.length < sizeLine ∧ Nx (upd H5 D (.dK (putK kvs k z))) else Nx H3) := by
  refine ⟨fun i m H => m = n - i ∧ i ≤ n ∧ Pv i H, ⟨n, by simp, Nat.zero_le _, h0⟩, ?_⟩
  rintro i m H ⟨rfl, hi, p⟩
  have gh := hG i H hi p
  by_cases lt : i < n
  · exact .inr ⟨w.goes i H lt gh, Pv (i + 1), fun H' p' => ⟨n - (i + 1), by omega, rfl, lt, p'⟩, fun x H' y => hs i x H H' lt p (w.yields i H x H' lt gh y)⟩
  · obtain rfl : i = n := by omega
    exact .inl ⟨w.stops H gh, hd H p⟩

theorem hu65 {A : Around} {k : Nat} (hr : Room k A) : A.units + 65 < cLine := by
  have := hr.un
  omega

/-! ### mirrors: values, the store, results -/
inductive A where
  | non | bl (b : Bool) | int (i : Int) | str (x : Str) | tup (xs : List A) | lit (xs : List A) | ref (n : Nat) | adr (a : Addr) | ty (n : String) | exc (a d : Addr) (n : Nat)
inductive AO where
  | lst (xs : List A) | dK (kvs : List (Key × A)) | dT (kvs : List (List Key × A)) | set (ns : List Int) | ins (C : Addr) (fs : List (Str × A)) | xd (fs : List (Str × A)) | xo (k : Nat) (d : Option Nat) | xe (fs : List (Str × A))
abbrev Sto := List AO
abbrev AEnv := List (Option A)
inductive Res (α : Type) where
  | ok (a : α) (s : Sto) | ex (c : Addr) (d : Option Nat) (s : Sto) | no
def Res.bind {α β : Type} (r : Res α) (k : α → Sto → Res β) : Res β := match r with
  | .ok a s => k a s
  | .ex c d s => .ex c d s
  | .no => .no
inductive Fl where
  | nx (e : AEnv) | rt (a : A) | bk (e : AEnv) | ct (e : AEnv)
inductive RF where
  | fl (f : Fl) (s : Sto) | ex (c : Addr) (d : Option Nat) (e : AEnv) (s : Sto) | no
/-- a result's use in a statement -/
def Res.thenS {α : Type} (r : Res α) (e : AEnv) (k : α → Sto → RF) : RF := match r with
  | .ok a s => k a s
  | .ex c d s => .ex c d e s
  | .no => .no
def RF.next (r : RF) (k : AEnv → Sto → RF) : RF := match r with
  | .fl (.nx e) s => k e s
  | r => r
def lift {α : Type} (o : Option α) (s : Sto) : Res α := match o with
  | some a => .ok a s
  | none => .no
/-! ### how the mirror stands to the heap -/
mutual
inductive Rv (K : PySem.W.Frag) (H : Hp) (ρ : List Addr) : V → A → Prop where
  | non : Rv K H ρ .non .non
  | bl (b : Bool) : Rv K H ρ (.bl b) (.bl b)
  | int (i : Int) : Rv K H ρ (.int i) (.int i)
  | str (x : Str) : Rv K H ρ (.str x) (.str x)
  | tup {p : Addr} {vs : List V} {xs : List A} : SqT K H p vs → Rvs K H ρ vs xs → Rv K H ρ (.ref p) (.tup xs)
  | lit {p : Addr} {vs : List V} {xs : List A} : ((∃ o, H p = some (.frz o (.lst vs))) ∨ SqL K (fun _ => none) p vs) → Rvs K H ρ vs xs → Rv K H ρ (.ref p) (.lit xs)
  | ref {n : Nat} {a : Addr} : ρ[n]? = some a → Rv K H ρ (.ref a) (.ref n)
  | adr (a : Addr) : Rv K H ρ (.ref a) (.adr a)
  | ty (n : String) : Rv K H ρ (.ty n) (.ty n)
  | exc {a d : Addr} {n : Nat} : ρ[n]? = some d → Rv K H ρ (.ref a) (.exc a d n)
inductive Rvs (K : PySem.W.Frag) (H : Hp) (ρ : List Addr) : List V → List A → Prop where
  | nil : Rvs K H ρ [] []
  | cons {v : V} {a : A} {vs : List V} {xs : List A} : Rv K H ρ v a → Rvs K H ρ vs xs → Rvs K H ρ (v :: vs) (a :: xs)
end
theorem lit_sq {H : Hp} {p : Addr} {vs : List V} (h : (∃ o, H p = some (.frz o (.lst vs))) ∨ SqL K (fun _ => none) p vs) : SqL K H p vs := by
  rcases h with ⟨o, h⟩ | (h | ⟨o, h⟩) | h
  · exact .inl (.inr ⟨o, h⟩)
  · cases h
  · cases h
  · exact .inr h
structure Ext (ρ ρ' : List Addr) (H H' : Hp) : Prop where
  pre : ∃ l, ρ' = ρ ++ l
  kt : Kt H H'
theorem Ext.refl (ρ : List Addr) (H : Hp) : Ext ρ ρ H H := ⟨⟨[], by simp⟩, Kt.refl H⟩
theorem Ext.trans {ρ ρ1 ρ2 : List Addr} {H H1 H2 : Hp} (a : Ext ρ ρ1 H H1) (b : Ext ρ1 ρ2 H1 H2) : Ext ρ ρ2 H H2 := by
  obtain ⟨⟨l, rfl⟩, k⟩ := a
  obtain ⟨⟨m, rfl⟩, k2⟩ := b
  exact ⟨⟨l ++ m, by simp⟩, k.trans k2⟩
theorem Ext.get {ρ ρ' : List Addr} {H H' : Hp} (e : Ext ρ ρ' H H') {n : Nat} {a : Addr} (h : ρ[n]? = some a) : ρ'[n]? = some a := by
  obtain ⟨⟨l, rfl⟩, _⟩ := e
  have hn := (List.getElem?_eq_some_iff.mp h).1
  rw [List.getElem?_append_left hn]
  exact h
theorem Ext.same {ρ : List Addr} {H H' : Hp} (s : Same H H') : Ext ρ ρ H H' := ⟨⟨[], by simp⟩, Kt.same s⟩
mutual
theorem rv_ext {ρ ρ' : List Addr} {H H' : Hp} (e : Ext ρ ρ' H H') : ∀ {v : V} {a : A}, Rv K H ρ v a → Rv K H' ρ' v a
  | _, _, .non => .non
  | _, _, .bl b => .bl b
  | _, _, .int i => .int i
  | _, _, .str x => .str x
  | _, _, .tup h hs => .tup (sqT_kt e.kt h) (rvs_ext e hs)
  | _, _, .lit h hs => .lit (h.imp (fun ⟨o, h⟩ => ⟨o, e.kt _ _ h trivial⟩) id) (rvs_ext e hs)
  | _, _, .ref h => .ref (e.get h)
  | _, _, .adr a => .adr a
  | _, _, .ty a => .ty a
  | _, _, .exc h => .exc (e.get h)
theorem rvs_ext {ρ ρ' : List Addr} {H H' : Hp} (e : Ext ρ ρ' H H') : ∀ {vs : List V} {xs : List A}, Rvs K H ρ vs xs → Rvs K H' ρ' vs xs
  | _, _, .nil => .nil
  | _, _, .cons h hs => .cons (rv_ext e h) (rvs_ext e hs)
end
section
variable {H : Hp} {ρ : List Addr}
theorem Rvs.length : ∀ {vs : List V} {xs : List A}, Rvs K H ρ vs xs → vs.length = xs.length
  | _, _, .nil => rfl
  | _, _, .cons _ hs => by rw [List.length_cons, List.length_cons, Rvs.length hs]
theorem Rvs.get : ∀ {vs : List V} {xs : List A} {i : Nat} {a : A}, Rvs K H ρ vs xs → xs[i]? = some a → ∃ v, vs[i]? = some v ∧ Rv K H ρ v a
  | _, _, 0, _, .cons h _, e => by cases e; exact ⟨_, rfl, h⟩
  | _, _, i + 1, _, .cons _ hs, e => by
    obtain ⟨v, e1, e2⟩ := Rvs.get (i := i) hs (by simpa using e)
    exact ⟨v, by simpa using e1, e2⟩
  | _, _, i, _, .nil, e => by simp at e
theorem Rvs.getV : ∀ {vs : List V} {xs : List A} {i : Nat} {v : V}, Rvs K H ρ vs xs → vs[i]? = some v → ∃ a, xs[i]? = some a ∧ Rv K H ρ v a
  | _, _, 0, _, .cons h _, e => by cases e; exact ⟨_, rfl, h⟩
  | _, _, i + 1, _, .cons _ hs, e => by
    obtain ⟨v, e1, e2⟩ := Rvs.getV (i := i) hs (by simpa using e)
    exact ⟨v, by simpa using e1, e2⟩
  | _, _, i, _, .nil, e => by simp at e
theorem Rvs.append : ∀ {vs us : List V} {xs ys : List A}, Rvs K H ρ vs xs → Rvs K H ρ us ys → Rvs K H ρ (vs ++ us) (xs ++ ys)
  | _, _, _, _, .nil, h => h
  | _, _, _, _, .cons h hs, g => .cons h (Rvs.append hs g)
theorem Rvs.take : ∀ {vs : List V} {xs : List A} (n : Nat), Rvs K H ρ vs xs → Rvs K H ρ (vs.take n) (xs.take n)
  | _, _, 0, _ => by rw [List.take_zero, List.take_zero]; exact .nil
  | _, _, n + 1, .nil => by rw [List.take_nil, List.take_nil]; exact .nil
  | _, _, n + 1, .cons h hs => .cons h (Rvs.take n hs)
theorem Rvs.drop : ∀ {vs : List V} {xs : List A} (n : Nat), Rvs K H ρ vs xs → Rvs K H ρ (vs.drop n) (xs.drop n)
  | _, _, 0, h => h
  | _, _, n + 1, .nil => by rw [List.drop_nil, List.drop_nil]; exact .nil
  | _, _, n + 1, .cons _ hs => Rvs.drop n hs
theorem Rvs.set {v : V} {a : A} (r : Rv K H ρ v a) : ∀ {vs : List V} {xs : List A} (n : Nat), Rvs K H ρ vs xs → Rvs K H ρ (vs.set n v) (xs.set n a)
  | _, _, _, .nil => .nil
  | _, _, 0, .cons _ hs => .cons r hs
  | _, _, n + 1, .cons h hs => .cons h (Rvs.set r n hs)
theorem Rvs.erase : ∀ {vs : List V} {xs : List A} (n : Nat), Rvs K H ρ vs xs → Rvs K H ρ (vs.eraseIdx n) (xs.eraseIdx n)
  | _, _, _, .nil => .nil
  | _, _, 0, .cons _ hs => hs
  | _, _, n + 1, .cons h hs => .cons h (Rvs.erase n hs)
theorem Rvs.ints : ∀ (ns : List Int), Rvs K H ρ (ns.map V.int) (ns.map A.int)
  | [] => .nil
  | n :: ns => .cons (.int n) (Rvs.ints ns)
theorem Rvs.of_ints : ∀ {ns : List Int} {vs : List V}, Rvs K H ρ vs (ns.map A.int) → vs = ns.map V.int
  | [], _, h => by cases h; rfl
  | n :: ns, _, h => by
    cases h with
    | cons h1 h2 =>
      cases h1
      rw [Rvs.of_ints h2]
      rfl
theorem Rvs.strs : ∀ (ns : List Str), Rvs K H ρ (ns.map V.str) (ns.map A.str)
  | [] => .nil
  | n :: ns => .cons (.str n) (Rvs.strs ns)
theorem Rvs.of_strs : ∀ {ns : List Str} {vs : List V}, Rvs K H ρ vs (ns.map A.str) → vs = ns.map V.str
  | [], _, h => by cases h; rfl
  | n :: ns, _, h => by
    cases h with
    | cons h1 h2 =>
      cases h1
      rw [Rvs.of_strs h2]
      rfl
end
def Rkv {κ : Type} (K : PySem.W.Frag) (H : Hp) (ρ : List Addr) : List (κ × V) → List (κ × A) → Prop := Paired fun p q => p.1 = q.1 ∧ Rv K H ρ p.2 q.2
/-- the refusals' classes by numbers, and where the written part has them -/
def clNames : List Str := ["NoSetup", "NoText", "NoRow", "TooMany", "NoClient", "NoFile", "NoPage", "NoValue", "NoTicks", "NoMessage", "Busy", "NotWaiting", "NoLease", "Clean", "NothingLeft", "NoList", "TooDeep"]
def clK (K : PySem.W.Frag) (k : Nat) : Addr := match PySem.W.nsIn K mainGlobals (clNames.getD k "") with
  | some (some (.ref C)) => C
  | _ => 0
def Ro (K : PySem.W.Frag) (w : World) (H : Hp) (ρ : List Addr) (a : Addr) : AO → Prop
  | .lst xs => ∃ vs, H a = some (.lst vs) ∧ Rvs K H ρ vs xs
  | .dK kvs => ∃ kv, H a = some (.dK kv) ∧ Rkv K H ρ kv kvs
  | .dT kvs => ∃ kv, H a = some (.dT kv) ∧ Rkv K H ρ kv kvs
  | .set ns => ns.Nodup ∧ H a = some (SetO w a (fun j => decide (j ∈ ns)) ns.length)
  | .ins C fs => ∃ dx fv, H a = some (.ins C dx fv) ∧ Rkv K H ρ fv fs
  | .xd fs => ∃ fv, H a = some (.xd fv) ∧ Rkv K H ρ fv fs
  | .xo k none => H a = some (ExO (.ref (clK K k)) a)
  | .xo k (some m) => ∃ dx, ρ[m]? = some dx ∧ H a = some (exo a (clK K k) (some dx))
  | .xe fs => ∃ fv, H a = some (exd a fv) ∧ Rkv K H ρ fv fs
structure Rel (K : PySem.W.Frag) (w : World) (ρ : List Addr) (H : Hp) (st : Sto) : Prop where
  len : ρ.length = st.length
  nd : ρ.Nodup
  obj : ∀ (n : Nat) (a : Addr) (o : AO), ρ[n]? = some a → st[n]? = some o → Ro K w H ρ a o
theorem Ro.here {w : World} {H : Hp} {ρ : List Addr} {a : Addr} {o : AO} (h : Ro K w H ρ a o) : ∃ u, H a = some u ∧ ¬ Fix u := by
  cases o with
  | lst xs => obtain ⟨_, h, _⟩ := h; exact ⟨_, h, fun z => z⟩
  | dK xs => obtain ⟨_, h, _⟩ := h; exact ⟨_, h, fun z => z⟩
  | dT xs => obtain ⟨_, h, _⟩ := h; exact ⟨_, h, fun z => z⟩
  | set ns => exact ⟨_, h.2, fun z => z⟩
  | ins C fs => obtain ⟨_, _, h, _⟩ := h; exact ⟨_, h, fun z => z⟩
  | xd fs => obtain ⟨_, h, _⟩ := h; exact ⟨_, h, fun z => z⟩
  | xo k d =>
    cases d with
    | none => exact ⟨_, h, fun z => z⟩
    | some m => obtain ⟨_, _, h⟩ := h; exact ⟨_, h, fun z => z⟩
  | xe fs => obtain ⟨_, h, _⟩ := h; exact ⟨_, h, fun z => z⟩
theorem rkv_ext {κ : Type} {ρ ρ' : List Addr} {H H' : Hp} (e : Ext ρ ρ' H H') {kv : List (κ × V)} {kvs : List (κ × A)} (h : Rkv K H ρ kv kvs) : Rkv K H' ρ' kv kvs := Paired.mapP h fun _ _ z => ⟨z.1, rv_ext e z.2⟩
/-- an object that stands as it was -/
theorem Ro.ext {w : World} {ρ ρ' : List Addr} {H H' : Hp} (e : Ext ρ ρ' H H') {a : Addr} {o : AO} (h : Ro K w H ρ a o) (s : ∀ u, H a = some u → H' a = some u) : Ro K w H' ρ' a o := by
  cases o with
  | lst xs => obtain ⟨_, h, r⟩ := h; exact ⟨_, s _ h, rvs_ext e r⟩
  | dK xs => obtain ⟨_, h, r⟩ := h; exact ⟨_, s _ h, rkv_ext e r⟩
  | dT xs => obtain ⟨_, h, r⟩ := h; exact ⟨_, s _ h, rkv_ext e r⟩
  | set ns => exact ⟨h.1, s _ h.2⟩
  | ins C fs => obtain ⟨_, _, h, r⟩ := h; exact ⟨_, _, s _ h, rkv_ext e r⟩
  | xd fs => obtain ⟨_, h, r⟩ := h; exact ⟨_, s _ h, rkv_ext e r⟩
  | xo k d =>
    cases d with
    | none => exact s _ h
    | some m => obtain ⟨_, h1, h2⟩ := h; exact ⟨_, e.get h1, s _ h2⟩
  | xe fs => obtain ⟨_, h, r⟩ := h; exact ⟨_, s _ h, rkv_ext e r⟩
section
variable {w : World} {ρ : List Addr} {H : Hp} {st : Sto}
theorem Rel.at (r : Rel K w ρ H st) {n : Nat} {o : AO} (e : st[n]? = some o) : ∃ a, ρ[n]? = some a ∧ Ro K w H ρ a o := by
  have hn := (List.getElem?_eq_some_iff.mp e).1
  have hn' : n < ρ.length := by rw [r.len]; exact hn
  exact ⟨ρ[n], List.getElem?_eq_getElem hn', r.obj n _ o (List.getElem?_eq_getElem hn') e⟩
theorem Rel.get (r : Rel K w ρ H st) {n : Nat} {a : Addr} {o : AO} (h : ρ[n]? = some a) (e : st[n]? = some o) : Ro K w H ρ a o := r.obj n a o h e
theorem Rel.is (r : Rel K w ρ H st) {n : Nat} {a : Addr} (h : ρ[n]? = some a) : ∃ u, H a = some u ∧ ¬ Fix u := by
  have hn := (List.getElem?_eq_some_iff.mp h).1
  have hn' : n < st.length := by rw [← r.len]; exact hn
  exact (r.obj n a _ h (List.getElem?_eq_getElem hn')).here
theorem Rel.fresh (r : Rel K w ρ H st) {p : Addr} (np : H p = none) : p ∉ ρ := fun hp => by
  obtain ⟨n, hn⟩ := List.mem_iff_getElem?.mp hp
  obtain ⟨u, hu, _⟩ := r.is hn
  rw [np] at hu
  cases hu
/-- a heap that grew -/
theorem Rel.same (r : Rel K w ρ H st) {H' : Hp} (s : Same H H') : Rel K w ρ H' st :=
  ⟨r.len, r.nd, fun n a o h e => (r.obj n a o h e).ext (Ext.same s) fun u hu => s _ _ hu⟩
theorem inj_at (nd : ρ.Nodup) {n m : Nat} {a : Addr} (h : ρ[n]? = some a) (g : ρ[m]? = some a) : n = m :=
  (List.getElem?_inj (List.getElem?_eq_some_iff.mp h).1 nd).mp (by rw [h, g])
/-- an object is changed -/
theorem Rel.put (r : Rel K w ρ H st) {n : Nat} {a : Addr} {o : AO} {u : HO} (h : ρ[n]? = some a) (new : ∀ H', Ext ρ ρ H H' → H' a = some u → Ro K w H' ρ a o) : Ext ρ ρ H (upd H a u) ∧ Rel K w ρ (upd H a u) (st.set n o) := by
  obtain ⟨u0, hu, nf⟩ := r.is h
  have e : Ext ρ ρ H (upd H a u) := ⟨⟨[], by simp⟩, Kt.upd hu nf⟩
  refine ⟨e, ⟨by rw [List.length_set]; exact r.len, r.nd, fun m b o' hb e' => ?_⟩⟩
  by_cases hm : m = n
  · subst hm
    rw [h] at hb
    cases hb
    have hl : m < st.length := by
      have := (List.getElem?_eq_some_iff.mp e').1
      simpa using this
    rw [List.getElem?_set_self hl] at e'
    cases e'
    exact new _ e upd_same
  · rw [List.getElem?_set_ne (fun z => hm z.symm)] at e'
    have nb : b ≠ a := fun z => by
      subst z
      exact hm (inj_at r.nd hb h)
    exact (r.obj m b o' hb e').ext e fun u hu => by rw [upd_ne nb]; exact hu
/-- an object is new -/
theorem Rel.new (r : Rel K w ρ H st) {p : Addr} {o : AO} {u : HO} (np : H p = none) (new : ∀ H', Ext ρ (ρ ++ [p]) H H' → H' p = some u → Ro K w H' (ρ ++ [p]) p o) : Ext ρ (ρ ++ [p]) H (upd H p u) ∧ Rel K w (ρ ++ [p]) (upd H p u) (st ++ [o]) := by
  have e : Ext ρ (ρ ++ [p]) H (upd H p u) := ⟨⟨[p], rfl⟩, Kt.same (same_upd np)⟩
  refine ⟨e, ⟨by rw [List.length_append, List.length_append, r.len]; rfl, ?_, fun m b o' hb e' => ?_⟩⟩
  · refine List.nodup_append.mpr ⟨r.nd, by simp, fun x hx y hy z => ?_⟩
    rw [List.mem_singleton.mp hy] at z
    exact r.fresh np (z ▸ hx)
  · by_cases hm : m < st.length
    · rw [List.getElem?_append_left hm] at e'
      rw [List.getElem?_append_left (by rw [r.len]; exact hm)] at hb
      exact (r.obj m b o' hb e').ext e fun u hu => by rw [upd_ne (ne_of_none hu np)]; exact hu
    · have e2 : m = st.length := by
        have := (List.getElem?_eq_some_iff.mp e').1
        rw [List.length_append, List.length_singleton] at this
        omega
      subst e2
      rw [List.getElem?_append_right (Nat.le_refl _), Nat.sub_self] at e'
      rw [← r.len, List.getElem?_append_right (Nat.le_refl _), Nat.sub_self] at hb
      cases e'
      cases hb
      exact new _ e upd_same
theorem Rel.last (r : Rel K w ρ H st) (p : Addr) : (ρ ++ [p])[st.length]? = some p := by
  rw [← r.len, List.getElem?_append_right (Nat.le_refl _), Nat.sub_self]
  rfl
end
/-- the slots -/
structure Renv (K : PySem.W.Frag) (H : Hp) (ρ : List Addr) (σ : L2.St) (env : AEnv) : Prop where
  len : σ.length = env.length
  val : ∀ (i : Nat) (a : A), env[i]? = some (some a) → ∃ v, σ[i]? = some (some v) ∧ Rv K H ρ v a
theorem Renv.ext {ρ ρ' : List Addr} {H H' : Hp} {σ : L2.St} {env : AEnv} (r : Renv K H ρ σ env) (e : Ext ρ ρ' H H') : Renv K H' ρ' σ env :=
  ⟨r.len, fun i a h => by obtain ⟨v, e1, e2⟩ := r.val i a h; exact ⟨v, e1, rv_ext e e2⟩⟩
theorem Renv.set {ρ : List Addr} {H : Hp} {σ : L2.St} {env : AEnv} (r : Renv K H ρ σ env) (i : Nat) {v : V} {a : A} (h : Rv K H ρ v a) : Renv K H ρ (σ.set i (some v)) (env.set i (some a)) := by
  refine ⟨by rw [List.length_set, List.length_set]; exact r.len, fun j b e => ?_⟩
  by_cases hj : j = i
  · subst hj
    have hl : j < env.length := by
      have := (List.getElem?_eq_some_iff.mp e).1
      simpa using this
    rw [List.getElem?_set_self hl] at e
    cases e
    exact ⟨v, by rw [List.getElem?_set_self (by rw [r.len]; exact hl)], h⟩
  · rw [List.getElem?_set_ne (fun z => hj z.symm)] at e
    obtain ⟨u, e1, e2⟩ := r.val j b e
    exact ⟨u, by rw [List.getElem?_set_ne (fun z => hj z.symm)]; exact e1, e2⟩
def wipeA (env : AEnv) : List Nat → AEnv
  | [] => env
  | v :: vs => (wipeA env vs).set v none
theorem Renv.off {ρ : List Addr} {H : Hp} {σ : L2.St} {env : AEnv} (r : Renv K H ρ σ env) (i : Nat) : Renv K H ρ (σ.set i none) (env.set i none) := by
  refine ⟨by rw [List.length_set, List.length_set]; exact r.len, fun j b e => ?_⟩
  by_cases hj : j = i
  · subst hj
    have hl : j < env.length := by
      have := (List.getElem?_eq_some_iff.mp e).1
      simpa using this
    rw [List.getElem?_set_self hl] at e
    cases e
  · rw [List.getElem?_set_ne (fun z => hj z.symm)] at e
    obtain ⟨u, e1, e2⟩ := r.val j b e
    exact ⟨u, by rw [List.getElem?_set_ne (fun z => hj z.symm)]; exact e1, e2⟩
theorem Renv.wipe {ρ : List Addr} {H : Hp} {σ : L2.St} {env : AEnv} (r : Renv K H ρ σ env) : ∀ vs : List Nat, Renv K H ρ (L2.wipe σ vs) (wipeA env vs)
  | [] => r
  | v :: vs => (Renv.wipe r vs).off v
/-! ### what is wanted of a result -/
abbrev WishX := Value → Option Addr → L2.St → Hp → Prop
def RD (ρ : List Addr) : Option Nat → Option Addr → Prop
  | none, none => True
  | some n, some a => ρ[n]? = some a
  | _, _ => False
def Post {α : Type} (K : PySem.W.Frag) (w : World) (ρ : List Addr) (H : Hp) (r : Res α) (R : α → Sto → List Addr → Hp → Prop) (X : Value → Option Addr → Hp → Prop) : Prop := match r with
  | .ok a st => ∀ ρ' H', Ext ρ ρ' H H' → Rel K w ρ' H' st → R a st ρ' H'
  | .ex c d st => ∀ ρ' H' dx, Ext ρ ρ' H H' → Rel K w ρ' H' st → RD ρ' d dx → X (.ref c) dx H'
  | .no => False
theorem Post.ext {α : Type} {w : World} {ρ ρ1 : List Addr} {H H1 : Hp} {r : Res α} {R : α → Sto → List Addr → Hp → Prop} {X : Value → Option Addr → Hp → Prop} (p : Post K w ρ H r R X) (e : Ext ρ ρ1 H H1) : Post K w ρ1 H1 r R X := by
  cases r with
  | ok a st => exact fun ρ' H' e' r' => p ρ' H' (e.trans e') r'
  | ex c d st => exact fun ρ' H' dx e' r' => p ρ' H' dx (e.trans e') r'
  | no => exact p
abbrev ME := AEnv → Sto → Res A
abbrev MT := AEnv → Sto → Res Bool
abbrev MA := AEnv → Sto → Res (List A)
def RE (K : PySem.W.Frag) (w : World) (W : WishX) (t : TE) (f : ME) : Prop := ∀ ρ H st σ env Q, Rel K w ρ H st → Renv K H ρ σ env → Post K w ρ H (f env st) (fun a _ ρ' H' => ∀ v, Rv K H' ρ' v a → Q v H') (W · · σ ·) → t σ H Q
def RT (K : PySem.W.Frag) (w : World) (W : WishX) (t : TT) (f : MT) : Prop := ∀ ρ H st σ env Q, Rel K w ρ H st → Renv K H ρ σ env → Post K w ρ H (f env st) (fun b _ _ H' => Q b H') (W · · σ ·) → t σ H Q
def RA (K : PySem.W.Frag) (w : World) (W : WishX) (t : TA) (f : MA) : Prop := ∀ ρ H st σ env Q, Rel K w ρ H st → Renv K H ρ σ env → Post K w ρ H (f env st) (fun xs _ ρ' H' => ∀ vs, Rvs K H' ρ' vs xs → Q vs H') (W · · σ ·) → t σ H Q
section
variable {w : World} {W : WishX} {ρ : List Addr} {H : Hp} {st : Sto} {σ : L2.St} {env : AEnv} {β : Type} {R : β → Sto → List Addr → Hp → Prop}
theorem RE.use {ta : TE} {f : ME} {k : A → Sto → Res β} {Q : VK} (h : RE K w W ta f) (rel : Rel K w ρ H st) (re : Renv K H ρ σ env) (p : Post K w ρ H ((f env st).bind k) R (W · · σ ·))
    (go : ∀ a s1 ρ1 H1 v, Ext ρ ρ1 H H1 → Rel K w ρ1 H1 s1 → Rv K H1 ρ1 v a → Post K w ρ1 H1 (k a s1) R (W · · σ ·) → Q v H1) : ta σ H Q := by
  refine h ρ H st σ env Q rel re ?_
  cases e : f env st with
  | ok a s1 =>
    rw [e] at p
    exact fun ρ1 H1 e1 r1 v hv => go a s1 ρ1 H1 v e1 r1 hv (Post.ext p e1)
  | ex c d s1 => rw [e] at p; exact p
  | no => rw [e] at p; exact p
theorem RT.use {ta : TT} {f : MT} {k : Bool → Sto → Res β} {Q : Bool → Hp → Prop} (h : RT K w W ta f) (rel : Rel K w ρ H st) (re : Renv K H ρ σ env) (p : Post K w ρ H ((f env st).bind k) R (W · · σ ·))
    (go : ∀ a s1 ρ1 H1, Ext ρ ρ1 H H1 → Rel K w ρ1 H1 s1 → Post K w ρ1 H1 (k a s1) R (W · · σ ·) → Q a H1) : ta σ H Q := by
  refine h ρ H st σ env Q rel re ?_
  cases e : f env st with
  | ok a s1 =>
    rw [e] at p
    exact fun ρ1 H1 e1 r1 => go a s1 ρ1 H1 e1 r1 (Post.ext p e1)
  | ex c d s1 => rw [e] at p; exact p
  | no => rw [e] at p; exact p
theorem RA.use {ta : TA} {f : MA} {k : List A → Sto → Res β} {Q : List V → Hp → Prop} (h : RA K w W ta f) (rel : Rel K w ρ H st) (re : Renv K H ρ σ env) (p : Post K w ρ H ((f env st).bind k) R (W · · σ ·))
    (go : ∀ a s1 ρ1 H1 v, Ext ρ ρ1 H H1 → Rel K w ρ1 H1 s1 → Rvs K H1 ρ1 v a → Post K w ρ1 H1 (k a s1) R (W · · σ ·) → Q v H1) : ta σ H Q := by
  refine h ρ H st σ env Q rel re ?_
  cases e : f env st with
  | ok a s1 =>
    rw [e] at p
    exact fun ρ1 H1 e1 r1 v hv => go a s1 ρ1 H1 v e1 r1 hv (Post.ext p e1)
  | ex c d s1 => rw [e] at p; exact p
  | no => rw [e] at p; exact p
/-- a result at last -/
theorem Post.give {a : A} {Q : VK} {v : V} {X : Value → Option Addr → Hp → Prop} (p : Post K w ρ H (.ok a st) (fun a _ ρ' H' => ∀ v, Rv K H' ρ' v a → Q v H') X) (rel : Rel K w ρ H st) (h : Rv K H ρ v a) : Q v H := p ρ H (Ext.refl ρ H) rel v h
/-- .. at another heap -/
theorem Post.giveAt {a : A} {Q : VK} {v : V} {X : Value → Option Addr → Hp → Prop} {ρ1 : List Addr} {H1 : Hp} {s1 : Sto} (p : Post K w ρ H (.ok a s1) (fun a _ ρ' H' => ∀ v, Rv K H' ρ' v a → Q v H') X) (e : Ext ρ ρ1 H H1) (rel : Rel K w ρ1 H1 s1) (h : Rv K H1 ρ1 v a) : Q v H1 := p ρ1 H1 e rel v h
end

/-! ### mirrors of expressions -/
def mVar (i : Nat) : ME := fun env st => match env[i]? with
  | some (some a) => .ok a st
  | _ => .no
def mC (a : A) : ME := fun _ st => .ok a st
def mOp (op : A → A → Sto → Res A) (f g : ME) : ME := fun env st => (f env st).bind fun x s1 => (g env s1).bind fun y s2 => op x y s2
def mUn (op : A → Sto → Res A) (f : ME) : ME := fun env st => (f env st).bind fun x s1 => op x s1
section
variable {w : World} {W : WishX}
theorem re_var {i : Nat} : RE K w W (tVar i) (mVar i) := fun ρ H st σ env Q rel re p => by
  unfold mVar at p
  split at p
  · rename_i a e
    obtain ⟨v, e1, e2⟩ := re.val i a e
    exact ⟨v, e1, p.give rel e2⟩
  · exact p.elim
theorem re_c {v : V} {a : A} (h : ∀ ρ H, Rv K H ρ v a) : RE K w W (tC v) (mC a) := fun ρ H st σ env Q rel re p => p.give rel (h ρ H)
theorem re_int {i : Int} : RE K w W (tC (.int i)) (mC (.int i)) := re_c fun _ _ => .int i
theorem re_str {i : Str} : RE K w W (tC (.str i)) (mC (.str i)) := re_c fun _ _ => .str i
theorem re_bl {i : Bool} : RE K w W (tC (.bl i)) (mC (.bl i)) := re_c fun _ _ => .bl i
theorem re_non : RE K w W (tC .non) (mC .non) := re_c fun _ _ => .non
def R2ok (K : PySem.W.Frag) (w : World) (r : R2) (op : A → A → Sto → Res A) : Prop := ∀ ρ H st x y a b Q X, Rel K w ρ H st → Rv K H ρ x a → Rv K H ρ y b → Post K w ρ H (op a b st) (fun a _ ρ' H' => ∀ v, Rv K H' ρ' v a → Q v H') X → r x y H Q
def R1ok (K : PySem.W.Frag) (w : World) (r : V → Hp → VK → Prop) (op : A → Sto → Res A) : Prop := ∀ ρ H st x a Q X, Rel K w ρ H st → Rv K H ρ x a → Post K w ρ H (op a st) (fun a _ ρ' H' => ∀ v, Rv K H' ρ' v a → Q v H') X → r x H Q
theorem re_op {r : R2} {op : A → A → Sto → Res A} {ta tb : TE} {f g : ME} (ho : R2ok K w r op) (hf : RE K w W ta f) (hg : RE K w W tb g) : RE K w W (tOp r ta tb) (mOp op f g) := fun ρ H st σ env Q rel re p =>
  hf.use rel re p fun a s1 ρ1 H1 x e1 r1 v1 p1 => hg.use r1 (re.ext e1) p1 fun b s2 ρ2 H2 y e2 r2 v2 p2 => ho ρ2 H2 s2 x y a b Q _ r2 (rv_ext e2 v1) v2 p2
theorem re_un {r : V → Hp → VK → Prop} {op : A → Sto → Res A} {ta : TE} {f : ME} (ho : R1ok K w r op) (hf : RE K w W ta f) : RE K w W (tUn r ta) (mUn op f) := fun ρ H st σ env Q rel re p =>
  hf.use rel re p fun a s1 ρ1 H1 x e1 r1 v1 p1 => ho ρ1 H1 s1 x a Q _ r1 v1 p1
/-! ### operators of whole numbers -/
def oI (C : Int → Int → Bool) (g : Int → Int → A) : A → A → Sto → Res A := fun a b st => match a, b with
  | .int i, .int j => if C i j = true then .ok (g i j) st else .no
  | _, _ => .no
def oI0 (g : Int → Int → A) : A → A → Sto → Res A := fun a b st => match a, b with
  | .int i, .int j => .ok (g i j) st
  | _, _ => .no
theorem r2_I0 {g : Int → Int → V} {g' : Int → Int → A} (hg : ∀ i j ρ H, Rv K H ρ (g i j) (g' i j)) : R2ok K w (rI0 g) (oI0 g') := fun ρ H st x y a b Q X rel ra rb p => by
  unfold oI0 at p
  split at p
  · cases ra
    cases rb
    exact ⟨_, _, rfl, rfl, p.give rel (hg _ _ _ _)⟩
  · exact p.elim
theorem r2_I {C : Int → Int → Prop} {C' : Int → Int → Bool} {g : Int → Int → V} {g' : Int → Int → A} (hC : ∀ i j, C' i j = true → C i j) (hg : ∀ i j ρ H, Rv K H ρ (g i j) (g' i j)) : R2ok K w (rI C g) (oI C' g') := fun ρ H st x y a b Q X rel ra rb p => by
  unfold oI at p
  split at p
  · cases ra
    cases rb
    split at p
    · rename_i hc
      exact ⟨_, _, rfl, rfl, hC _ _ hc, p.give rel (hg _ _ _ _)⟩
    · exact p.elim
  · exact p.elim
/-- two ways of one operator -/
def rOr (r r' : R2) : R2 := fun x y H Q => r x y H Q ∨ r' x y H Q
theorem OpR.or {X : Cx} {f : Value → Value → Sem Value} {r r' : R2} (h : OpR X f r) (h' : OpR X f r') : OpR X f (rOr r r') := fun pins s σ H x y v u Q I rx ry z => z.elim (fun z => h pins s σ H x y v u Q I rx ry z) (fun z => h' pins s σ H x y v u Q I rx ry z)
def oOr (c : A → A → Bool) (op op' : A → A → Sto → Res A) : A → A → Sto → Res A := fun a b st => if c a b = true then op a b st else op' a b st
theorem r2_or {r r' : R2} {c : A → A → Bool} {op op' : A → A → Sto → Res A} (h : R2ok K w r op) (h' : R2ok K w r' op') : R2ok K w (rOr r r') (oOr c op op') := fun ρ H st x y a b Q X rel ra rb p => by
  unfold oOr at p
  split at p
  · exact .inl (h ρ H st x y a b Q X rel ra rb p)
  · exact .inr (h' ρ H st x y a b Q X rel ra rb p)
def isInt : A → Bool
  | .int _ => true
  | _ => false
def isStr : A → Bool
  | .str _ => true
  | _ => false
def isTup : A → Bool
  | .tup _ => true
  | _ => false
def isRef : A → Bool
  | .ref _ => true
  | _ => false
/-! ### texts -/
def oS (C : Str → Str → Bool) (g : Str → Str → A) : A → A → Sto → Res A := fun a b st => match a, b with
  | .str i, .str j => if C i j = true then .ok (g i j) st else .no
  | _, _ => .no
theorem r2_addS : R2ok K w (fun x y H Q => ∃ i j, x = .str i ∧ y = .str j ∧ i.length + j.length ≤ sizeLine ∧ Q (.str (i ++ j)) H) (oS (fun i j => decide (i.length + j.length ≤ sizeLine)) fun i j => .str (i ++ j)) := fun ρ H st x y a b Q X rel ra rb p => by
  unfold oS at p
  split at p
  · cases ra
    cases rb
    split at p
    · rename_i hc
      exact ⟨_, _, rfl, rfl, of_decide_eq_true hc, p.give rel (.str _)⟩
    · exact p.elim
  · exact p.elim
theorem r2_cmpS {g : Str → Str → Bool} : R2ok K w (fun x y H Q => ∃ i j, x = .str i ∧ y = .str j ∧ Q (.bl (g i j)) H) (oS (fun _ _ => true) fun i j => .bl (g i j)) := fun ρ H st x y a b Q X rel ra rb p => by
  unfold oS at p
  split at p
  · cases ra
    cases rb
    exact ⟨_, _, rfl, rfl, p.give rel (.bl _)⟩
  · exact p.elim
/-! ### new objects -/
def newO (o : AO) (st : Sto) : Res A := .ok (.ref st.length) (st ++ [o])
theorem post_newL {ρ : List Addr} {H : Hp} {st : Sto} {vs : List V} {xs : List A} {Q : VK} {X : Value → Option Addr → Hp → Prop} (rel : Rel K w ρ H st) (rv : Rvs K H ρ vs xs) (p : Post K w ρ H (newO (.lst xs) st) (fun a _ ρ' H' => ∀ v, Rv K H' ρ' v a → Q v H') X) (q : Addr) (nq : H q = none) : Q (.ref q) (upd H q (.lst vs)) := by
  obtain ⟨e, r⟩ := rel.new (o := .lst xs) (u := .lst vs) nq fun H' e' h' => ⟨vs, h', rvs_ext e' rv⟩
  exact p.giveAt e r (.ref (rel.last q))
theorem post_newT {ρ : List Addr} {H : Hp} {st : Sto} {vs : List V} {xs : List A} {Q : VK} {X : Value → Option Addr → Hp → Prop} (rel : Rel K w ρ H st) (rv : Rvs K H ρ vs xs) (p : Post K w ρ H (.ok (.tup xs) st) (fun a _ ρ' H' => ∀ v, Rv K H' ρ' v a → Q v H') X) (q : Addr) (nq : H q = none) : Q (.ref q) (upd H q (.tup vs)) := by
  have s := same_upd (o := .tup vs) nq
  exact p.giveAt (Ext.same s) (rel.same s) (.tup (SqT.of upd_same) (rvs_ext (Ext.same s) rv))
/-- what a list holds -/
def getL (st : Sto) : A → Option (List A)
  | .lit xs => some xs
  | .ref n => match st[n]? with
    | some (.lst xs) => some xs
    | _ => none
  | _ => none
theorem getL_sq {ρ : List Addr} {H : Hp} {st : Sto} {v : V} {a : A} {xs : List A} (rel : Rel K w ρ H st) (h : Rv K H ρ v a) (e : getL st a = some xs) : ∃ p vs, v = .ref p ∧ SqL K H p vs ∧ Rvs K H ρ vs xs := by
  cases h with
  | lit h hs =>
    cases e
    exact ⟨_, _, rfl, lit_sq h, hs⟩
  | ref h =>
    unfold getL at e
    simp only at e
    split at e
    · rename_i ys e1
      cases e
      obtain ⟨vs, h1, h2⟩ := rel.get h e1
      exact ⟨_, _, rfl, SqL.of h1, h2⟩
    · cases e
  | _ => cases e
def getM (st : Sto) : A → Option (Nat × List A)
  | .ref n => match st[n]? with
    | some (.lst xs) => some (n, xs)
    | _ => none
  | _ => none
theorem getM_is {ρ : List Addr} {H : Hp} {st : Sto} {v : V} {a : A} {n : Nat} {xs : List A} (rel : Rel K w ρ H st) (h : Rv K H ρ v a) (e : getM st a = some (n, xs)) : ∃ p vs, v = .ref p ∧ ρ[n]? = some p ∧ H p = some (.lst vs) ∧ Rvs K H ρ vs xs := by
  cases h with
  | ref h =>
    unfold getM at e
    simp only at e
    split at e
    · rename_i ys e1
      cases e
      obtain ⟨vs, h1, h2⟩ := rel.get h e1
      exact ⟨_, _, rfl, h, h1, h2⟩
    · cases e
  | _ => cases e
def getT : A → Option (List A)
  | .tup xs => some xs
  | _ => none
theorem getT_sq {ρ : List Addr} {H : Hp} {v : V} {a : A} {xs : List A} (h : Rv K H ρ v a) (e : getT a = some xs) : ∃ p vs, v = .ref p ∧ SqT K H p vs ∧ Rvs K H ρ vs xs := by
  cases h with
  | tup h hs =>
    cases e
    exact ⟨_, _, rfl, h, hs⟩
  | _ => cases e
/-! ### + of lists and tuples, * of a list -/
def oCat : A → A → Sto → Res A := fun a b st => match getM st a, getM st b with
  | some (_, xs), some (_, ys) => if xs.length + ys.length ≤ sizeLine then newO (.lst (xs ++ ys)) st else .no
  | _, _ => .no
theorem r2_cat : R2ok K w rCat oCat := fun ρ H st x y a b Q X rel ra rb p => by
  unfold oCat at p
  split at p
  · rename_i n xs m ys e1 e2
    obtain ⟨q, vs, rfl, _, h1, h2⟩ := getM_is rel ra e1
    obtain ⟨q', us, rfl, _, h3, h4⟩ := getM_is rel rb e2
    split at p
    · rename_i hl
      exact ⟨_, _, _, _, rfl, rfl, h1, h3, by rw [h2.length, h4.length]; exact hl, fun z nz => post_newL rel (h2.append h4) p z nz⟩
    · exact p.elim
  · exact p.elim
def oCatT : A → A → Sto → Res A := fun a b st => match a, b with
  | .tup xs, .tup ys => if xs.length + ys.length ≤ sizeLine then .ok (.tup (xs ++ ys)) st else .no
  | _, _ => .no
theorem r2_catT : R2ok K w (rCatA K) oCatT := fun ρ H st x y a b Q X rel ra rb p => by
  unfold oCatT at p
  split at p
  · rename_i xs ys
    obtain ⟨q, vs, rfl, h1, h2⟩ := getT_sq ra rfl
    obtain ⟨q', us, rfl, h3, h4⟩ := getT_sq rb rfl
    split at p
    · rename_i hl
      refine ⟨_, _, _, _, rfl, rfl, h1, h3, by rw [h2.length, h4.length]; exact hl, fun z => ?_, fun _ z => ?_, fun _ _ z nz => post_newT rel (h2.append h4) p z nz⟩
      · subst z
        cases h2
        exact p.give rel rb
      · subst z
        cases h4
        rw [List.append_nil] at p
        exact p.give rel ra
    · exact p.elim
  · exact p.elim
def oRep : A → A → Sto → Res A := fun a b st => match getM st a, b with
  | some (_, xs), .int k => if -(2 ^ 63) ≤ k ∧ k < 2 ^ 63 ∧ xs.length * k.toNat ≤ sizeLine then newO (.lst (List.replicate k.toNat xs).flatten) st else .no
  | _, _ => .no
theorem rvs_rep {ρ : List Addr} {H : Hp} {vs : List V} {xs : List A} (h : Rvs K H ρ vs xs) : ∀ n : Nat, Rvs K H ρ (List.replicate n vs).flatten (List.replicate n xs).flatten
  | 0 => .nil
  | n + 1 => by
    rw [List.replicate_succ, List.replicate_succ, List.flatten_cons, List.flatten_cons]
    exact h.append (rvs_rep h n)
theorem r2_rep : R2ok K w rRep oRep := fun ρ H st x y a b Q X rel ra rb p => by
  unfold oRep at p
  split at p
  · rename_i n xs k e1
    obtain ⟨q, vs, rfl, _, h1, h2⟩ := getM_is rel ra e1
    cases rb
    split at p
    · rename_i hl
      exact ⟨_, _, _, rfl, rfl, h1, hl.1, hl.2.1, by rw [h2.length]; exact hl.2.2, fun z nz => post_newL rel (rvs_rep h2 _) p z nz⟩
    · exact p.elim
  · exact p.elim
/-! ### an item -/
theorem rvs_atI {ρ : List Addr} {H : Hp} {vs : List V} {xs : List A} {i : Int} {a : A} (h : Rvs K H ρ vs xs) (e : atI xs i = some a) : ∃ v, atI vs i = some v ∧ Rv K H ρ v a := by
  unfold atI at e ⊢
  rw [h.length]
  cases hj : ixN xs.length i with
  | none => rw [hj] at e; cases e
  | some j =>
    rw [hj] at e
    exact h.get e
def oIx : A → A → Sto → Res A := fun a b st => match b with
  | .int i => match getL st a with
    | some xs => lift (atI xs i) st
    | none => .no
  | _ => .no
def oIxT : A → A → Sto → Res A := fun a b st => match a, b with
  | .tup xs, .int i => lift (atI xs i) st
  | _, _ => .no
def oIxS : A → A → Sto → Res A := fun a b st => match a, b with
  | .str z, .int i => if z.length ≤ sizeLine then lift ((atI z.cps.toList i).map fun c => A.str ⟨#[c]⟩) st else .no
  | _, _ => .no
theorem r2_ix : R2ok K w (rIxL K) oIx := fun ρ H st x y a b Q X rel ra rb p => by
  unfold oIx at p
  split at p
  · rename_i i
    cases rb
    split at p
    · rename_i xs e1
      obtain ⟨q, vs, rfl, h1, h2⟩ := getL_sq rel ra e1
      cases e : atI xs i with
      | none => rw [e] at p; exact p.elim
      | some c =>
        rw [e] at p
        obtain ⟨v, e2, e3⟩ := rvs_atI h2 e
        exact ⟨_, _, _, _, rfl, rfl, h1, e2, p.give rel e3⟩
    · exact p.elim
  · exact p.elim
theorem r2_ixT : R2ok K w (rIxT K) oIxT := fun ρ H st x y a b Q X rel ra rb p => by
  unfold oIxT at p
  split at p
  · rename_i xs i
    cases rb
    obtain ⟨q, vs, rfl, h1, h2⟩ := getT_sq ra rfl
    cases e : atI xs i with
    | none => rw [e] at p; exact p.elim
    | some c =>
      rw [e] at p
      obtain ⟨v, e2, e3⟩ := rvs_atI h2 e
      exact ⟨_, _, _, _, rfl, rfl, h1, e2, p.give rel e3⟩
  · exact p.elim
theorem r2_ixS : R2ok K w rIxS oIxS := fun ρ H st x y a b Q X rel ra rb p => by
  unfold oIxS at p
  split at p
  · rename_i z i
    cases ra
    cases rb
    split at p
    · rename_i hl
      cases e : atI z.cps.toList i with
      | none => rw [e] at p; exact p.elim
      | some c =>
        rw [e] at p
        exact ⟨_, _, _, rfl, rfl, hl, e, p.give rel (.str _)⟩
    · exact p.elim
  · exact p.elim
theorem IxR.or {X : Cx} {r r' : R2} (h : IxR X r) (h' : IxR X r') : IxR X (rOr r r') := fun value slice pins s σ H x y v u Q I rx ry z hs => z.elim (fun z => h value slice pins s σ H x y v u Q I rx ry z hs) (fun z => h' value slice pins s σ H x y v u Q I rx ry z hs)
end

/-! ### mirrors: data, equality -/
def allD (f : A → Option PyData) : List A → Option (List PyData)
  | [] => some []
  | x :: xs => match f x, allD f xs with
    | some d, some ds => some (d :: ds)
    | _, _ => none
def dat (st : Sto) : Nat → A → Option PyData
  | _, .non => some .none
  | _, .bl b => some (.bool b)
  | _, .int i => some (.int i)
  | _, .str x => some (.str x)
  | n + 1, .tup xs => (allD (dat st n) xs).map .tuple
  | n + 1, .lit xs => (allD (dat st n) xs).map .list
  | n + 1, .ref m => match st[m]? with
    | some (.lst xs) => (allD (dat st n) xs).map .list
    | _ => none
  | _, _ => none
section
variable {w : World} {W : WishX}
theorem allD_dp {ρ : List Addr} {H : Hp} {f : A → Option PyData} (hf : ∀ v a d, Rv K H ρ v a → f a = some d → Dp K H v d) : ∀ {vs : List V} {xs : List A} {ds : List PyData}, Rvs K H ρ vs xs → allD f xs = some ds → DpAll K H vs ds
  | _, _, _, .nil, e => by cases e; exact .nil
  | _, _, _, .cons (xs := xs) h hs, e => by
    unfold allD at e
    split at e
    · rename_i d ds e1 e2
      cases e
      exact .cons (hf _ _ _ h e1) (allD_dp hf hs e2)
    · cases e
theorem dat_dp {ρ : List Addr} {H : Hp} {st : Sto} (rel : Rel K w ρ H st) : ∀ (n : Nat) (v : V) (a : A) (d : PyData), Rv K H ρ v a → dat st n a = some d → Dp K H v d
  | n, _, .non, _, h, e => by cases h; cases n <;> (cases e; exact .non)
  | n, _, .bl b, _, h, e => by cases h; cases n <;> (cases e; exact .bl b)
  | n, _, .int b, _, h, e => by cases h; cases n <;> (cases e; exact .int b)
  | n, _, .str b, _, h, e => by cases h; cases n <;> (cases e; exact .str b)
  | 0, _, .tup _, _, _, e => by cases e
  | 0, _, .lit _, _, _, e => by cases e
  | 0, _, .ref _, _, _, e => by cases e
  | n, _, .adr _, _, _, e => by cases n <;> cases e
  | n, _, .ty _, _, _, e => by cases n <;> cases e
  | n, _, .exc _ _ _, _, _, e => by cases n <;> cases e
  | n + 1, _, .tup xs, _, h, e => by
    cases h with
    | tup h hs =>
      obtain ⟨ds, e1, rfl⟩ := Option.map_eq_some_iff.mp (show (allD (dat st n) xs).map PyData.tuple = some _ from e)
      exact .tup h (allD_dp (dat_dp rel n) hs e1)
  | n + 1, _, .lit xs, _, h, e => by
    cases h with
    | lit h hs =>
      obtain ⟨ds, e1, rfl⟩ := Option.map_eq_some_iff.mp (show (allD (dat st n) xs).map PyData.list = some _ from e)
      exact .lst (lit_sq h) (allD_dp (dat_dp rel n) hs e1)
  | n + 1, _, .ref m, _, h, e => by
    cases h with
    | ref h =>
      unfold dat at e
      split at e
      · rename_i xs e0
        obtain ⟨ds, e1, rfl⟩ := Option.map_eq_some_iff.mp e
        obtain ⟨vs, h1, h2⟩ := rel.get h e0
        exact .lst (SqL.of h1) (allD_dp (dat_dp rel n) h2 e1)
      · cases e
/-- == of two scalars -/
def eqS : A → A → Option Bool
  | .non, .non => some true
  | .non, .int _ => some false
  | .int _, .non => some false
  | .non, .bl _ => some false
  | .bl _, .non => some false
  | .non, .str _ => some false
  | .str _, .non => some false
  | .int i, .int j => some (decide (i = j))
  | .bl i, .bl j => some (decide (i = j))
  | .str i, .str j => some (decide (i = j))
  | .int _, .str _ => some false
  | .str _, .int _ => some false
  | .bl _, .str _ => some false
  | .str _, .bl _ => some false
  | _, _ => none
theorem eqS_scal {ρ : List Addr} {H : Hp} {x y : V} {a b : A} {c : Bool} (ra : Rv K H ρ x a) (rb : Rv K H ρ y b) (e : eqS a b = some c) : scal x y = true ∧ decide (x = y) = c := by
  cases ra <;> cases rb <;> first
    | (cases e; exact ⟨rfl, rfl⟩)
    | (cases e; exact ⟨rfl, by simp⟩)
    | (cases e)
def deep : Nat := 30
def eqA (st : Sto) (a b : A) : Option Bool := match eqS a b with
  | some c => some c
  | none => match dat st deep a, dat st deep b with
    | some d, some e => if SeqAt.shaped d = true ∧ SeqAt.shaped e = true then some (PyData.eqv d e) else none
    | _, _ => none
def oEq : A → A → Sto → Res A := fun a b st => lift ((eqA st a b).map A.bl) st
def oNe : A → A → Sto → Res A := fun a b st => lift ((eqA st a b).map fun c => A.bl (!c)) st
theorem r2_eq : R2ok K w (rOr rEq (rEqD K)) oEq := fun ρ H st x y a b Q X rel ra rb p => by
  unfold oEq eqA at p
  cases e : eqS a b with
  | some c =>
    rw [e] at p
    obtain ⟨h1, h2⟩ := eqS_scal ra rb e
    exact .inl ⟨h1, p.give rel (by rw [h2]; exact .bl c)⟩
  | none =>
    rw [e] at p
    simp only at p
    split at p
    · rename_i d d' e1 e2
      split at p
      · rename_i hs
        exact .inr ⟨d, d', dat_dp rel _ _ _ _ ra e1, dat_dp rel _ _ _ _ rb e2, hs.1, hs.2, p.give rel (.bl _)⟩
      · exact p.elim
    · exact p.elim
theorem r2_ne : R2ok K w (rOr rNe (rNeD K)) oNe := fun ρ H st x y a b Q X rel ra rb p => by
  unfold oNe eqA at p
  cases e : eqS a b with
  | some c =>
    rw [e] at p
    obtain ⟨h1, h2⟩ := eqS_scal ra rb e
    exact .inl ⟨h1, p.give rel (by rw [h2]; exact .bl _)⟩
  | none =>
    rw [e] at p
    simp only at p
    split at p
    · rename_i d d' e1 e2
      split at p
      · rename_i hs
        exact .inr ⟨d, d', dat_dp rel _ _ _ _ ra e1, dat_dp rel _ _ _ _ rb e2, hs.1, hs.2, p.give rel (.bl _)⟩
      · exact p.elim
    · exact p.elim
/-- is None -/
def isNon : A → Bool
  | .non => true
  | _ => false
theorem isNon_rv {ρ : List Addr} {H : Hp} {x : V} {a : A} (h : Rv K H ρ x a) : decide (x = .non) = isNon a := by
  cases h <;> simp [isNon]
def oIs : A → A → Sto → Res A := fun a b st => match b with
  | .non => .ok (.bl (isNon a)) st
  | _ => .no
def oIsNot : A → A → Sto → Res A := fun a b st => match b with
  | .non => .ok (.bl (!isNon a)) st
  | _ => .no
theorem r2_is : R2ok K w (fun x y H Q => y = .non ∧ Q (.bl (decide (x = .non))) H) oIs := fun ρ H st x y a b Q X rel ra rb p => by
  unfold oIs at p
  split at p
  · cases rb
    exact ⟨rfl, p.give rel (by rw [isNon_rv ra]; exact .bl _)⟩
  · exact p.elim
theorem r2_isnot : R2ok K w (fun x y H Q => y = .non ∧ Q (.bl (!decide (x = .non))) H) oIsNot := fun ρ H st x y a b Q X rel ra rb p => by
  unfold oIsNot at p
  split at p
  · cases rb
    exact ⟨rfl, p.give rel (by rw [isNon_rv ra]; exact .bl _)⟩
  · exact p.elim
/-- in, of a list or tuple -/
def getS (st : Sto) (a : A) : Option (List A) := match getT a with
  | some xs => some xs
  | none => getL st a
theorem getS_sq {ρ : List Addr} {H : Hp} {st : Sto} {v : V} {a : A} {xs : List A} (rel : Rel K w ρ H st) (h : Rv K H ρ v a) (e : getS st a = some xs) : ∃ p vs, v = .ref p ∧ (SqL K H p vs ∨ SqT K H p vs) ∧ Rvs K H ρ vs xs := by
  unfold getS at e
  split at e
  · rename_i ys e1
    cases e
    obtain ⟨p, vs, e2, h1, h2⟩ := getT_sq h e1
    exact ⟨p, vs, e2, .inr h1, h2⟩
  · obtain ⟨p, vs, e2, h1, h2⟩ := getL_sq rel h e
    exact ⟨p, vs, e2, .inl h1, h2⟩
def flatA : A → Bool
  | .non => true
  | .bl _ => true
  | .int _ => true
  | .str _ => true
  | _ => false
def eqF : A → A → Bool
  | .non, .non => true
  | .bl a, .bl b => a == b
  | .bl a, .int b => (if a then 1 else 0) == b
  | .int a, .bl b => a == (if b then 1 else 0)
  | .int a, .int b => a == b
  | .str a, .str b => a == b
  | _, _ => false
theorem flat_rv {ρ : List Addr} {H : Hp} {x : V} {a : A} (h : Rv K H ρ x a) (f : flatA a = true) : flatV x = true := by
  cases h <;> first | rfl | (cases f)
theorem eqF_rv {ρ : List Addr} {H : Hp} {x y : V} {a b : A} (ha : Rv K H ρ x a) (hb : Rv K H ρ y b) (fa : flatA a = true) (fb : flatA b = true) : eqV x y = eqF a b := by
  cases ha <;> cases hb <;> first | rfl | (cases fa) | (cases fb)
theorem flats_rv {ρ : List Addr} {H : Hp} : ∀ {vs : List V} {xs : List A}, Rvs K H ρ vs xs → xs.all flatA = true → vs.all flatV = true
  | _, _, .nil, _ => rfl
  | _, _, .cons h hs, f => by
    rw [List.all_cons, Bool.and_eq_true] at f
    rw [List.all_cons, flat_rv h f.1, flats_rv hs f.2]
    rfl
theorem inF_rv {ρ : List Addr} {H : Hp} {x : V} {a : A} (ha : Rv K H ρ x a) (fa : flatA a = true) : ∀ {vs : List V} {xs : List A}, Rvs K H ρ vs xs → xs.all flatA = true → inV x vs = xs.any fun y => eqF y a
  | _, _, .nil, _ => rfl
  | _, _, .cons h hs, f => by
    rw [List.all_cons, Bool.and_eq_true] at f
    unfold inV
    rw [List.any_cons, List.any_cons, eqF_rv h ha f.1 fa]
    have := inF_rv ha fa hs f.2
    unfold inV at this
    rw [this]
def inA (st : Sto) (a b : A) : Option Bool := match getS st b with
  | some xs => if flatA a = true ∧ xs.all flatA = true then some (xs.any fun y => eqF y a) else none
  | none => none
def oInF : A → A → Sto → Res A := fun a b st => lift ((inA st a b).map A.bl) st
def oNotInF : A → A → Sto → Res A := fun a b st => lift ((inA st a b).map fun c => A.bl (!c)) st
theorem r2_inF : R2ok K w (rIn K false) oInF := fun ρ H st x y a b Q X rel ra rb p => by
  unfold oInF inA at p
  split at p
  · rename_i xs e
    obtain ⟨q, vs, rfl, h1, h2⟩ := getS_sq rel rb e
    split at p
    · rename_i hf
      exact ⟨q, vs, rfl, h1, flat_rv ra hf.1, flats_rv h2 hf.2, p.give rel (by rw [inF_rv ra hf.1 h2 hf.2]; exact .bl _)⟩
    · exact p.elim
  · exact p.elim
theorem r2_notInF : R2ok K w (rIn K true) oNotInF := fun ρ H st x y a b Q X rel ra rb p => by
  unfold oNotInF inA at p
  split at p
  · rename_i xs e
    obtain ⟨q, vs, rfl, h1, h2⟩ := getS_sq rel rb e
    split at p
    · rename_i hf
      exact ⟨q, vs, rfl, h1, flat_rv ra hf.1, flats_rv h2 hf.2, p.give rel (by rw [inF_rv ra hf.1 h2 hf.2]; exact .bl _)⟩
    · exact p.elim
  · exact p.elim
/-- in, of a list of data -/
def inD (st : Sto) (a b : A) : Option Bool := match dat st deep a, dat st deep b with
  | some d, some (.list ds) => if SeqAt.shaped d = true ∧ SeqAt.shaped (.list ds) = true then some (ds.any fun z => PyData.eqv z d) else none
  | _, _ => none
def oInD : A → A → Sto → Res A := fun a b st => lift ((inD st a b).map A.bl) st
def oNotInD : A → A → Sto → Res A := fun a b st => lift ((inD st a b).map fun c => A.bl (!c)) st
theorem r2_inD : R2ok K w (rInD K) oInD := fun ρ H st x y a b Q X rel ra rb p => by
  unfold oInD inD at p
  split at p
  · rename_i d ds e1 e2
    split at p
    · rename_i hs
      exact ⟨_, _, dat_dp rel _ _ _ _ ra e1, dat_dp rel _ _ _ _ rb e2, hs.1, hs.2, p.give rel (.bl _)⟩
    · exact p.elim
  · exact p.elim
theorem r2_notInD : R2ok K w (rNotInD K) oNotInD := fun ρ H st x y a b Q X rel ra rb p => by
  unfold oNotInD inD at p
  split at p
  · rename_i d ds e1 e2
    split at p
    · rename_i hs
      exact ⟨_, _, dat_dp rel _ _ _ _ ra e1, dat_dp rel _ _ _ _ rb e2, hs.1, hs.2, p.give rel (.bl _)⟩
    · exact p.elim
  · exact p.elim
/-- a sign in a text -/
def oInS (neg : Bool) : A → A → Sto → Res A := fun a b st => match a, b with
  | .str x, .str z => match x.cps.toList with
    | [c] => .ok (.bl (if neg then !decide (c ∈ z.cps.toList) else decide (c ∈ z.cps.toList))) st
    | _ => .no
  | _, _ => .no
theorem one_sign {x : Str} {c : Nat} (h : x.cps.toList = [c]) : x = ⟨#[c]⟩ := by
  obtain ⟨a⟩ := x
  have : a = #[c] := by
    apply Array.ext'
    simpa using h
  rw [this]
theorem r2_inS : R2ok K w (fun x y H Q => ∃ (c : Nat) (z : Str), x = .str ⟨#[c]⟩ ∧ y = .str z ∧ Q (.bl (decide (c ∈ z.cps.toList))) H) (oInS false) := fun ρ H st x y a b Q X rel ra rb p => by
  unfold oInS at p
  split at p
  · split at p
    · rename_i c hc
      cases ra
      cases rb
      exact ⟨c, _, by rw [one_sign hc], rfl, p.give rel (.bl _)⟩
    · exact p.elim
  · exact p.elim
theorem r2_notInS : R2ok K w (fun x y H Q => ∃ (c : Nat) (z : Str), x = .str ⟨#[c]⟩ ∧ y = .str z ∧ Q (.bl (!decide (c ∈ z.cps.toList))) H) (oInS true) := fun ρ H st x y a b Q X rel ra rb p => by
  unfold oInS at p
  split at p
  · split at p
    · rename_i c hc
      cases ra
      cases rb
      exact ⟨c, _, by rw [one_sign hc], rfl, p.give rel (.bl _)⟩
    · exact p.elim
  · exact p.elim
/-! ### tests, and, or, not, a if t else b -/
def mTest (f : ME) : MT := fun env st => (f env st).bind fun a s => match a with
  | .bl b => .ok b s
  | _ => .no
def mNotT (f : MT) : MT := fun env st => (f env st).bind fun b s => .ok (!b) s
def mAndT (f g : MT) : MT := fun env st => (f env st).bind fun b s => if b = true then g env s else .ok false s
def mOrT (f g : MT) : MT := fun env st => (f env st).bind fun b s => if b = true then .ok true s else g env s
def mIfE (c : MT) (f g : ME) : ME := fun env st => (c env st).bind fun b s => if b = true then f env s else g env s
def mNot (f : ME) : ME := fun env st => (f env st).bind fun a s => match a with
  | .bl b => .ok (.bl (!b)) s
  | _ => .no
def mAnd (f g : ME) : ME := fun env st => (f env st).bind fun a s => match a with
  | .bl b => if b = true then g env s else .ok (.bl false) s
  | _ => .no
def mOr (f g : ME) : ME := fun env st => (f env st).bind fun a s => match a with
  | .bl b => if b = true then .ok (.bl true) s else g env s
  | _ => .no
theorem Post.giveB {ρ : List Addr} {H : Hp} {st : Sto} {b : Bool} {Q : Bool → Hp → Prop} {X : Value → Option Addr → Hp → Prop} (p : Post K w ρ H (.ok b st) (fun b _ _ H' => Q b H') X) (rel : Rel K w ρ H st) : Q b H := p ρ H (Ext.refl ρ H) rel
theorem rt_test {t : TE} {f : ME} (hf : RE K w W t f) : RT K w W (tTest t) (mTest f) := fun ρ H st σ env Q rel re p =>
  hf.use rel re p fun a s1 ρ1 H1 x e1 r1 v1 p1 => by
    split at p1
    · cases v1
      exact ⟨_, rfl, p1.giveB r1⟩
    · exact p1.elim
theorem rt_val {t : TE} {f : ME} (hf : RE K w W t f) : RT K w W (tB t) (mTest f) := rt_test hf
theorem rt_not {t : TT} {f : MT} (hf : RT K w W t f) : RT K w W (tNot t) (mNotT f) := fun ρ H st σ env Q rel re p =>
  hf.use rel re p fun a s1 ρ1 H1 e1 r1 p1 => p1.giveB r1
theorem rt_and {t u : TT} {f g : MT} (hf : RT K w W t f) (hg : RT K w W u g) : RT K w W (tAnd t u) (mAndT f g) := fun ρ H st σ env Q rel re p =>
  hf.use rel re p fun a s1 ρ1 H1 e1 r1 p1 => by
    cases a with
    | true => exact iteT (hg ρ1 H1 s1 σ env Q r1 (re.ext e1) p1)
    | false => exact iteF (p1.giveB r1)
theorem rt_or {t u : TT} {f g : MT} (hf : RT K w W t f) (hg : RT K w W u g) : RT K w W (tOr t u) (mOrT f g) := fun ρ H st σ env Q rel re p =>
  hf.use rel re p fun a s1 ρ1 H1 e1 r1 p1 => by
    cases a with
    | true => exact iteT (p1.giveB r1)
    | false => exact iteF (hg ρ1 H1 s1 σ env Q r1 (re.ext e1) p1)
theorem re_if {c : TT} {t u : TE} {m : MT} {f g : ME} (hc : RT K w W c m) (hf : RE K w W t f) (hg : RE K w W u g) : RE K w W (tIf c t u) (mIfE m f g) := fun ρ H st σ env Q rel re p =>
  hc.use rel re p fun a s1 ρ1 H1 e1 r1 p1 => by
    cases a with
    | true => exact iteT (hf ρ1 H1 s1 σ env Q r1 (re.ext e1) p1)
    | false => exact iteF (hg ρ1 H1 s1 σ env Q r1 (re.ext e1) p1)
theorem re_not {t : TE} {f : ME} (hf : RE K w W t f) : RE K w W (tNotV t) (mNot f) := fun ρ H st σ env Q rel re p =>
  hf.use rel re p fun a s1 ρ1 H1 x e1 r1 v1 p1 => by
    split at p1
    · cases v1
      exact ⟨_, rfl, p1.give r1 (.bl _)⟩
    · exact p1.elim
theorem re_and {t u : TE} {f g : ME} (hf : RE K w W t f) (hg : RE K w W u g) : RE K w W (tAndV t u) (mAnd f g) := fun ρ H st σ env Q rel re p =>
  hf.use rel re p fun a s1 ρ1 H1 x e1 r1 v1 p1 => by
    split at p1
    · rename_i b
      cases v1
      cases b with
      | true => exact ⟨_, rfl, iteT (hg ρ1 H1 s1 σ env Q r1 (re.ext e1) p1)⟩
      | false => exact ⟨_, rfl, iteF (p1.give r1 (.bl _))⟩
    · exact p1.elim
theorem re_or {t u : TE} {f g : ME} (hf : RE K w W t f) (hg : RE K w W u g) : RE K w W (tOrV t u) (mOr f g) := fun ρ H st σ env Q rel re p =>
  hf.use rel re p fun a s1 ρ1 H1 x e1 r1 v1 p1 => by
    split at p1
    · rename_i b
      cases v1
      cases b with
      | true => exact ⟨_, rfl, iteT (p1.give r1 (.bl _))⟩
      | false => exact ⟨_, rfl, iteF (hg ρ1 H1 s1 σ env Q r1 (re.ext e1) p1)⟩
    · exact p1.elim
/-- a < b < c -/
def mChain (o o' : A → A → Sto → Res A) (f g h : ME) : ME := fun env st => (f env st).bind fun x s1 => (g env s1).bind fun y s2 => (o x y s2).bind fun z s3 => match z with
  | .bl true => (h env s3).bind fun u s4 => o' y u s4
  | .bl false => .ok (.bl false) s3
  | _ => .no
/-! ### arguments, displays -/
def mNil : MA := fun _ st => .ok [] st
def mCons (f : ME) (g : MA) : MA := fun env st => (f env st).bind fun x s1 => (g env s1).bind fun xs s2 => .ok (x :: xs) s2
theorem ra_nil : RA K w W tNil mNil := fun ρ H st σ env Q rel re p => p ρ H (Ext.refl ρ H) rel [] .nil
theorem ra_cons {t : TE} {u : TA} {f : ME} {g : MA} (hf : RE K w W t f) (hg : RA K w W u g) : RA K w W (tCons t u) (mCons f g) := fun ρ H st σ env Q rel re p =>
  hf.use rel re p fun a s1 ρ1 H1 x e1 r1 v1 p1 => hg.use r1 (re.ext e1) p1 fun as s2 ρ2 H2 xs e2 r2 v2 p2 => p2 ρ2 H2 (Ext.refl _ _) r2 _ (.cons (rv_ext e2 v1) v2)
def mTup (f : MA) : ME := fun env st => (f env st).bind fun xs s => if xs.length ≤ sizeLine then .ok (.tup xs) s else .no
def mLst (f : MA) : ME := fun env st => (f env st).bind fun xs s => if xs.length ≤ sizeLine then newO (.lst xs) s else .no
theorem re_tup {t : TA} {f : MA} (hf : RA K w W t f) : RE K w W (tTup t) (mTup f) := fun ρ H st σ env Q rel re p =>
  hf.use rel re p fun a s1 ρ1 H1 x e1 r1 v1 p1 => by
    split at p1
    · rename_i hl
      exact ⟨by rw [v1.length]; exact hl, fun q nq => post_newT r1 v1 p1 q nq⟩
    · exact p1.elim
theorem re_lst {t : TA} {f : MA} (hf : RA K w W t f) : RE K w W (tLst t) (mLst f) := fun ρ H st σ env Q rel re p =>
  hf.use rel re p fun a s1 ρ1 H1 x e1 r1 v1 p1 => by
    split at p1
    · rename_i hl
      exact ⟨by rw [v1.length]; exact hl, fun q nq => post_newL r1 v1 p1 q nq⟩
    · exact p1.elim
end

/-! ### mirrors: chains, slices, built-ins -/
section
variable {w : World} {W : WishX}
theorem R2ok.use {r : R2} {op : A → A → Sto → Res A} {ρ : List Addr} {H : Hp} {st : Sto} {x y : V} {a b : A} {β : Type} {R : β → Sto → List Addr → Hp → Prop} {X : Value → Option Addr → Hp → Prop} {k : A → Sto → Res β} {Q : VK} (h : R2ok K w r op) (rel : Rel K w ρ H st) (ra : Rv K H ρ x a) (rb : Rv K H ρ y b) (p : Post K w ρ H ((op a b st).bind k) R X)
    (go : ∀ c s1 ρ1 H1 v, Ext ρ ρ1 H H1 → Rel K w ρ1 H1 s1 → Rv K H1 ρ1 v c → Post K w ρ1 H1 (k c s1) R X → Q v H1) : r x y H Q := by
  refine h ρ H st x y a b Q X rel ra rb ?_
  cases e : op a b st with
  | ok c s1 =>
    rw [e] at p
    exact fun ρ1 H1 e1 r1 v hv => go c s1 ρ1 H1 v e1 r1 hv (Post.ext p e1)
  | ex c d s1 => rw [e] at p; exact p
  | no => rw [e] at p; exact p
theorem re_chain {r r' : R2} {o o' : A → A → Sto → Res A} {ta tb tc : TE} {f g h : ME} (ho : R2ok K w r o) (ho' : R2ok K w r' o') (hf : RE K w W ta f) (hg : RE K w W tb g) (hh : RE K w W tc h) : RE K w W (tChain r r' ta tb tc) (mChain o o' f g h) := fun ρ H st σ env Q rel re p =>
  hf.use rel re p fun a s1 ρ1 H1 x e1 r1 v1 p1 => hg.use r1 (re.ext e1) p1 fun b s2 ρ2 H2 y e2 r2 v2 p2 => ho.use r2 (rv_ext e2 v1) v2 p2 fun c s3 ρ3 H3 z e3 r3 v3 p3 => by
    split at p3
    · cases v3
      exact ⟨true, rfl, iteT (hh.use r3 (re.ext (e1.trans (e2.trans e3))) p3 fun d s4 ρ4 H4 u e4 r4 v4 p4 => ho' ρ4 H4 s4 y u b d Q _ r4 (rv_ext (e3.trans e4) v2) v4 p4)⟩
    · cases v3
      exact ⟨false, rfl, iteF (p3.give r3 (.bl _))⟩
    · exact p3.elim
/-! ### slices -/
abbrev MO := AEnv → Sto → Res (Option Int)
def RO (K : PySem.W.Frag) (w : World) (W : WishX) (t : TO) (f : MO) : Prop := ∀ ρ H st σ env Q, Rel K w ρ H st → Renv K H ρ σ env → Post K w ρ H (f env st) (fun o _ _ H' => Q o H') (W · · σ ·) → t σ H Q
def mNoPart : MO := fun _ st => .ok none st
def mPart (f : ME) : MO := fun env st => (f env st).bind fun a s => match a with
  | .int i => .ok (some i) s
  | _ => .no
theorem ro_none : RO K w W tNoPart mNoPart := fun ρ H st σ env Q rel re p => p ρ H (Ext.refl ρ H) rel
theorem ro_some {t : TE} {f : ME} (hf : RE K w W t f) : RO K w W (tPart t) (mPart f) := fun ρ H st σ env Q rel re p =>
  hf.use rel re p fun a s1 ρ1 H1 x e1 r1 v1 p1 => by
    split at p1
    · cases v1
      exact ⟨_, rfl, p1 ρ1 H1 (Ext.refl _ _) r1⟩
    · exact p1.elim
theorem RO.use {ta : TO} {f : MO} {ρ : List Addr} {H : Hp} {st : Sto} {σ : L2.St} {env : AEnv} {β : Type} {R : β → Sto → List Addr → Hp → Prop} {k : Option Int → Sto → Res β} {Q : Option Int → Hp → Prop} (h : RO K w W ta f) (rel : Rel K w ρ H st) (re : Renv K H ρ σ env) (p : Post K w ρ H ((f env st).bind k) R (W · · σ ·))
    (go : ∀ a s1 ρ1 H1, Ext ρ ρ1 H H1 → Rel K w ρ1 H1 s1 → Post K w ρ1 H1 (k a s1) R (W · · σ ·) → Q a H1) : ta σ H Q := by
  refine h ρ H st σ env Q rel re ?_
  cases e : f env st with
  | ok a s1 =>
    rw [e] at p
    exact fun ρ1 H1 e1 r1 => go a s1 ρ1 H1 e1 r1 (Post.ext p e1)
  | ex c d s1 => rw [e] at p; exact p
  | no => rw [e] at p; exact p
abbrev RSl := V → Option Int → Option Int → Hp → VK → Prop
def RSlok (K : PySem.W.Frag) (w : World) (r : RSl) (op : A → Option Int → Option Int → Sto → Res A) : Prop := ∀ ρ H st x a lo hi Q X, Rel K w ρ H st → Rv K H ρ x a → Post K w ρ H (op a lo hi st) (fun a _ ρ' H' => ∀ v, Rv K H' ρ' v a → Q v H') X → r x lo hi H Q
def mSl (op : A → Option Int → Option Int → Sto → Res A) (f : ME) (l h : MO) : ME := fun env st => (f env st).bind fun x s1 => (l env s1).bind fun lo s2 => (h env s2).bind fun hi s3 => op x lo hi s3
theorem re_sl {r : RSl} {op : A → Option Int → Option Int → Sto → Res A} {t : TE} {tl th : TO} {f : ME} {l h : MO} (ho : RSlok K w r op) (hf : RE K w W t f) (hl : RO K w W tl l) (hh : RO K w W th h) : RE K w W (tSl r t tl th) (mSl op f l h) := fun ρ H st σ env Q rel re p =>
  hf.use rel re p fun a s1 ρ1 H1 x e1 r1 v1 p1 => hl.use r1 (re.ext e1) p1 fun lo s2 ρ2 H2 e2 r2 p2 => hh.use r2 (re.ext (e1.trans e2)) p2 fun hi s3 ρ3 H3 e3 r3 p3 => ho ρ3 H3 s3 x a lo hi Q _ r3 (rv_ext (e2.trans e3) v1) p3
def cutA (xs : List A) (lo hi : Option Int) : List A := (xs.drop (HT.sIx xs.length 0 lo)).take (HT.sIx xs.length xs.length hi - HT.sIx xs.length 0 lo)
theorem rvs_cut {ρ : List Addr} {H : Hp} {vs : List V} {xs : List A} (h : Rvs K H ρ vs xs) (lo hi : Option Int) : Rvs K H ρ (cutV vs lo hi) (cutA xs lo hi) := by
  unfold cutV cutA
  rw [h.length]
  exact (h.drop _).take _
theorem cut_whole {xs : List A} {lo hi : Option Int} (h : HT.sIx xs.length 0 lo = 0 ∧ HT.sIx xs.length xs.length hi = xs.length) : cutA xs lo hi = xs := by
  unfold cutA
  rw [h.1, h.2, List.drop_zero, Nat.sub_zero, List.take_length]
/-- a list's, a tuple's, a text's slice -/
def oSl : A → Option Int → Option Int → Sto → Res A := fun a lo hi st => match a with
  | .tup xs => .ok (.tup (cutA xs lo hi)) st
  | .str z => if z.length ≤ sizeLine then .ok (.str (cutS z lo hi)) st else .no
  | a => match getL st a with
    | some xs => newO (.lst (cutA xs lo hi)) st
    | none => .no
def rSlAny (K : PySem.W.Frag) : RSl := fun x lo hi H Q => (rSlL K x lo hi H Q ∨ rSlA K x lo hi H Q) ∨ rSlS x lo hi H Q
theorem sl_any {X : Cx} : SlR X (rSlAny X.K) := SlR.or (SlR.or sl_list sl_tupA) sl_str
theorem rsl_any : RSlok K w (rSlAny K) oSl := fun ρ H st x a lo hi Q X rel ra p => by
  unfold oSl at p
  split at p
  · rename_i xs
    obtain ⟨q, vs, rfl, h1, h2⟩ := getT_sq ra rfl
    refine .inl (.inr ⟨q, vs, rfl, h1, fun hw => ?_, fun _ z nz => post_newT rel (rvs_cut h2 lo hi) p z nz⟩)
    rw [cut_whole (by rw [← h2.length]; exact hw)] at p
    exact p.give rel ra
  · split at p
    · rename_i hl
      cases ra
      exact .inr ⟨_, rfl, hl, p.give rel (.str _)⟩
    · exact p.elim
  · split at p
    · rename_i xs e
      obtain ⟨q, vs, rfl, h1, h2⟩ := getL_sq rel ra e
      exact .inl (.inl ⟨q, vs, rfl, h1, fun z nz => post_newL rel (rvs_cut h2 lo hi) p z nz⟩)
    · exact p.elim
/-! ### built-ins called -/
abbrev RL := List V → Hp → VK → Prop
def RLok (K : PySem.W.Frag) (w : World) (r : RL) (op : List A → Sto → Res A) : Prop := ∀ ρ H st vs as Q X, Rel K w ρ H st → Rvs K H ρ vs as → Post K w ρ H (op as st) (fun a _ ρ' H' => ∀ v, Rv K H' ρ' v a → Q v H') X → r vs H Q
def mCB (op : List A → Sto → Res A) (f : MA) : ME := fun env st => (f env st).bind op
theorem re_cb {r : RL} {op : List A → Sto → Res A} {t : TA} {f : MA} (ho : RLok K w r op) (hf : RA K w W t f) : RE K w W (tCB r t) (mCB op f) := fun ρ H st σ env Q rel re p =>
  hf.use rel re p fun a s1 ρ1 H1 x e1 r1 v1 p1 => ho ρ1 H1 s1 x a Q _ r1 v1 p1
def lOr (r r' : RL) : RL := fun vs H Q => r vs H Q ∨ r' vs H Q
theorem CallR.or {X : Cx} {f : Value} {r r' : RL} (h : CallR X f r) (h' : CallR X f r') : CallR X f (lOr r r') := fun pins s σ H xs us Q I rv z => z.elim (fun z => h pins s σ H xs us Q I rv z) (fun z => h' pins s σ H xs us Q I rv z)
def oLen : List A → Sto → Res A := fun as st => match as with
  | [.str z] => if z.length ≤ sizeLine then .ok (.int z.length) st else .no
  | [.ref n] => match st[n]? with
    | some (.lst xs) => .ok (.int xs.length) st
    | some (.dK kvs) => .ok (.int kvs.length) st
    | _ => .no
  | [a] => match getS st a with
    | some xs => .ok (.int xs.length) st
    | none => .no
  | _ => .no
def rLenAny (K : PySem.W.Frag) : RL := lOr (fun xs H Q => ∃ p ys, xs = [.ref p] ∧ (SqL K H p ys ∨ SqT K H p ys) ∧ Q (.int ys.length) H) (lOr (fun xs H Q => ∃ z, xs = [.str z] ∧ z.length ≤ sizeLine ∧ Q (.int z.length) H) (fun xs H Q => ∃ a kvs, xs = [V.ref a] ∧ H a = some (.dK kvs) ∧ Q (.int kvs.length) H))
theorem call_lenAny {X : Cx} : CallR X (.builtin "len") (rLenAny X.K) := CallR.or call_len_seq (CallR.or call_len_str call_lenD)
theorem rvs1 {ρ : List Addr} {H : Hp} {vs : List V} {a : A} (h : Rvs K H ρ vs [a]) : ∃ v, vs = [v] ∧ Rv K H ρ v a := by
  cases h with
  | cons h hs =>
    cases hs
    exact ⟨_, rfl, h⟩
theorem rvs2 {ρ : List Addr} {H : Hp} {vs : List V} {a b : A} (h : Rvs K H ρ vs [a, b]) : ∃ v u, vs = [v, u] ∧ Rv K H ρ v a ∧ Rv K H ρ u b := by
  cases h with
  | cons h hs =>
    obtain ⟨u, rfl, h2⟩ := rvs1 hs
    exact ⟨_, _, rfl, h, h2⟩
theorem rkv_len {κ : Type} {ρ : List Addr} {H : Hp} : ∀ {kv : List (κ × V)} {kvs : List (κ × A)}, Rkv K H ρ kv kvs → kv.length = kvs.length := fun h => Paired.length h
theorem rl_len : RLok K w (rLenAny K) oLen := fun ρ H st vs as Q X rel rv p => by
  unfold oLen at p
  split at p
  · obtain ⟨v, rfl, h⟩ := rvs1 rv
    cases h
    split at p
    · rename_i hl
      exact .inr (.inl ⟨_, rfl, hl, p.give rel (.int _)⟩)
    · exact p.elim
  · obtain ⟨v, rfl, h⟩ := rvs1 rv
    cases h with
    | ref h =>
      split at p
      · rename_i xs e
        obtain ⟨us, h1, h2⟩ := rel.get h e
        exact .inl ⟨_, us, rfl, .inl (SqL.of h1), p.give rel (by rw [h2.length]; exact .int _)⟩
      · rename_i kvs e
        obtain ⟨kv, h1, h2⟩ := rel.get h e
        exact .inr (.inr ⟨_, kv, rfl, h1, p.give rel (by rw [rkv_len h2]; exact .int _)⟩)
      · exact p.elim
  · split at p
    · rename_i e
      obtain ⟨v, rfl, h⟩ := rvs1 rv
      obtain ⟨q, us, rfl, h1, h2⟩ := getS_sq rel h e
      exact .inl ⟨_, us, rfl, h1, p.give rel (by rw [h2.length]; exact .int _)⟩
    · exact p.elim
  · exact p.elim
def oAbs : List A → Sto → Res A := fun as st => match as with
  | [.int i] => .ok (.int (if i < 0 then -i else i)) st
  | _ => .no
theorem rl_abs : RLok K w (fun xs H Q => ∃ i, xs = [.int i] ∧ Q (.int (if i < 0 then -i else i)) H) oAbs := fun ρ H st vs as Q X rel rv p => by
  unfold oAbs at p
  split at p
  · obtain ⟨v, rfl, h⟩ := rvs1 rv
    cases h
    exact ⟨_, rfl, p.give rel (.int _)⟩
  · exact p.elim
def oMin2 : List A → Sto → Res A := fun as st => match as with
  | [.int i, .int j] => .ok (.int (if j < i then j else i)) st
  | _ => .no
def oMax2 : List A → Sto → Res A := fun as st => match as with
  | [.int i, .int j] => .ok (.int (if j > i then j else i)) st
  | _ => .no
theorem rl_min2 : RLok K w (fun xs H Q => ∃ i j, xs = [.int i, .int j] ∧ Q (.int (if j < i then j else i)) H) oMin2 := fun ρ H st vs as Q X rel rv p => by
  unfold oMin2 at p
  split at p
  · obtain ⟨v, u, rfl, h, h'⟩ := rvs2 rv
    cases h
    cases h'
    exact ⟨_, _, rfl, p.give rel (.int _)⟩
  · exact p.elim
theorem rl_max2 : RLok K w (fun xs H Q => ∃ i j, xs = [.int i, .int j] ∧ Q (.int (if j > i then j else i)) H) oMax2 := fun ρ H st vs as Q X rel rv p => by
  unfold oMax2 at p
  split at p
  · obtain ⟨v, u, rfl, h, h'⟩ := rvs2 rv
    cases h
    cases h'
    exact ⟨_, _, rfl, p.give rel (.int _)⟩
  · exact p.elim
/-- int(x) of a number or truth; of a text -/
def oInt : List A → Sto → Res A := fun as st => match as with
  | [.int i] => .ok (.int i) st
  | [.bl b] => .ok (.int (if b then 1 else 0)) st
  | [.str z] => match PySem.intText? z with
    | some n => if z.length ≤ 640 then .ok (.int n) st else .no
    | none => .no
  | _ => .no
def rIntAny : RL := lOr (fun xs H Q => (∃ i, xs = [.int i] ∧ Q (.int i) H) ∨ ∃ k, xs = [.bl k] ∧ Q (.int (if k then 1 else 0)) H) (fun xs H Q => ∃ a n, xs = [.str a] ∧ PySem.intText? a = some n ∧ a.length ≤ 640 ∧ Q (.int n) H)
theorem call_intAny {X : Cx} : CallR X (.type "int") rIntAny := CallR.or call_int1 call_int_str
theorem rl_int : RLok K w rIntAny oInt := fun ρ H st vs as Q X rel rv p => by
  unfold oInt at p
  split at p
  · obtain ⟨v, rfl, h⟩ := rvs1 rv
    cases h
    exact .inl (.inl ⟨_, rfl, p.give rel (.int _)⟩)
  · obtain ⟨v, rfl, h⟩ := rvs1 rv
    cases h
    exact .inl (.inr ⟨_, rfl, p.give rel (.int _)⟩)
  · obtain ⟨v, rfl, h⟩ := rvs1 rv
    cases h
    split at p
    · rename_i n e
      split at p
      · rename_i hl
        exact .inr ⟨_, n, rfl, e, hl, p.give rel (.int _)⟩
      · exact p.elim
    · exact p.elim
  · exact p.elim
def oStr : List A → Sto → Res A := fun as st => match as with
  | [.int i] => if i.natAbs.log2 < 1920 then .ok (.str (toString i)) st else .no
  | _ => .no
theorem rl_str : RLok K w (fun xs H Q => ∃ i, xs = [.int i] ∧ i.natAbs.log2 < 1920 ∧ Q (.str (toString i)) H) oStr := fun ρ H st vs as Q X rel rv p => by
  unfold oStr at p
  split at p
  · obtain ⟨v, rfl, h⟩ := rvs1 rv
    cases h
    split at p
    · rename_i hl
      exact ⟨_, rfl, hl, p.give rel (.str _)⟩
    · exact p.elim
  · exact p.elim
def oList : List A → Sto → Res A := fun as st => match as with
  | [a] => match getS st a with
    | some xs => newO (.lst xs) st
    | none => .no
  | _ => .no
theorem rl_list : RLok K w (fun xs H Q => ∃ p ys, xs = [.ref p] ∧ (SqL K H p ys ∨ SqT K H p ys) ∧ ∀ l, H l = none → Q (.ref l) (upd H l (.lst ys))) oList := fun ρ H st vs as Q X rel rv p => by
  unfold oList at p
  split at p
  · split at p
    · rename_i xs e
      obtain ⟨v, rfl, h⟩ := rvs1 rv
      obtain ⟨q, us, rfl, h1, h2⟩ := getS_sq rel h e
      exact ⟨_, us, rfl, h1, fun z nz => post_newL rel h2 p z nz⟩
    · exact p.elim
  · exact p.elim
def oTuple : List A → Sto → Res A := fun as st => match as with
  | [a] => match getS st a with
    | some xs => .ok (.tup xs) st
    | none => .no
  | _ => .no
theorem rl_tuple : RLok K w (fun xs H Q => ∃ p ys, xs = [.ref p] ∧ ((SqL K H p ys ∧ ∀ l, H l = none → Q (.ref l) (upd H l (.tup ys))) ∨ (SqT K H p ys ∧ Q (.ref p) H))) oTuple := fun ρ H st vs as Q X rel rv p => by
  unfold oTuple at p
  split at p
  · split at p
    · rename_i xs e
      obtain ⟨v, rfl, h⟩ := rvs1 rv
      obtain ⟨q, us, rfl, h1, h2⟩ := getS_sq rel h e
      rcases h1 with h1 | h1
      · exact ⟨_, us, rfl, .inl ⟨h1, fun z nz => post_newT rel h2 p z nz⟩⟩
      · exact ⟨_, us, rfl, .inr ⟨h1, p.give rel (.tup h1 h2)⟩⟩
    · exact p.elim
  · exact p.elim
/-- isinstance of data -/
def tyA (st : Sto) : A → Option String
  | .non => some "NoneType"
  | .bl _ => some "bool"
  | .int _ => some "int"
  | .str _ => some "str"
  | .tup _ => some "tuple"
  | .lit _ => some "list"
  | .ref n => match st[n]? with
    | some (.lst _) => some "list"
    | _ => none
  | _ => none
theorem tyA_x {ρ : List Addr} {H : Hp} {st : Sto} {v : V} {a : A} {t : String} (rel : Rel K w ρ H st) (h : Rv K H ρ v a) (e : tyA st a = some t) : TyX K H v (.type t) ∧ t ∈ ["NoneType", "bool", "int", "str", "list", "tuple", "dict"] := by
  cases h with
  | non => cases e; exact ⟨.base .non, by decide⟩
  | bl b => cases e; exact ⟨.base (.bl b), by decide⟩
  | int b => cases e; exact ⟨.base (.int b), by decide⟩
  | str b => cases e; exact ⟨.base (.str b), by decide⟩
  | tup h hs =>
    cases e
    rcases h with (h | ⟨o, h⟩) | ⟨o, _, _, h, c, _⟩
    · exact ⟨.base (.tup h), by decide⟩
    · exact ⟨.fTuple h, by decide⟩
    · exact ⟨.kTuple h c, by decide⟩
  | lit h hs =>
    cases e
    rcases lit_sq h with (h | ⟨o, h⟩) | ⟨o, _, _, h, c, _⟩
    · exact ⟨.base (.lst h), by decide⟩
    · exact ⟨.base (.frz h), by decide⟩
    · exact ⟨.kList h c, by decide⟩
  | ref h =>
    simp only [tyA] at e
    split at e
    · rename_i xs e1
      cases e
      obtain ⟨vs, h1, _⟩ := rel.get h e1
      exact ⟨.base (.lst h1), by decide⟩
    · cases e
  | adr a => cases e
  | ty a => cases e
  | exc h => cases e
def oIsi : List A → Sto → Res A := fun as st => match as with
  | [a, .ty T] => match tyA st a with
    | some t => if T ∈ ["int", "bool", "str", "tuple", "list"] then .ok (.bl (isTy t T)) st else .no
    | none => .no
  | _ => .no
theorem rl_isi : RLok K w (rIsi K) oIsi := fun ρ H st vs as Q X rel rv p => by
  unfold oIsi at p
  split at p
  · split at p
    · rename_i T t e
      obtain ⟨v, u, rfl, h, h'⟩ := rvs2 rv
      cases h'
      split at p
      · rename_i hT
        obtain ⟨h1, h2⟩ := tyA_x rel h e
        exact ⟨_, _, _, _, _, rfl, .ty _, h1, kit_ty (kit_all _ h2 _ hT), p.give rel (.bl _)⟩
      · exact p.elim
    · exact p.elim
  · exact p.elim
end

/-! ### mirrors: methods of lists, targets, statements, loops -/
section
variable {w : World} {W : WishX}
theorem set_put {ρ : List Addr} {H : Hp} {st : Sto} {n : Nat} {p : Addr} {us : List V} {ys : List A} (rel : Rel K w ρ H st) (h : ρ[n]? = some p) (r : Rvs K H ρ us ys) : Ext ρ ρ H (upd H p (.lst us)) ∧ Rel K w ρ (upd H p (.lst us)) (st.set n (.lst ys)) :=
  rel.put (o := .lst ys) (u := .lst us) h fun H' e' h' => ⟨us, h', rvs_ext e' r⟩
/-- x.m(..) of a list: f tells what it gives and the list behind it -/
def mMeth (op : List A → List A → Option (A × List A)) (f : ME) (g : MA) : ME := fun env st => (f env st).bind fun x s1 => match getM s1 x with
  | none => .no
  | some _ => (g env s1).bind fun as s2 => match getM s2 x with
    | some (n, xs) => match op xs as with
      | some (a, ys) => .ok a (s2.set n (.lst ys))
      | none => .no
    | none => .no
abbrev RM := V → List V → Hp → VK → Prop
/-- .. by values -/
def RMok (K : PySem.W.Frag) (r : RM) (op : List A → List A → Option (A × List A)) : Prop := ∀ ρ H l xs as vs us a ys Q, H l = some (.lst vs) → Rvs K H ρ vs xs → Rvs K H ρ us as → op xs as = some (a, ys) → (∀ v ws, Rv K H ρ v a → Rvs K H ρ ws ys → Q v (upd H l (.lst ws))) → r (.ref l) us H Q
theorem re_meth {r : RM} {op : List A → List A → Option (A × List A)} {to : TE} {t : TA} {f : ME} {g : MA} (ho : RMok K r op) (hf : RE K w W to f) (hg : RA K w W t g) : RE K w W (tBM K "list" r to t) (mMeth op f g) := fun ρ H st σ env Q rel re p =>
  hf.use rel re p fun a s1 ρ1 H1 x e1 r1 v1 p1 => by
    split at p1
    · exact p1.elim
    · rename_i nx em
      obtain ⟨n, xs⟩ := nx
      obtain ⟨l, vs, rfl, hl, h1, h2⟩ := getM_is r1 v1 em
      refine ⟨.inl ⟨rfl, _, SqL.of h1⟩, hg.use r1 (re.ext e1) p1 fun as s2 ρ2 H2 us e2 r2 v2 p2 => ?_⟩
      have v1' := rv_ext e2 v1
      split at p2
      · rename_i m ys em2
        obtain ⟨l', vs2, e3, hl2, h3, h4⟩ := getM_is r2 v1' em2
        cases e3
        split at p2
        · rename_i c zs eo
          refine ho ρ2 H2 l ys as vs2 us c zs Q h3 h4 v2 eo fun v ws hv hws => ?_
          obtain ⟨e4, r4⟩ := set_put r2 hl2 hws
          exact p2.giveAt e4 r4 (rv_ext e4 hv)
        · exact p2.elim
      · exact p2.elim
def mMeth0 (op : List A → List A → Option (A × List A)) (f : ME) : ME := mMeth op f mNil
theorem re_meth0 {r : RM} {op : List A → List A → Option (A × List A)} {to : TE} {f : ME} (ho : RMok K r op) (hf : RE K w W to f) : RE K w W (tBM0 K "list" r to) (mMeth0 op f) := re_meth (t := tNil) ho hf ra_nil
def oAppend : List A → List A → Option (A × List A) := fun xs as => match as with
  | [a] => if xs.length < sizeLine then some (.non, xs ++ [a]) else none
  | _ => none
theorem rm_append : RMok K rAppend oAppend := fun ρ H l xs as vs us a ys Q h1 h2 h3 e q => by
  unfold oAppend at e
  split at e
  · split at e
    · rename_i hl
      cases e
      obtain ⟨u, rfl, h4⟩ := rvs1 h3
      exact ⟨l, vs, u, rfl, rfl, h1, by rw [h2.length]; exact hl, q _ _ .non (h2.append (.cons h4 .nil))⟩
    · cases e
  · cases e
def oPop : List A → List A → Option (A × List A) := fun xs as => match as with
  | [] => (xs[xs.length - 1]?).map fun a => (a, xs.dropLast)
  | _ => none
theorem rvs_dropLast {ρ : List Addr} {H : Hp} {vs : List V} {xs : List A} (h : Rvs K H ρ vs xs) : Rvs K H ρ vs.dropLast xs.dropLast := by
  rw [List.dropLast_eq_take, List.dropLast_eq_take, h.length]
  exact h.take _
theorem rm_pop : RMok K rPop oPop := fun ρ H l xs as vs us a ys Q h1 h2 h3 e q => by
  unfold oPop at e
  split at e
  · obtain ⟨b, e1, e2⟩ := Option.map_eq_some_iff.mp e
    cases e2
    cases h3
    obtain ⟨v, e3, e4⟩ := h2.get e1
    exact ⟨l, vs, v, rfl, rfl, h1, by rw [h2.length]; exact e3, q _ _ e4 (rvs_dropLast h2)⟩
  · cases e
def oPopAt : List A → List A → Option (A × List A) := fun xs as => match as with
  | [.int i] => if -(2 ^ 63) ≤ i ∧ i < 2 ^ 63 then match seqIndex? i xs.length with
    | some k => (xs[k]?).map fun a => (a, xs.eraseIdx k)
    | none => none else none
  | _ => none
theorem rm_popAt : RMok K rPopAt oPopAt := fun ρ H l xs as vs us a ys Q h1 h2 h3 e q => by
  unfold oPopAt at e
  split at e
  · split at e
    · rename_i hi
      split at e
      · rename_i k ek
        obtain ⟨b, e1, e2⟩ := Option.map_eq_some_iff.mp e
        cases e2
        obtain ⟨u, rfl, h4⟩ := rvs1 h3
        cases h4
        obtain ⟨v, e3, e4⟩ := h2.get e1
        exact ⟨l, vs, _, k, v, rfl, rfl, h1, hi.1, hi.2, by rw [h2.length]; exact ek, e3, q _ _ e4 (h2.erase k)⟩
      · cases e
    · cases e
  · cases e
/-! ### targets that are names -/
abbrev MG := A → AEnv → Option AEnv
abbrev MGs := List A → AEnv → Option AEnv
def RGn (K : PySem.W.Frag) (g : TG) (m : MG) (vs : List Nat) : Prop := ∀ H ρ σ env v a k, Renv K H ρ σ env → Rv K H ρ v a → (match m a env with
  | some env' => ∀ σ', Renv K H ρ σ' env' → L2.wipe σ' vs = L2.wipe σ vs → k σ' H
  | none => False) → g v σ H k
def RGns (K : PySem.W.Frag) (g : TGs) (m : MGs) (vs : List Nat) : Prop := ∀ H ρ σ env us as k, Renv K H ρ σ env → Rvs K H ρ us as → (match m as env with
  | some env' => ∀ σ', Renv K H ρ σ' env' → L2.wipe σ' vs = L2.wipe σ vs → k σ' H
  | none => False) → g us σ H k
def mgName (i : Nat) : MG := fun a env => some (env.set i (some a))
def mgNil : MGs := fun as env => match as with
  | [] => some env
  | _ => none
def mgCons (f : MG) (g : MGs) : MGs := fun as env => match as with
  | a :: as => match f a env with
    | some e => g as e
    | none => none
  | [] => none
def mgTup (g : MGs) : MG := fun a env => match a with
  | .tup xs => g xs env
  | _ => none
theorem wipe_set {σ : L2.St} {i : Nat} {x : Option V} : ∀ {vs : List Nat}, i ∈ vs → L2.wipe (σ.set i x) vs = L2.wipe σ vs
  | v :: vs, h => by
    show (L2.wipe (σ.set i x) vs).set v none = (L2.wipe σ vs).set v none
    by_cases hv : i ∈ vs
    · rw [wipe_set hv]
    · have e : i = v := (List.mem_cons.mp h).resolve_right hv
      subst e
      have : ∀ us : List Nat, i ∉ us → L2.wipe (σ.set i x) us = (L2.wipe σ us).set i x := fun us => by
        induction us with
        | nil => intro _; rfl
        | cons u us ih =>
          intro hn
          rw [List.mem_cons, not_or] at hn
          show (L2.wipe (σ.set i x) us).set u none = ((L2.wipe σ us).set u none).set i x
          rw [ih hn.2, List.set_comm _ _ (fun z => hn.1 z.symm)]
      rw [this vs hv, List.set_set]
theorem rg_name {i : Nat} {vs : List Nat} (hi : i ∈ vs) : RGn K (gName i) (mgName i) vs := fun H ρ σ env v a k re hv h => h _ (re.set i hv) (wipe_set hi)
theorem rgs_nil {vs : List Nat} : RGns K gNil mgNil vs := fun H ρ σ env us as k re hv h => by
  cases hv with
  | nil => exact ⟨rfl, h _ re rfl⟩
  | cons _ _ => exact h.elim
theorem rgs_cons {g : TG} {gs : TGs} {m : MG} {ms : MGs} {vs : List Nat} (hg : RGn K g m vs) (hgs : RGns K gs ms vs) : RGns K (gCons g gs) (mgCons m ms) vs := fun H ρ σ env us as k re hv h => by
  cases hv with
  | nil => exact h.elim
  | cons h1 h2 =>
    rename_i v a us as
    refine ⟨_, _, rfl, hg H ρ σ env v a _ re h1 ?_⟩
    have h' : (match (match m a env with
      | some e => ms as e
      | none => none) with
      | some env' => ∀ σ', Renv K H ρ σ' env' → L2.wipe σ' vs = L2.wipe σ vs → k σ' H
      | none => False) := h
    cases em : m a env with
    | none => rw [em] at h'; exact h'
    | some e1 =>
      rw [em] at h'
      intro σ1 re1 w1
      refine hgs H ρ σ1 e1 us as k re1 h2 ?_
      simp only at h'
      cases em2 : ms as e1 with
      | none => rw [em2] at h'; exact h'
      | some e2 =>
        rw [em2] at h'
        exact fun σ2 re2 w2 => h' σ2 re2 (w2.trans w1)
theorem RGns.len {gs : TGs} {ms : MGs} {vs : List Nat} : True := trivial
theorem rg_tup {gs : TGs} {ms : MGs} {vs : List Nat} {n : Nat} (hl : ∀ as env e, ms as env = some e → as.length = n) (hg : RGns K gs ms vs) : RGn K (gTup K n gs) (mgTup ms) vs := fun H ρ σ env v a k re hv h => by
  unfold mgTup at h
  cases hv with
  | tup h1 h2 =>
    refine ⟨_, _, rfl, h1, ?_, hg H ρ σ env _ _ k re h2 h⟩
    rw [h2.length]
    simp only at h
    rename_i p us xs
    cases em : ms xs env with
    | none => rw [em] at h; exact h.elim
    | some e => exact hl _ _ _ em
  | _ => exact h.elim
theorem mgs_len0 : ∀ as env e, mgNil as env = some e → as.length = 0 := fun as env e h => by
  cases as with
  | nil => rfl
  | cons _ _ => cases h
theorem mgs_lenS {m : MG} {ms : MGs} {n : Nat} (hn : ∀ as env e, ms as env = some e → as.length = n) : ∀ as env e, mgCons m ms as env = some e → as.length = n + 1 := fun as env e h => by
  cases as with
  | nil => cases h
  | cons a as =>
    unfold mgCons at h
    simp only at h
    split at h
    · rw [List.length_cons, hn _ _ _ h]
    · cases h
/-! ### statements -/
abbrev MS := AEnv → Sto → RF
def PostS (K : PySem.W.Frag) (w : World) (ρ : List Addr) (H : Hp) (r : RF) (D : Ends) (W : WishX) : Prop := match r with
  | .fl (.nx e) st => ∀ ρ' H' σ', Ext ρ ρ' H H' → Rel K w ρ' H' st → Renv K H' ρ' σ' e → D.nx σ' H'
  | .fl (.bk e) st => ∀ ρ' H' σ', Ext ρ ρ' H H' → Rel K w ρ' H' st → Renv K H' ρ' σ' e → D.bk σ' H'
  | .fl (.ct e) st => ∀ ρ' H' σ', Ext ρ ρ' H H' → Rel K w ρ' H' st → Renv K H' ρ' σ' e → D.ct σ' H'
  | .fl (.rt a) st => ∀ ρ' H' v, Ext ρ ρ' H H' → Rel K w ρ' H' st → Rv K H' ρ' v a → D.rt v H'
  | .ex c d e st => ∀ ρ' H' σ' dx, Ext ρ ρ' H H' → Rel K w ρ' H' st → Renv K H' ρ' σ' e → RD ρ' d dx → W (.ref c) dx σ' H'
  | .no => False
theorem PostS.ext {ρ ρ1 : List Addr} {H H1 : Hp} {r : RF} {D : Ends} (p : PostS K w ρ H r D W) (e : Ext ρ ρ1 H H1) : PostS K w ρ1 H1 r D W := by
  cases r with
  | fl f st =>
    cases f with
    | nx _ => exact fun ρ' H' σ' e' => p ρ' H' σ' (e.trans e')
    | bk _ => exact fun ρ' H' σ' e' => p ρ' H' σ' (e.trans e')
    | ct _ => exact fun ρ' H' σ' e' => p ρ' H' σ' (e.trans e')
    | rt _ => exact fun ρ' H' σ' e' => p ρ' H' σ' (e.trans e')
  | ex c d en st => exact fun ρ' H' σ' dx e' => p ρ' H' σ' dx (e.trans e')
  | no => exact p
def RS (K : PySem.W.Frag) (w : World) (W : WishX) (t : TS) (f : MS) : Prop := ∀ ρ H st σ env D, Rel K w ρ H st → Renv K H ρ σ env → PostS K w ρ H (f env st) D W → t D σ H
theorem RE.useS {ta : TE} {f : ME} {k : A → Sto → RF} {ρ : List Addr} {H : Hp} {st : Sto} {σ : L2.St} {env : AEnv} {D : Ends} {Q : VK} (h : RE K w W ta f) (rel : Rel K w ρ H st) (re : Renv K H ρ σ env) (p : PostS K w ρ H ((f env st).thenS env k) D W)
    (go : ∀ a s1 ρ1 H1 v, Ext ρ ρ1 H H1 → Rel K w ρ1 H1 s1 → Rv K H1 ρ1 v a → PostS K w ρ1 H1 (k a s1) D W → Q v H1) : ta σ H Q := by
  refine h ρ H st σ env Q rel re ?_
  cases e : f env st with
  | ok a s1 =>
    rw [e] at p
    exact fun ρ1 H1 e1 r1 v hv => go a s1 ρ1 H1 v e1 r1 hv (PostS.ext p e1)
  | ex c d s1 =>
    rw [e] at p
    exact fun ρ1 H1 dx e1 r1 hd => p ρ1 H1 σ dx e1 r1 (re.ext e1) hd
  | no => rw [e] at p; exact p
theorem RT.useS {ta : TT} {f : MT} {k : Bool → Sto → RF} {ρ : List Addr} {H : Hp} {st : Sto} {σ : L2.St} {env : AEnv} {D : Ends} {Q : Bool → Hp → Prop} (h : RT K w W ta f) (rel : Rel K w ρ H st) (re : Renv K H ρ σ env) (p : PostS K w ρ H ((f env st).thenS env k) D W)
    (go : ∀ a s1 ρ1 H1, Ext ρ ρ1 H H1 → Rel K w ρ1 H1 s1 → PostS K w ρ1 H1 (k a s1) D W → Q a H1) : ta σ H Q := by
  refine h ρ H st σ env Q rel re ?_
  cases e : f env st with
  | ok a s1 =>
    rw [e] at p
    exact fun ρ1 H1 e1 r1 => go a s1 ρ1 H1 e1 r1 (PostS.ext p e1)
  | ex c d s1 =>
    rw [e] at p
    exact fun ρ1 H1 dx e1 r1 hd => p ρ1 H1 σ dx e1 r1 (re.ext e1) hd
  | no => rw [e] at p; exact p
def sNext : MS := fun env st => .fl (.nx env) st
def sSeq (f g : MS) : MS := fun env st => (f env st).next g
def sIf (c : MT) (f g : MS) : MS := fun env st => (c env st).thenS env fun b s => if b = true then f env s else g env s
def sRet (f : ME) : MS := fun env st => (f env st).thenS env fun a s => .fl (.rt a) s
def sRetN : MS := fun _ st => .fl (.rt .non) st
def sDrop (f : ME) : MS := fun env st => (f env st).thenS env fun _ s => .fl (.nx env) s
def sBreak : MS := fun env st => .fl (.bk env) st
def sCont : MS := fun env st => .fl (.ct env) st
def sAsg (f : ME) (g : MG) : MS := fun env st => (f env st).thenS env fun a s => match g a env with
  | some e => .fl (.nx e) s
  | none => .no
theorem rs_next : RS K w W tNext sNext := fun ρ H st σ env D rel re p => p ρ H σ (Ext.refl _ _) rel re
theorem rs_break : RS K w W tBreak sBreak := fun ρ H st σ env D rel re p => p ρ H σ (Ext.refl _ _) rel re
theorem rs_cont : RS K w W tCont sCont := fun ρ H st σ env D rel re p => p ρ H σ (Ext.refl _ _) rel re
theorem rs_seq {t u : TS} {f g : MS} (hf : RS K w W t f) (hg : RS K w W u g) : RS K w W (tSeq t u) (sSeq f g) := fun ρ H st σ env D rel re p => by
  refine hf ρ H st σ env _ rel re ?_
  have p : PostS K w ρ H ((f env st).next g) D W := p
  cases e : f env st with
  | fl fl s1 =>
    rw [e] at p
    cases fl with
    | nx e1 => exact fun ρ1 H1 σ1 x1 r1 re1 => hg ρ1 H1 s1 σ1 e1 D r1 re1 (PostS.ext p x1)
    | bk e1 => exact p
    | ct e1 => exact p
    | rt e1 => exact p
  | ex c d e1 s1 => rw [e] at p; exact p
  | no => rw [e] at p; exact p
theorem rs_if {c : TT} {t u : TS} {m : MT} {f g : MS} (hc : RT K w W c m) (hf : RS K w W t f) (hg : RS K w W u g) : RS K w W (tIfS c t u) (sIf m f g) := fun ρ H st σ env D rel re p =>
  hc.useS rel re p fun b s1 ρ1 H1 e1 r1 p1 => by
    cases b with
    | true => exact iteT (hf ρ1 H1 s1 σ env D r1 (re.ext e1) p1)
    | false => exact iteF (hg ρ1 H1 s1 σ env D r1 (re.ext e1) p1)
theorem rs_ret {t : TE} {f : ME} (hf : RE K w W t f) : RS K w W (tRet t) (sRet f) := fun ρ H st σ env D rel re p =>
  hf.useS rel re p fun a s1 ρ1 H1 x e1 r1 v1 p1 => p1 ρ1 H1 x (Ext.refl _ _) r1 v1
theorem rs_retN : RS K w W tRetN sRetN := fun ρ H st σ env D rel re p => p ρ H .non (Ext.refl _ _) rel .non
theorem rs_drop {t : TE} {f : ME} (hf : RE K w W t f) : RS K w W (tDrop t) (sDrop f) := fun ρ H st σ env D rel re p =>
  hf.useS rel re p fun a s1 ρ1 H1 x e1 r1 v1 p1 => p1 ρ1 H1 σ (Ext.refl _ _) r1 (re.ext e1)
theorem rs_asg {t : TE} {g : TG} {f : ME} {m : MG} {vs : List Nat} (hf : RE K w W t f) (hg : RGn K g m vs) : RS K w W (tAsg t g) (sAsg f m) := fun ρ H st σ env D rel re p =>
  hf.useS rel re p fun a s1 ρ1 H1 x e1 r1 v1 p1 => by
    refine hg H1 ρ1 σ env x a _ (re.ext e1) v1 ?_
    cases em : m a env with
    | none => rw [em] at p1; exact p1
    | some e2 =>
      rw [em] at p1
      exact fun σ' re' _ => p1 ρ1 H1 σ' (Ext.refl _ _) r1 re'
/-- xs[i] = e -/
def sPutL (f o i : ME) : MS := fun env st => (f env st).thenS env fun a s1 => (o env s1).thenS env fun x s2 => (i env s2).thenS env fun y s3 => match y, getM s3 x with
  | .int k, some (n, xs) => match ixN xs.length k with
    | some j => .fl (.nx env) (s3.set n (.lst (xs.set j a)))
    | none => .no
  | _, _ => .no
/-! ### what is walked -/
structure RIt (K : PySem.W.Frag) (w : World) (ρ : List Addr) (H : Hp) (J : It) (xs : List A) (ok : Sto → Prop) : Prop where
  go : ∀ (i : Nat) (a : A) ρ' H' st', Ext ρ ρ' H H' → Rel K w ρ' H' st' → ok st' → xs[i]? = some a → J.go i H' ∧ ∀ x H2, J.yld i H' x H2 → Same H' H2 ∧ Rv K H2 ρ' x a
  stop : ∀ ρ' H' st', Ext ρ ρ' H H' → Rel K w ρ' H' st' → ok st' → J.stop xs.length H'
theorem RIt.ext {ρ ρ1 : List Addr} {H H1 : Hp} {J : It} {xs : List A} {ok : Sto → Prop} (r : RIt K w ρ H J xs ok) (e : Ext ρ ρ1 H H1) : RIt K w ρ1 H1 J xs ok :=
  ⟨fun i a ρ' H' st' e' => r.go i a ρ' H' st' (e.trans e'), fun ρ' H' st' e' => r.stop ρ' H' st' (e.trans e')⟩
abbrev MI := AEnv → Sto → Res (List A × (Sto → Prop))
def RI (K : PySem.W.Frag) (w : World) (W : WishX) (wi : TI) (mi : MI) : Prop := ∀ ρ H st σ env R, Rel K w ρ H st → Renv K H ρ σ env → Post K w ρ H (mi env st) (fun xo _ ρ' H' => ∀ J, RIt K w ρ' H' J xo.1 xo.2 → R J H') (W · · σ ·) → wi σ H R
def miL (f : ME) : MI := fun env st => (f env st).bind fun a s => match getL s a with
  | some xs => .ok (xs, fun s' => getL s' a = some xs) s
  | none => .no
theorem ri_list {t : TE} {f : ME} (hf : RE K w W t f) : RI K w W (iList K t) (miL f) := fun ρ H st σ env R rel re p =>
  hf.use rel re p fun a s1 ρ1 H1 x e1 r1 v1 p1 => by
    split at p1
    · rename_i xs e
      obtain ⟨q, vs, rfl, h1, h2⟩ := getL_sq r1 v1 e
      refine ⟨q, rfl, ⟨_, h1⟩, p1 ρ1 H1 (Ext.refl _ _) r1 _ ⟨fun i b ρ' H' st' e' r' ok eb => ?_, fun ρ' H' st' e' r' ok => ?_⟩⟩
      · obtain ⟨q', vs', ee, h3, h4⟩ := getL_sq r' (rv_ext e' v1) ok
        cases ee
        obtain ⟨v, e5, e6⟩ := h4.get eb
        refine ⟨(walk_list (K := K) (a := q) (xs := vs')).goes i H' (by rw [h4.length]; exact (List.getElem?_eq_some_iff.mp eb).1) h3, fun x H2 y => ?_⟩
        obtain ⟨rfl, hx⟩ := (walk_list (K := K) (a := q) (xs := vs')).yields i H' x H2 (by rw [h4.length]; exact (List.getElem?_eq_some_iff.mp eb).1) h3 y
        rw [e5] at hx
        cases hx
        exact ⟨Same.refl _, e6⟩
      · obtain ⟨q', vs', ee, h3, h4⟩ := getL_sq r' (rv_ext e' v1) ok
        cases ee
        have := (walk_list (K := K) (a := q) (xs := vs')).stops H' h3
        rw [h4.length] at this
        exact this
    · exact p1.elim
def miT (f : ME) : MI := fun env st => (f env st).bind fun a s => match a with
  | .tup xs => .ok (xs, fun _ => True) s
  | _ => .no
theorem ri_tup {t : TE} {f : ME} (hf : RE K w W t f) : RI K w W (iTup K t) (miT f) := fun ρ H st σ env R rel re p =>
  hf.use rel re p fun a s1 ρ1 H1 x e1 r1 v1 p1 => by
    split at p1
    · rename_i xs
      obtain ⟨q, vs, rfl, h1, h2⟩ := getT_sq v1 rfl
      refine ⟨q, rfl, ⟨_, h1⟩, p1 ρ1 H1 (Ext.refl _ _) r1 _ ⟨fun i b ρ' H' st' e' r' _ eb => ?_, fun ρ' H' st' e' r' _ => ?_⟩⟩
      · have h3 := sqT_kt e'.kt h1
        obtain ⟨v, e5, e6⟩ := (rvs_ext e' h2).get eb
        have hi : i < vs.length := by rw [h2.length]; exact (List.getElem?_eq_some_iff.mp eb).1
        refine ⟨(walk_tup (K := K) (a := q) (xs := vs)).goes i H' hi h3, fun x H2 y => ?_⟩
        obtain ⟨rfl, hx⟩ := (walk_tup (K := K) (a := q) (xs := vs)).yields i H' x H2 hi h3 y
        rw [e5] at hx
        cases hx
        exact ⟨Same.refl _, e6⟩
      · have := (walk_tup (K := K) (a := q) (xs := vs)).stops H' (sqT_kt e'.kt h1)
        rw [h2.length] at this
        exact this
    · exact p1.elim
def rngA (lo : Int) (n : Nat) : List A := (List.range n).map fun i : Nat => A.int (lo + (i : Int))
theorem rit_range {ρ : List Addr} {H : Hp} {lo : Int} {n : Nat} : RIt K w ρ H (Itr lo n) (rngA lo n) fun _ => True := by
  refine ⟨fun i a ρ' H' st' e' r' _ ea => ?_, fun ρ' H' st' e' r' _ => ?_⟩
  · unfold rngA at ea
    rw [List.getElem?_map] at ea
    obtain ⟨j, ej, rfl⟩ := Option.map_eq_some_iff.mp ea
    obtain ⟨hj, rfl⟩ := List.getElem?_eq_some_iff.mp ej
    rw [List.length_range] at hj
    rw [List.getElem_range]
    refine ⟨hj, fun x H2 y => ?_⟩
    obtain ⟨rfl, rfl⟩ := y
    exact ⟨Same.refl _, .int _⟩
  · show n ≤ (rngA lo n).length
    unfold rngA
    rw [List.length_map, List.length_range]
    exact Nat.le_refl _
def miR1 (f : MA) : MI := fun env st => (f env st).bind fun as s => match as with
  | [.int j] => if -(2 ^ 62) ≤ j ∧ j < 2 ^ 62 then .ok (rngA 0 j.toNat, fun _ => True) s else .no
  | _ => .no
def miR2 (f : MA) : MI := fun env st => (f env st).bind fun as s => match as with
  | [.int i, .int j] => if -(2 ^ 62) ≤ i ∧ i < 2 ^ 62 ∧ -(2 ^ 62) ≤ j ∧ j < 2 ^ 62 then .ok (rngA i (j - i).toNat, fun _ => True) s else .no
  | _ => .no
theorem ri_range1 {t : TA} {f : MA} (hf : RA K w W t f) : RI K w W (iRng1 t) (miR1 f) := fun ρ H st σ env R rel re p =>
  hf.use rel re p fun a s1 ρ1 H1 x e1 r1 v1 p1 => by
    split at p1
    · split at p1
      · rename_i hj
        obtain ⟨v, rfl, h⟩ := rvs1 v1
        cases h
        exact ⟨_, rfl, hj.1, hj.2, p1 ρ1 H1 (Ext.refl _ _) r1 _ rit_range⟩
      · exact p1.elim
    · exact p1.elim
theorem ri_range2 {t : TA} {f : MA} (hf : RA K w W t f) : RI K w W (iRng2 t) (miR2 f) := fun ρ H st σ env R rel re p =>
  hf.use rel re p fun a s1 ρ1 H1 x e1 r1 v1 p1 => by
    split at p1
    · split at p1
      · rename_i hj
        obtain ⟨v, u, rfl, h, h'⟩ := rvs2 v1
        cases h
        cases h'
        exact ⟨_, _, rfl, hj, p1 ρ1 H1 (Ext.refl _ _) r1 _ rit_range⟩
      · exact p1.elim
    · exact p1.elim
end

/-! ### mirrors: loops, comprehensions, calls -/
section
variable {w : World} {W : WishX}
open Classical in
noncomputable def forL (ok : Sto → Prop) (g : MG) (b : MS) : List A → MS
  | [], env, st => if ok st then .fl (.nx env) st else .no
  | x :: xs, env, st => if ok st then (match g x env with
    | some e1 => match b e1 st with
      | .fl (.nx e2) s2 => forL ok g b xs e2 s2
      | .fl (.ct e2) s2 => forL ok g b xs e2 s2
      | .fl (.bk e2) s2 => .fl (.nx e2) s2
      | .fl (.rt a) s2 => .fl (.rt a) s2
      | .ex c d e2 s2 => .ex c d e2 s2
      | .no => .no
    | none => .no) else .no
noncomputable def sFor (mi : MI) (g : MG) (b : MS) : MS := fun env st => (mi env st).thenS env fun xo s => forL xo.2 g b xo.1 env s
theorem rs_for {wi : TI} {g : TG} {tb : TS} {mi : MI} {m : MG} {b : MS} {vs : List Nat} (hi : RI K w W wi mi) (hg : RGn K g m vs) (hb : RS K w W tb b) : RS K w W (tFor wi g tb) (sFor mi m b) := fun ρ H st σ env D rel re p => by
  have p : PostS K w ρ H ((mi env st).thenS env fun xo s => forL xo.2 m b xo.1 env s) D W := p
  refine hi ρ H st σ env _ rel re ?_
  cases e : mi env st with
  | no => rw [e] at p; exact p
  | ex c d s1 =>
    rw [e] at p
    exact fun ρ1 H1 dx e1 r1 hd => p ρ1 H1 σ dx e1 r1 (re.ext e1) hd
  | ok xo s1 =>
    rw [e] at p
    obtain ⟨xs, ok⟩ := xo
    intro ρ1 H1 e1 r1 J hJ
    have p1 : PostS K w ρ1 H1 (forL ok m b xs env s1) D W := PostS.ext p e1
    refine ⟨fun i n σ H2 => n = xs.length - i ∧ i ≤ xs.length ∧ ∃ ρ2 s2 env2, Ext ρ1 ρ2 H1 H2 ∧ Rel K w ρ2 H2 s2 ∧ Renv K H2 ρ2 σ env2 ∧ PostS K w ρ2 H2 (forL ok m b (xs.drop i) env2 s2) D W, ⟨_, rfl, Nat.zero_le _, ρ1, s1, env, Ext.refl _ _, r1, re.ext e1, by rw [List.drop_zero]; exact p1⟩, ?_⟩
    rintro i n σ2 H2 ⟨rfl, hi2, ρ2, s2, env2, e2, r2, re2, p2⟩
    by_cases lt : i < xs.length
    · have ea : xs[i]? = some xs[i] := List.getElem?_eq_getElem lt
      rw [List.drop_eq_getElem_cons lt] at p2
      unfold forL at p2
      split at p2
      · rename_i hok
        obtain ⟨hgo, hy⟩ := hJ.go i _ ρ2 H2 s2 e2 r2 hok ea
        refine .inr ⟨hgo, fun σ' H' => ∃ ρ3 s3 env3, Ext ρ1 ρ3 H1 H' ∧ Rel K w ρ3 H' s3 ∧ Renv K H' ρ3 σ' env3 ∧ PostS K w ρ3 H' (forL ok m b (xs.drop (i + 1)) env3 s3) D W, fun σ' H' hN => ⟨xs.length - (i + 1), by omega, rfl, lt, hN⟩, fun x H' yl => ?_⟩
        obtain ⟨sm, hx⟩ := hy x H' yl
        have e3 : Ext ρ2 ρ2 H2 H' := Ext.same sm
        have r3 := r2.same sm
        refine hg H' ρ2 σ2 env2 x _ _ (re2.ext e3) hx ?_
        cases em : m xs[i] env2 with
        | none => rw [em] at p2; exact p2
        | some env3 =>
          rw [em] at p2
          intro σ3 re3 _
          refine hb ρ2 H' s2 σ3 env3 _ r3 re3 ?_
          simp only at p2
          cases eb : b env3 s2 with
          | no => rw [eb] at p2; exact p2
          | ex c d env4 s4 =>
            rw [eb] at p2
            exact fun ρ4 H4 σ4 dx e4 r4 re4 hd => p2 ρ4 H4 σ4 dx (e3.trans e4) r4 re4 hd
          | fl f s4 =>
            rw [eb] at p2
            cases f with
            | nx env4 => exact fun ρ4 H4 σ4 e4 r4 re4 => ⟨ρ4, s4, env4, e2.trans (e3.trans e4), r4, re4, PostS.ext p2 (e3.trans e4)⟩
            | ct env4 => exact fun ρ4 H4 σ4 e4 r4 re4 => ⟨ρ4, s4, env4, e2.trans (e3.trans e4), r4, re4, PostS.ext p2 (e3.trans e4)⟩
            | bk env4 => exact fun ρ4 H4 σ4 e4 r4 re4 => p2 ρ4 H4 σ4 (e3.trans e4) r4 re4
            | rt a => exact fun ρ4 H4 v e4 r4 hv => p2 ρ4 H4 v (e3.trans e4) r4 hv
      · exact p2.elim
    · obtain rfl : i = xs.length := by omega
      rw [List.drop_length] at p2
      unfold forL at p2
      split at p2
      · rename_i hok
        exact .inl ⟨hJ.stop ρ2 H2 s2 e2 r2 hok, p2 ρ2 H2 σ2 (Ext.refl _ _) r2 re2⟩
      · exact p2.elim
/-- while, as often as there is fuel -/
def whileF (c : MT) (b : MS) : Nat → MS
  | 0, _, _ => .no
  | n + 1, env, st => (c env st).thenS env fun k s => if k = true then (match b env s with
    | .fl (.nx e2) s2 => whileF c b n e2 s2
    | .fl (.ct e2) s2 => whileF c b n e2 s2
    | .fl (.bk e2) s2 => .fl (.nx e2) s2
    | .fl (.rt a) s2 => .fl (.rt a) s2
    | .ex c d e2 s2 => .ex c d e2 s2
    | .no => .no) else .fl (.nx env) s
theorem rs_while {c : TT} {tb : TS} {m : MT} {b : MS} {n : Nat} (hc : RT K w W c m) (hb : RS K w W tb b) : RS K w W (tWhile c tb) (whileF m b n) := fun ρ H st σ env D rel re p => by
  refine ⟨fun n σ H => ∃ ρ st env, Rel K w ρ H st ∧ Renv K H ρ σ env ∧ PostS K w ρ H (whileF m b n env st) D W, ⟨n, ρ, st, env, rel, re, p⟩, ?_⟩
  rintro n σ2 H2 ⟨ρ2, s2, env2, r2, re2, p2⟩
  cases n with
  | zero => exact p2.elim
  | succ n =>
    refine hc.useS r2 re2 p2 fun k s3 ρ3 H3 e3 r3 p3 => ?_
    cases k with
    | false => exact iteF (p3 ρ3 H3 σ2 (Ext.refl _ _) r3 (re2.ext e3))
    | true =>
      refine iteT ⟨fun σ' H' => ∃ ρ st env, Rel K w ρ H' st ∧ Renv K H' ρ σ' env ∧ PostS K w ρ H' (whileF m b n env st) D W, fun σ' H' h => ⟨n, Nat.lt_succ_self n, h⟩, ?_⟩
      refine hb ρ3 H3 s3 σ2 env2 _ r3 (re2.ext e3) ?_
      have p3 : PostS K w ρ3 H3 (match b env2 s3 with
        | .fl (.nx e2) s2 => whileF m b n e2 s2
        | .fl (.ct e2) s2 => whileF m b n e2 s2
        | .fl (.bk e2) s2 => .fl (.nx e2) s2
        | .fl (.rt a) s2 => .fl (.rt a) s2
        | .ex c d e2 s2 => .ex c d e2 s2
        | .no => .no) D W := p3
      cases eb : b env2 s3 with
      | no => rw [eb] at p3; exact p3
      | ex c d env4 s4 => rw [eb] at p3; exact p3
      | fl f s4 =>
        rw [eb] at p3
        cases f with
        | nx env4 => exact fun ρ4 H4 σ4 e4 r4 re4 => ⟨ρ4, s4, env4, r4, re4, PostS.ext p3 e4⟩
        | ct env4 => exact fun ρ4 H4 σ4 e4 r4 re4 => ⟨ρ4, s4, env4, r4, re4, PostS.ext p3 e4⟩
        | bk env4 => exact p3
        | rt a => exact p3
/-! ### comprehensions -/
def noX {α : Type} (r : Res α) : Res α := match r with
  | .ex _ _ _ => .no
  | r => r
abbrev WF : WishX := fun _ _ _ _ => False
open Classical in
noncomputable def lcL (n : Nat) (ok : Sto → Prop) (g : MG) (tt : MT) (te : ME) (env : AEnv) : List A → Sto → Res A
  | [], st => if ok st then .ok (.ref n) st else .no
  | x :: xs, st => if ok st then (match g x env with
    | some e1 => (noX (tt e1 st)).bind fun k s1 => if k = true then (noX (te e1 s1)).bind fun y s2 => (match s2[n]? with
      | some (.lst acc) => if acc.length < sizeLine then lcL n ok g tt te env xs (s2.set n (.lst (acc ++ [y]))) else .no
      | _ => .no) else lcL n ok g tt te env xs s1
    | none => .no) else .no
noncomputable def mLc (mi : MI) (g : MG) (tt : MT) (te : ME) (vs : List Nat) : ME := fun env st => (mi env st).bind fun xo s => lcL s.length xo.2 g tt te (wipeA env vs) xo.1 (s ++ [.lst []])
theorem noX_use {α : Type} {ρ : List Addr} {H : Hp} {r : Res α} {β : Type} {k : α → Sto → Res β} {R : β → Sto → List Addr → Hp → Prop} {X : Value → Option Addr → Hp → Prop} {S : α → Sto → List Addr → Hp → Prop} (p : Post K w ρ H ((noX r).bind k) R X)
    (go : ∀ a s1 ρ1 H1, Ext ρ ρ1 H H1 → Rel K w ρ1 H1 s1 → Post K w ρ1 H1 (k a s1) R X → S a s1 ρ1 H1) : Post K w ρ H r S (fun _ _ _ => False) := by
  cases r with
  | ok a s => exact fun ρ1 H1 e1 r1 => go a s ρ1 H1 e1 r1 (Post.ext p e1)
  | ex c d s => exact p.elim
  | no => exact p
theorem re_lc {wi : TI} {g : TG} {tt : TT} {te : TE} {mi : MI} {m : MG} {ft : MT} {fe : ME} {vs : List Nat} (hi : RI K w W wi mi) (hg : RGn K g m vs) (ht : RT K w WF tt ft) (he : RE K w WF te fe) : RE K w W (tLc wi g tt te vs) (mLc mi m ft fe vs) := fun ρ H st σ env Q rel re p => by
  have p : Post K w ρ H ((mi env st).bind fun xo s => lcL s.length xo.2 m ft fe (wipeA env vs) xo.1 (s ++ [.lst []])) (fun a _ ρ' H' => ∀ v, Rv K H' ρ' v a → Q v H') (W · · σ ·) := p
  refine hi ρ H st σ env _ rel re ?_
  cases e : mi env st with
  | no => rw [e] at p; exact p
  | ex c d s1 => rw [e] at p; exact p
  | ok xo s1 =>
    rw [e] at p
    obtain ⟨xs, ok⟩ := xo
    intro ρ1 H1 e1 r1 J hJ D nD
    obtain ⟨e2, r2⟩ := r1.new (o := .lst []) (u := .lst []) nD fun H' e' h' => ⟨[], h', .nil⟩
    have hD := r1.last D
    have p1 : Post K w (ρ1 ++ [D]) (upd H1 D (.lst [])) (lcL s1.length ok m ft fe (wipeA env vs) xs (s1 ++ [.lst []])) (fun a _ ρ' H' => ∀ v, Rv K H' ρ' v a → Q v H') (W · · σ ·) := Post.ext p (e1.trans e2)
    refine ⟨fun i n H2 => n = xs.length - i ∧ i ≤ xs.length ∧ ∃ ρ2 s2, Ext (ρ1 ++ [D]) ρ2 (upd H1 D (.lst [])) H2 ∧ Rel K w ρ2 H2 s2 ∧ Post K w ρ2 H2 (lcL s1.length ok m ft fe (wipeA env vs) (xs.drop i) s2) (fun a _ ρ' H' => ∀ v, Rv K H' ρ' v a → Q v H') (W · · σ ·), ⟨_, rfl, Nat.zero_le _, _, _, Ext.refl _ _, r2, by rw [List.drop_zero]; exact p1⟩, ?_⟩
    rintro i n H2 ⟨rfl, hi2, ρ2, s2, e3, r3, p2⟩
    have e13 := e2.trans e3
    by_cases lt : i < xs.length
    · have ea : xs[i]? = some xs[i] := List.getElem?_eq_getElem lt
      rw [List.drop_eq_getElem_cons lt] at p2
      unfold lcL at p2
      split at p2
      · rename_i hok
        obtain ⟨hgo, hy⟩ := hJ.go i _ ρ2 H2 s2 e13 r3 hok ea
        refine .inr ⟨hgo, fun H' => ∃ ρ3 s3, Ext (ρ1 ++ [D]) ρ3 (upd H1 D (.lst [])) H' ∧ Rel K w ρ3 H' s3 ∧ Post K w ρ3 H' (lcL s1.length ok m ft fe (wipeA env vs) (xs.drop (i + 1)) s3) (fun a _ ρ' H' => ∀ v, Rv K H' ρ' v a → Q v H') (W · · σ ·), fun H' hN => ⟨xs.length - (i + 1), by omega, rfl, lt, hN⟩, fun x H' yl => ?_⟩
        obtain ⟨sm, hx⟩ := hy x H' yl
        have e4 : Ext ρ2 ρ2 H2 H' := Ext.same sm
        have r4 := r3.same sm
        refine hg H' ρ2 (L2.wipe σ vs) (wipeA env vs) x _ _ ((re.ext (e1.trans (e13.trans e4))).wipe vs) hx ?_
        cases em : m xs[i] (wipeA env vs) with
        | none => rw [em] at p2; exact p2
        | some env3 =>
          rw [em] at p2
          intro σ3 re3 wp
          have ww : L2.wipe (L2.wipe σ vs) vs = L2.wipe σ vs := by
            have : ∀ us : List Nat, (∀ u ∈ us, u ∈ vs) → L2.wipe (L2.wipe σ us) vs = L2.wipe σ vs := fun us => by
              induction us with
              | nil => intro _; rfl
              | cons u us ih =>
                intro hu
                show L2.wipe ((L2.wipe σ us).set u none) vs = L2.wipe σ vs
                rw [wipe_set (hu u List.mem_cons_self), ih fun z hz => hu z (List.mem_cons_of_mem _ hz)]
            exact this vs fun _ h => h
          refine ⟨wp.trans ww, ht ρ2 H' s2 σ3 env3 _ r4 re3 (noX_use (Post.ext p2 e4) fun k s5 ρ5 H5 e5 r5 p5 => ?_)⟩
          cases k with
          | false =>
            refine iteF ⟨ρ5, s5, e3.trans (e4.trans e5), r5, p5⟩
          | true =>
            refine iteT (he ρ5 H5 s5 σ3 env3 _ r5 (re3.ext e5) (noX_use p5 fun y s6 ρ6 H6 e6 r6 p6 v hv => ?_))
            split at p6
            · rename_i acc ea2
              obtain ⟨us, h1, h2⟩ := r6.get ((e3.trans (e4.trans (e5.trans e6))).get hD) ea2
              split at p6
              · rename_i hl
                obtain ⟨e7, r7⟩ := set_put r6 ((e3.trans (e4.trans (e5.trans e6))).get hD) (h2.append (.cons hv .nil))
                exact ⟨us, h1, by rw [h2.length]; exact hl, ρ6, _, e3.trans (e4.trans (e5.trans (e6.trans e7))), r7, Post.ext p6 e7⟩
              · exact p6.elim
            · exact p6.elim
      · exact p2.elim
    · obtain rfl : i = xs.length := by omega
      rw [List.drop_length] at p2
      unfold lcL at p2
      split at p2
      · rename_i hok
        exact .inl ⟨hJ.stop ρ2 H2 s2 e13 r3 hok, p2.give r3 (.ref (e3.get hD))⟩
      · exact p2.elim
def mYes : MT := fun _ st => .ok true st
theorem rt_yes : RT K w W tYes mYes := fun ρ H st σ env Q rel re p => p ρ H (Ext.refl _ _) rel
/-! ### calls -/
def spM (K : PySem.W.Frag) (w : World) (n : Nat) (m : List A → Sto → Res A) : Sp := fun vs H Q E => ∃ ρ st as, vs.length = n ∧ Rel K w ρ H st ∧ Rvs K H ρ vs as ∧ Post K w ρ H (m as st) (fun a _ ρ' H' => ∀ v, Rv K H' ρ' v a → Q v H') (fun c d H' => E c d H')
/-- .. of a def that lets nothing out -/
def spN (K : PySem.W.Frag) (w : World) (n : Nat) (m : List A → Sto → Res A) : Sp := spM K w n fun as st => noX (m as st)
theorem noX_any {α : Type} {ρ : List Addr} {H : Hp} {r : Res α} {R : α → Sto → List Addr → Hp → Prop} {X X' : Value → Option Addr → Hp → Prop} (p : Post K w ρ H (noX r) R X) : Post K w ρ H (noX r) R X' := by
  cases r with
  | ok a s => exact p
  | ex c d s => exact p
  | no => exact p
def mCall (n : Nat) (m : List A → Sto → Res A) (f : MA) : ME := fun env st => (f env st).bind fun as s => if as.length = n then noX (m as s) else .no
theorem re_call {n : Nat} {m : List A → Sto → Res A} {t : TA} {f : MA} (hf : RA K w W t f) : RE K w W (tCall (spN K w n m) [] E0 t) (mCall n m f) := fun ρ H st σ env Q rel re p =>
  hf.use rel re p fun as s1 ρ1 H1 vs e1 r1 v1 p1 => by
    split at p1
    · rename_i hl
      exact ⟨ρ1, s1, as, by rw [List.append_nil, v1.length]; exact hl, r1, by rw [List.append_nil]; exact v1, noX_any p1⟩
    · exact p1.elim
def fin : RF → Res A
  | .fl (.rt a) s => .ok a s
  | .fl (.nx _) s => .ok .non s
  | .ex c d _ s => .ex c d s
  | _ => .no
def runB (n : Nat) (b : MS) : List A → Sto → Res A := fun as st => fin (b (as.map some ++ List.replicate (n - as.length) none) st)
theorem renv_start {ρ : List Addr} {H : Hp} {N : List Str} {vs : List V} {as : List A} (h : Rvs K H ρ vs as) : Renv K H ρ (L2.start N vs) (as.map some ++ List.replicate (N.length - as.length) none) := by
  have hl := h.length
  refine ⟨by unfold L2.start; simp [hl], fun i a e => ?_⟩
  by_cases hi : i < as.length
  · rw [List.getElem?_append_left (by simpa using hi), List.getElem?_map] at e
    obtain ⟨b, eb, ec⟩ := Option.map_eq_some_iff.mp e
    cases ec
    obtain ⟨v, ev, rv⟩ := h.get eb
    refine ⟨v, ?_, rv⟩
    unfold L2.start
    rw [List.getElem?_append_left (by rw [List.length_map, hl]; exact hi), List.getElem?_map, ev]
    rfl
  · rw [List.getElem?_append_right (by simpa using Nat.le_of_not_lt hi)] at e
    rw [List.getElem?_replicate] at e
    split at e
    · cases e
    · cases e
/-- a def's promise by its mirror: nothing leaves it -/
theorem spN_body {N : List Str} {n : Nat} {b : MS} {t : TS} (hb : RS K w WF t b) {vs : List V} {H : Hp} {Q : VK} {E : XK} (h : spN K w n (runB N.length b) vs H Q E) : t { nx := fun _ H' => Q .non H', rt := Q } (L2.start N vs) H := by
  obtain ⟨ρ, st, as, _, rel, rv, p⟩ := h
  refine hb ρ H st _ _ _ rel (renv_start rv) ?_
  replace p : Post K w ρ H (noX (runB N.length b as st)) (fun a _ ρ' H' => ∀ v, Rv K H' ρ' v a → Q v H') (fun c d H' => E c d H') := p
  unfold runB at p
  cases e : b (as.map some ++ List.replicate (N.length - as.length) none) st with
  | no => rw [e] at p; exact p
  | ex c d e2 s => rw [e] at p; exact p.elim
  | fl f s =>
    rw [e] at p
    cases f with
    | nx e2 => exact fun ρ' H' σ' e' r' _ => p ρ' H' e' r' _ .non
    | rt a => exact fun ρ' H' v e' r' hv => p ρ' H' e' r' v hv
    | bk e2 => exact p.elim
    | ct e2 => exact p.elim
end
/-! ### operators by the kinds of what they meet -/
section
variable {w : World} {W : WishX} {X : Cx}
def rAddD (K : PySem.W.Frag) : R2 := rOr (rI0 fun i j => .int (i + j)) (rOr (fun x y H Q => ∃ i j, x = .str i ∧ y = .str j ∧ i.length + j.length ≤ sizeLine ∧ Q (.str (i ++ j)) H) (rOr (rCatA K) rCat))
theorem dAdd : OpR X (binaryOp .Add) (rAddD X.K) := OpR.or op_add (OpR.or op_add_str (OpR.or op_catA op_cat))
def oAdd : A → A → Sto → Res A := oOr (fun a _ => isInt a) (oI0 fun i j => .int (i + j)) (oOr (fun a _ => isStr a) (oS (fun i j => decide (i.length + j.length ≤ sizeLine)) fun i j => .str (i ++ j)) (oOr (fun a _ => isTup a) oCatT oCat))
theorem r2_add : R2ok K w (rAddD K) oAdd := r2_or (r2_I0 fun _ _ _ _ => .int _) (r2_or r2_addS (r2_or r2_catT r2_cat))
def rSubD : R2 := rI0 fun i j => .int (i - j)
theorem dSub : OpR X (binaryOp .Sub) rSubD := op_sub
def oSub : A → A → Sto → Res A := oI0 fun i j => .int (i - j)
theorem r2_sub : R2ok K w rSubD oSub := r2_I0 fun _ _ _ _ => .int _
def rMulD : R2 := rOr (rI CMul fun i j => .int (i * j)) rRep
theorem dMul : OpR X (binaryOp .Mult) rMulD := OpR.or op_mul op_rep
def cMul (i j : Int) : Bool := decide ((-(2 ^ 64) < i ∧ i < 2 ^ 64) ∨ (-(2 ^ 64) < j ∧ j < 2 ^ 64))
def oMul : A → A → Sto → Res A := oOr (fun a _ => isInt a) (oI cMul fun i j => .int (i * j)) oRep
theorem r2_mul : R2ok K w rMulD oMul := r2_or (r2_I (fun _ _ h => by have := of_decide_eq_true h; exact this) fun _ _ _ _ => .int _) r2_rep
def rDivD : R2 := rI CDivW fun i j => .int (i / j)
theorem dDiv : OpR X (binaryOp .FloorDiv) rDivD := op_fdivW
def oDiv : A → A → Sto → Res A := oI (fun _ j => decide (0 < j ∧ j.natAbs.log2 < 9000)) fun i j => .int (i / j)
theorem r2_div : R2ok K w rDivD oDiv := r2_I (fun _ _ h => by have := of_decide_eq_true h; exact this) fun _ _ _ _ => .int _
def rModD : R2 := rI (fun _ j => 0 < j) fun i j => .int (i % j)
theorem dMod : OpR X (binaryOp .Mod) rModD := op_mod
def oMod : A → A → Sto → Res A := oI (fun _ j => decide (0 < j)) fun i j => .int (i % j)
theorem r2_mod : R2ok K w rModD oMod := r2_I (fun _ _ h => by have := of_decide_eq_true h; exact this) fun _ _ _ _ => .int _
def rPowD : R2 := rI CPow fun i j => .int (i ^ j.toNat)
theorem dPow : OpR X (binaryOp .Pow) rPowD := op_pow
def oPow : A → A → Sto → Res A := oI (fun i j => decide (0 ≤ j ∧ j ≤ 1000000 ∧ i.natAbs < 2 ^ 64)) fun i j => .int (i ^ j.toNat)
theorem r2_pow : R2ok K w rPowD oPow := r2_I (fun _ _ h => by have := of_decide_eq_true h; exact this) fun _ _ _ _ => .int _
def rLtD : R2 := rOr (rI0 fun i j => .bl (decide (i < j))) (fun x y H Q => ∃ i j, x = .str i ∧ y = .str j ∧ Q (.bl (decide (i.cps.toList < j.cps.toList))) H)
theorem dLt : OpR X (compareOp .Lt) rLtD := OpR.or op_lt op_lt_str
def oLt : A → A → Sto → Res A := oOr (fun a _ => isInt a) (oI0 fun i j => .bl (decide (i < j))) (oS (fun _ _ => true) fun i j => .bl (decide (i.cps.toList < j.cps.toList)))
theorem r2_lt : R2ok K w rLtD oLt := r2_or (r2_I0 fun _ _ _ _ => .bl _) (r2_cmpS (g := fun i j => decide (i.cps.toList < j.cps.toList)))
def rLeD : R2 := rOr (rI0 fun i j => .bl (decide (i ≤ j))) (fun x y H Q => ∃ i j, x = .str i ∧ y = .str j ∧ Q (.bl (!decide (j.cps.toList < i.cps.toList))) H)
theorem dLe : OpR X (compareOp .LtE) rLeD := OpR.or op_le op_le_str
def oLe : A → A → Sto → Res A := oOr (fun a _ => isInt a) (oI0 fun i j => .bl (decide (i ≤ j))) (oS (fun _ _ => true) fun i j => .bl (!decide (j.cps.toList < i.cps.toList)))
theorem r2_le : R2ok K w rLeD oLe := r2_or (r2_I0 fun _ _ _ _ => .bl _) (r2_cmpS (g := fun i j => !decide (j.cps.toList < i.cps.toList)))
def rGtD : R2 := rI0 fun i j => .bl (decide (j < i))
theorem dGt : OpR X (compareOp .Gt) rGtD := op_gt
def oGt : A → A → Sto → Res A := oI0 fun i j => .bl (decide (j < i))
theorem r2_gt : R2ok K w rGtD oGt := r2_I0 fun _ _ _ _ => .bl _
def rGeD : R2 := rI0 fun i j => .bl (decide (j ≤ i))
theorem dGe : OpR X (compareOp .GtE) rGeD := op_ge
def oGe : A → A → Sto → Res A := oI0 fun i j => .bl (decide (j ≤ i))
theorem r2_ge : R2ok K w rGeD oGe := r2_I0 fun _ _ _ _ => .bl _
def rEqAny (K : PySem.W.Frag) : R2 := rOr rEq (rEqD K)
theorem dEq (hu : X.A.units + 64 < cLine) : OpR X (compareOp .Eq) (rEqAny X.K) := OpR.or op_eq (op_eqD hu)
theorem r2_eqA : R2ok K w (rEqAny K) oEq := r2_eq
def rNeAny (K : PySem.W.Frag) : R2 := rOr rNe (rNeD K)
theorem dNe (hu : X.A.units + 64 < cLine) : OpR X (compareOp .NotEq) (rNeAny X.K) := OpR.or op_ne (op_neD hu)
theorem r2_neA : R2ok K w (rNeAny K) oNe := r2_ne
def rIsN : R2 := fun x y H Q => y = .non ∧ Q (.bl (decide (x = .non))) H
theorem dIs : OpR X (compareOp .Is) rIsN := op_isN
theorem r2_isN : R2ok K w rIsN oIs := r2_is
def rNotN : R2 := fun x y H Q => y = .non ∧ Q (.bl (!decide (x = .non))) H
theorem dIsNot : OpR X (compareOp .IsNot) rNotN := op_notN
theorem r2_notN : R2ok K w rNotN oIsNot := r2_isnot
def rInAny (K : PySem.W.Frag) : R2 := rOr (fun x y H Q => ∃ (c : Nat) (z : Str), x = .str ⟨#[c]⟩ ∧ y = .str z ∧ Q (.bl (decide (c ∈ z.cps.toList))) H) (rOr (rIn K false) (rInD K))
theorem dIn (hu : X.A.units + 65 < cLine) : OpR X (compareOp .In) (rInAny X.K) := OpR.or op_in_sign (OpR.or op_in_seq (op_inD hu))
def flatIn (a b : A) : Bool := match b with
  | .tup _ => true
  | _ => flatA a
def oIn : A → A → Sto → Res A := oOr (fun _ b => isStr b) (oInS false) (oOr flatIn oInF oInD)
theorem r2_in : R2ok K w (rInAny K) oIn := r2_or r2_inS (r2_or r2_inF r2_inD)
def rNotInAny (K : PySem.W.Frag) : R2 := rOr (fun x y H Q => ∃ (c : Nat) (z : Str), x = .str ⟨#[c]⟩ ∧ y = .str z ∧ Q (.bl (!decide (c ∈ z.cps.toList))) H) (rOr (rIn K true) (rNotInD K))
theorem dNotIn (hu : X.A.units + 65 < cLine) : OpR X (compareOp .NotIn) (rNotInAny X.K) := OpR.or op_notIn_sign (OpR.or op_notIn_seq (op_notInD hu))
def oNotIn : A → A → Sto → Res A := oOr (fun _ b => isStr b) (oInS true) (oOr flatIn oNotInF oNotInD)
theorem r2_notIn : R2ok K w (rNotInAny K) oNotIn := r2_or r2_notInS (r2_or r2_notInF r2_notInD)
def rIxAny (K : PySem.W.Frag) : R2 := rOr (rIxT K) (rOr rIxS (rIxL K))
theorem dIx : IxR X (rIxAny X.K) := IxR.or ix_tup (IxR.or ix_str ix_list)
def oIxD : A → A → Sto → Res A := oOr (fun a _ => isTup a) oIxT (oOr (fun a _ => isStr a) oIxS oIx)
theorem r2_ixD : R2ok K w (rIxAny K) oIxD := r2_or r2_ixT (r2_or r2_ixS r2_ix)
def oNeg : A → Sto → Res A := fun a st => match a with
  | .int i => .ok (.int (-i)) st
  | _ => .no
theorem r1_neg : R1ok K w (rU fun i => .int (-i)) oNeg := fun ρ H st x a Q X rel ra p => by
  unfold oNeg at p
  split at p
  · cases ra
    exact ⟨_, rfl, p.give rel (.int _)⟩
  · exact p.elim
end

/-! ### mirrors: stores, more that is walked, more built-ins -/
section
variable {w : World} {W : WishX}
theorem rs_putL {ta to ti : TE} {f o i : ME} (hf : RE K w W ta f) (ho : RE K w W to o) (hi : RE K w W ti i) : RS K w W (tAsg ta (gSub to ti L2.rSetL)) (sPutL f o i) := fun ρ H st σ env D rel re p =>
  hf.useS rel re p fun a s1 ρ1 H1 x e1 r1 v1 p1 => ho.useS r1 (re.ext e1) p1 fun b s2 ρ2 H2 y e2 r2 v2 p2 => hi.useS r2 (re.ext (e1.trans e2)) p2 fun c s3 ρ3 H3 z e3 r3 v3 p3 => by
    split at p3
    · rename_i k n xs em
      cases v3
      obtain ⟨q, vs, ee, hq, h1, h2⟩ := getM_is r3 (rv_ext e3 v2) em
      cases ee
      split at p3
      · rename_i j ej
        have hv := rv_ext (e2.trans e3) v1
        obtain ⟨e4, r4⟩ := set_put r3 hq (h2.set hv j)
        exact ⟨q, vs, k, j, rfl, rfl, h1, by rw [h2.length]; exact ej, p3 ρ3 _ σ e4 r4 (re.ext (e1.trans (e2.trans (e3.trans e4))))⟩
      · exact p3.elim
    · exact p3.elim
/-- a text, sign by sign -/
def signs (z : Str) : List A := z.cps.toList.map fun c => A.str ⟨#[c]⟩
def miS (f : ME) : MI := fun env st => (f env st).bind fun a s => match a with
  | .str z => .ok (signs z, fun _ => True) s
  | _ => .no
theorem ri_str {t : TE} {f : ME} (hf : RE K w W t f) : RI K w W (iStr t) (miS f) := fun ρ H st σ env R rel re p =>
  hf.use rel re p fun a s1 ρ1 H1 x e1 r1 v1 p1 => by
    split at p1
    · rename_i z
      cases v1
      refine ⟨z, rfl, p1 ρ1 H1 (Ext.refl _ _) r1 _ ⟨fun i b ρ' H' st' e' r' _ eb => ?_, fun ρ' H' st' e' r' _ => ?_⟩⟩
      · unfold signs at eb
        rw [List.getElem?_map] at eb
        obtain ⟨c, ec, rfl⟩ := Option.map_eq_some_iff.mp eb
        have hi : i < z.cps.size := by
          have := (List.getElem?_eq_some_iff.mp ec).1
          simpa using this
        refine ⟨(walk_str (z := z)).goes i H' hi trivial, fun x H2 y => ?_⟩
        obtain ⟨rfl, c', ec', rfl⟩ := (walk_str (z := z)).yields i H' x H2 hi trivial y
        rw [Array.getElem?_toList] at ec
        rw [ec] at ec'
        cases ec'
        exact ⟨Same.refl _, .str _⟩
      · have := (walk_str (z := z)).stops H' trivial
        show (Its z).stop (signs z).length H'
        unfold signs
        rw [List.length_map]
        simpa using this
    · exact p1.elim
/-- isinstance(x, (S, T)) -/
def mIsiT (S T : String) (f : ME) : ME := fun env st => (f env st).bind fun a s => match tyA s a with
  | some t => if S ∈ ["int", "bool", "str", "tuple", "list"] ∧ T ∈ ["int", "bool", "str", "tuple", "list"] then .ok (.bl (isTy t S || isTy t T)) s else .no
  | none => .no
theorem kit_any2 {t S T : String} (ht : t ∈ ["NoneType", "bool", "int", "str", "list", "tuple", "dict"]) (hS : S ∈ ["int", "bool", "str", "tuple", "list"]) (hT : T ∈ ["int", "bool", "str", "tuple", "list"]) : PySem.W.kitAny K (.type t) [.type S, .type T] = some (isTy t S || isTy t T) := by
  have h1 := kit_ty (K := K) (kit_all t ht S hS)
  have h2 := kit_ty (K := K) (kit_all t ht T hT)
  unfold PySem.W.kitAny PySem.W.kitAny PySem.W.kitAny
  rw [h1, h2]
  cases isTy t S <;> cases isTy t T <;> rfl
theorem re_isiT {S T : String} {t : TE} {f : ME} (hf : RE K w W t f) : RE K w W (tCB (rIsiT K) (tCons t (tCons (tTup (tCons (tC (.ty S)) (tCons (tC (.ty T)) tNil))) tNil))) (mIsiT S T f) := fun ρ H st σ env Q rel re p =>
  hf.use rel re p fun a s1 ρ1 H1 x e1 r1 v1 p1 => by
    split at p1
    · rename_i ty et
      split at p1
      · rename_i hc
        refine ⟨by show 2 ≤ sizeLine; decide, fun q nq => ?_⟩
        have sm := same_upd (o := .tup [V.ty S, V.ty T]) nq
        obtain ⟨h1, h2⟩ := tyA_x (r1.same sm) (rv_ext (Ext.same sm) v1) et
        exact ⟨x, q, _, _, _, _, rfl, upd_same, .cons (.ty _) (.cons (.ty _) .nil), h1, kit_any2 h2 hc.1 hc.2, p1.giveAt (Ext.same sm) (r1.same sm) (.bl _)⟩
      · exact p1.elim
    · exact p1.elim
/-- all(..), any(..) of a list of truths -/
def bls : List A → Option (List Bool)
  | [] => some []
  | .bl b :: xs => (bls xs).map (b :: ·)
  | _ => none
theorem bls_is {ρ : List Addr} {H : Hp} : ∀ {vs : List V} {xs : List A} {bs : List Bool}, Rvs K H ρ vs xs → bls xs = some bs → vs = bs.map V.bl
  | _, _, _, .nil, e => by cases e; rfl
  | _, _, _, .cons h hs, e => by
    cases h with
    | bl b =>
      obtain ⟨cs, e1, rfl⟩ := Option.map_eq_some_iff.mp (show (bls _).map (b :: ·) = some _ from e)
      rw [bls_is hs e1]
      rfl
    | _ => cases e
def oAll (g : List Bool → Bool) : List A → Sto → Res A := fun as st => match as with
  | [a] => match getL st a with
    | some xs => lift ((bls xs).map fun bs => A.bl (g bs)) st
    | none => .no
  | _ => .no
theorem rl_all : RLok K w (rAll K) (oAll fun bs => bs.all id) := fun ρ H st vs as Q X rel rv p => by
  unfold oAll at p
  split at p
  · split at p
    · rename_i xs e
      obtain ⟨v, rfl, h⟩ := rvs1 rv
      obtain ⟨q, us, rfl, h1, h2⟩ := getL_sq rel h e
      cases eb : bls xs with
      | none => rw [eb] at p; exact p.elim
      | some bs =>
        rw [eb] at p
        have := bls_is h2 eb
        subst this
        exact ⟨q, bs, rfl, h1, p.give rel (.bl _)⟩
    · exact p.elim
  · exact p.elim
theorem rl_any : RLok K w (rAny K) (oAll fun bs => bs.any id) := fun ρ H st vs as Q X rel rv p => by
  unfold oAll at p
  split at p
  · split at p
    · rename_i xs e
      obtain ⟨v, rfl, h⟩ := rvs1 rv
      obtain ⟨q, us, rfl, h1, h2⟩ := getL_sq rel h e
      cases eb : bls xs with
      | none => rw [eb] at p; exact p.elim
      | some bs =>
        rw [eb] at p
        have := bls_is h2 eb
        subst this
        exact ⟨q, bs, rfl, h1, p.give rel (.bl _)⟩
    · exact p.elim
  · exact p.elim
/-- the truth of a value -/
def mTruth (f : ME) : MT := fun env st => (f env st).bind fun a s => match a with
  | .non => .ok false s
  | .bl b => .ok b s
  | .int i => .ok (i != 0) s
  | .str y => if y.length ≤ sizeLine then .ok ((y.length : Int) != 0) s else .no
  | .ref n => match s[n]? with
    | some (.lst xs) => .ok (!xs.isEmpty) s
    | some (.dK xs) => .ok (!xs.isEmpty) s
    | _ => .no
  | .tup xs => .ok (!xs.isEmpty) s
  | _ => .no
theorem rvs_empty {ρ : List Addr} {H : Hp} {vs : List V} {xs : List A} (h : Rvs K H ρ vs xs) : vs.isEmpty = xs.isEmpty := by cases h <;> rfl
theorem rkv_empty {κ : Type} {ρ : List Addr} {H : Hp} {vs : List (κ × V)} {xs : List (κ × A)} (h : Rkv K H ρ vs xs) : vs.isEmpty = xs.isEmpty := by cases h <;> rfl
theorem rt_truth {t : TE} {f : ME} (hf : RE K w W t f) : RT K w W (fun σ H Q => t σ H fun x H' => ∃ k, TruV K x H' k ∧ Q k H') (mTruth f) := fun ρ H st σ env Q rel re p =>
  hf.use rel re p fun a s1 ρ1 H1 x e1 r1 v1 p1 => by
    split at p1
    · cases v1; exact ⟨_, rfl, p1.giveB r1⟩
    · cases v1; exact ⟨_, rfl, p1.giveB r1⟩
    · cases v1; exact ⟨_, rfl, p1.giveB r1⟩
    · cases v1
      split at p1
      · rename_i hl
        exact ⟨_, ⟨hl, rfl⟩, p1.giveB r1⟩
      · exact p1.elim
    · cases v1 with
      | ref h =>
        split at p1
        · rename_i xs e
          obtain ⟨vs, h1, h2⟩ := r1.get h e
          exact ⟨_, .inl ⟨vs, SqL.of h1, rfl⟩, by rw [rvs_empty h2]; exact p1.giveB r1⟩
        · rename_i xs e
          obtain ⟨vs, h1, h2⟩ := r1.get h e
          exact ⟨_, .inr (.inr ⟨vs, h1, rfl⟩), by rw [rkv_empty h2]; exact p1.giveB r1⟩
        · exact p1.elim
    · obtain ⟨q, vs, rfl, h1, h2⟩ := getT_sq v1 rfl
      exact ⟨_, .inr (.inl ⟨vs, h1, rfl⟩), by rw [rvs_empty h2]; exact p1.giveB r1⟩
    · exact p1.elim
end

/-! ### mirrors: how they go, step by step -/
section
variable {α β : Type} {a b : A} {s st : Sto} {env e : AEnv}
theorem ev_bok {x : α} {k : α → Sto → Res β} : (Res.ok x s).bind k = k x s := rfl
theorem ev_bno {k : α → Sto → Res β} : (Res.no : Res α).bind k = .no := rfl
theorem ev_bex {c : Addr} {d : Option Nat} {k : α → Sto → Res β} : (Res.ex c d s : Res α).bind k = .ex c d s := rfl
theorem ev_tok {x : α} {k : α → Sto → RF} : (Res.ok x s).thenS e k = k x s := rfl
theorem ev_tno {k : α → Sto → RF} : (Res.no : Res α).thenS e k = .no := rfl
theorem ev_tex {c : Addr} {d : Option Nat} {k : α → Sto → RF} : (Res.ex c d s : Res α).thenS e k = .ex c d e s := rfl
theorem ev_nnx {k : MS} : (RF.fl (.nx e) s).next k = k e s := rfl
theorem ev_nrt {k : MS} : (RF.fl (.rt a) s).next k = .fl (.rt a) s := rfl
theorem ev_nbk {k : MS} : (RF.fl (.bk e) s).next k = .fl (.bk e) s := rfl
theorem ev_nct {k : MS} : (RF.fl (.ct e) s).next k = .fl (.ct e) s := rfl
theorem ev_nex {c : Addr} {d : Option Nat} {k : MS} : (RF.ex c d e s).next k = .ex c d e s := rfl
theorem ev_nno {k : MS} : RF.no.next k = .no := rfl
theorem ev_frt : fin (.fl (.rt a) s) = .ok a s := rfl
theorem ev_fnx : fin (.fl (.nx e) s) = .ok .non s := rfl
theorem ev_fex {c : Addr} {d : Option Nat} : fin (.ex c d e s) = .ex c d s := rfl
theorem ev_xok {x : α} : noX (Res.ok x s) = .ok x s := rfl
theorem ev_lsome {x : α} : lift (some x) st = .ok x st := rfl
theorem ev_lnone : lift (none : Option α) st = .no := rfl
theorem ev_seq {f g : MS} : sSeq f g env st = (f env st).next g := rfl
theorem ev_if {c : MT} {f g : MS} : sIf c f g env st = (c env st).thenS env fun b s => if b = true then f env s else g env s := rfl
theorem ev_ret {f : ME} : sRet f env st = (f env st).thenS env fun a s => .fl (.rt a) s := rfl
theorem ev_retN : sRetN env st = .fl (.rt .non) st := rfl
theorem ev_drop {f : ME} : sDrop f env st = (f env st).thenS env fun _ s => .fl (.nx env) s := rfl
theorem ev_nop : sNext env st = .fl (.nx env) st := rfl
theorem ev_brk : sBreak env st = .fl (.bk env) st := rfl
theorem ev_cont : sCont env st = .fl (.ct env) st := rfl
theorem ev_asgN {f : ME} {i : Nat} : sAsg f (mgName i) env st = (f env st).thenS env fun a s => .fl (.nx (env.set i (some a))) s := rfl
def asgO (o : Option AEnv) (s : Sto) : RF := match o with
  | some e => .fl (.nx e) s
  | none => .no
theorem ev_asgT {f : ME} {g : MGs} : sAsg f (mgTup g) env st = (f env st).thenS env fun a s => asgO (mgTup g a env) s := rfl
theorem ev_asgO : asgO (some e) s = .fl (.nx e) s := rfl
theorem ev_mgTup {g : MGs} {xs : List A} : mgTup g (.tup xs) env = g xs env := rfl
theorem ev_mgN {i : Nat} : mgName i a env = some (env.set i (some a)) := rfl
theorem ev_mgC {i : Nat} {g : MGs} {xs : List A} : mgCons (mgName i) g (a :: xs) env = g xs (env.set i (some a)) := rfl
theorem ev_mg0 : mgNil [] env = some env := rfl
def putO (y : A) (m : Option (Nat × List A)) (a : A) (env : AEnv) (s : Sto) : RF := match y, m with
  | .int k, some (n, xs) => match ixN xs.length k with
    | some j => .fl (.nx env) (s.set n (.lst (xs.set j a)))
    | none => .no
  | _, _ => .no
theorem ev_putL {f o i : ME} : sPutL f o i env st = (f env st).thenS env fun a s1 => (o env s1).thenS env fun x s2 => (i env s2).thenS env fun y s3 => putO y (getM s3 x) a env s3 := rfl
theorem ev_putO {k : Int} {n j : Nat} {xs : List A} (h : ixN xs.length k = some j) : putO (.int k) (some (n, xs)) a env s = .fl (.nx env) (s.set n (.lst (xs.set j a))) := by
  unfold putO
  simp only [h]
def vr (o : Option (Option A)) (st : Sto) : Res A := match o with
  | some (some a) => .ok a st
  | _ => .no
theorem ev_var {i : Nat} : mVar i env st = vr env[i]? st := rfl
theorem ev_vr : vr (some (some a)) st = .ok a st := rfl
theorem ev_c : mC a env st = .ok a st := rfl
theorem ev_op {op : A → A → Sto → Res A} {f g : ME} : mOp op f g env st = (f env st).bind fun x s1 => (g env s1).bind fun y s2 => op x y s2 := rfl
theorem ev_un {op : A → Sto → Res A} {f : ME} : mUn op f env st = (f env st).bind fun x s1 => op x s1 := rfl
def tb (a : A) (s : Sto) : Res Bool := match a with
  | .bl b => .ok b s
  | _ => .no
theorem ev_test {f : ME} : mTest f env st = (f env st).bind tb := rfl
theorem ev_tb {b : Bool} : tb (.bl b) s = .ok b s := rfl
theorem ev_notT {f : MT} : mNotT f env st = (f env st).bind fun b s => .ok (!b) s := rfl
theorem ev_andT {f g : MT} : mAndT f g env st = (f env st).bind fun b s => if b = true then g env s else .ok false s := rfl
theorem ev_orT {f g : MT} : mOrT f g env st = (f env st).bind fun b s => if b = true then .ok true s else g env s := rfl
theorem ev_ifE {c : MT} {f g : ME} : mIfE c f g env st = (c env st).bind fun b s => if b = true then f env s else g env s := rfl
def nb (a : A) (s : Sto) : Res A := match a with
  | .bl b => .ok (.bl (!b)) s
  | _ => .no
theorem ev_not {f : ME} : mNot f env st = (f env st).bind nb := rfl
theorem ev_nb {b : Bool} : nb (.bl b) s = .ok (.bl (!b)) s := rfl
def andK (g : ME) (env : AEnv) (a : A) (s : Sto) : Res A := match a with
  | .bl b => if b = true then g env s else .ok (.bl false) s
  | _ => .no
theorem ev_and {f g : ME} : mAnd f g env st = (f env st).bind (andK g env) := rfl
theorem ev_andK {g : ME} {b : Bool} : andK g env (.bl b) s = if b = true then g env s else .ok (.bl false) s := rfl
def orK (g : ME) (env : AEnv) (a : A) (s : Sto) : Res A := match a with
  | .bl b => if b = true then .ok (.bl true) s else g env s
  | _ => .no
theorem ev_or {f g : ME} : mOr f g env st = (f env st).bind (orK g env) := rfl
theorem ev_orK {g : ME} {b : Bool} : orK g env (.bl b) s = if b = true then .ok (.bl true) s else g env s := rfl
def chK (o' : A → A → Sto → Res A) (h : ME) (env : AEnv) (y z : A) (s : Sto) : Res A := match z with
  | .bl true => (h env s).bind fun u s4 => o' y u s4
  | .bl false => .ok (.bl false) s
  | _ => .no
theorem ev_chain {o o' : A → A → Sto → Res A} {f g h : ME} : mChain o o' f g h env st = (f env st).bind fun x s1 => (g env s1).bind fun y s2 => (o x y s2).bind fun z s3 => chK o' h env y z s3 := rfl
theorem ev_chK {o' : A → A → Sto → Res A} {h : ME} {y : A} {c : Bool} : chK o' h env y (.bl c) s = if c = true then (h env s).bind fun u s4 => o' y u s4 else .ok (.bl false) s := by cases c <;> rfl
theorem ev_nil : mNil env st = .ok [] st := rfl
theorem ev_cons {f : ME} {g : MA} : mCons f g env st = (f env st).bind fun x s1 => (g env s1).bind fun xs s2 => .ok (x :: xs) s2 := rfl
theorem ev_tup {f : MA} : mTup f env st = (f env st).bind fun xs s => if xs.length ≤ sizeLine then .ok (.tup xs) s else .no := rfl
theorem ev_lst {f : MA} : mLst f env st = (f env st).bind fun xs s => if xs.length ≤ sizeLine then newO (.lst xs) s else .no := rfl
theorem ev_new {o : AO} : newO o st = .ok (.ref st.length) (st ++ [o]) := rfl
theorem ev_call {n : Nat} {m : List A → Sto → Res A} {f : MA} : mCall n m f env st = (f env st).bind fun as s => if as.length = n then noX (m as s) else .no := rfl
theorem ev_cb {op : List A → Sto → Res A} {f : MA} : mCB op f env st = (f env st).bind op := rfl
theorem ev_size : sizeLine = 16777216 := sizeLine_eq
/-! operators -/
variable {i j : Int} {x y : Str} {xs ys : List A}
theorem ev_addI : oAdd (.int i) (.int j) st = .ok (.int (i + j)) st := rfl
theorem ev_addS : oAdd (.str x) (.str y) st = if decide (x.length + y.length ≤ sizeLine) = true then .ok (.str (x ++ y)) st else .no := rfl
theorem ev_addT : oAdd (.tup xs) (.tup ys) st = if xs.length + ys.length ≤ sizeLine then .ok (.tup (xs ++ ys)) st else .no := rfl
def catO (p q : Option (Nat × List A)) (st : Sto) : Res A := match p, q with
  | some (_, xs), some (_, ys) => if xs.length + ys.length ≤ sizeLine then newO (.lst (xs ++ ys)) st else .no
  | _, _ => .no
theorem ev_addL {n : Nat} : oAdd (.ref n) b st = catO (getM st (.ref n)) (getM st b) st := rfl
theorem ev_catO {n m : Nat} : catO (some (n, xs)) (some (m, ys)) st = if xs.length + ys.length ≤ sizeLine then newO (.lst (xs ++ ys)) st else .no := rfl
theorem ev_sub : oSub (.int i) (.int j) st = .ok (.int (i - j)) st := rfl
theorem ev_mul : oMul (.int i) (.int j) st = if cMul i j = true then .ok (.int (i * j)) st else .no := rfl
theorem ev_div : oDiv (.int i) (.int j) st = if decide (0 < j ∧ j.natAbs.log2 < 9000) = true then .ok (.int (i / j)) st else .no := rfl
theorem ev_mod : oMod (.int i) (.int j) st = if decide (0 < j) = true then .ok (.int (i % j)) st else .no := rfl
theorem pow_ev : oPow (.int i) (.int j) st = if decide (0 ≤ j ∧ j ≤ 1000000 ∧ i.natAbs < 2 ^ 64) = true then .ok (.int (i ^ j.toNat)) st else .no := rfl
theorem ev_p5 : oPow (.int 10) (.int 5) st = .ok (.int 100000) st := rfl
theorem ev_p6 : oPow (.int 10) (.int 6) st = .ok (.int 1000000) st := rfl
theorem ev_p12 : oPow (.int 10) (.int 12) st = .ok (.int 1000000000000) st := rfl
theorem ev_p18 : oPow (.int 10) (.int 18) st = .ok (.int 1000000000000000000) st := rfl
theorem ev_p30 : oPow (.int 10) (.int 30) st = .ok (.int 1000000000000000000000000000000) st := rfl
theorem ev_neg : oNeg (.int i) st = .ok (.int (-i)) st := rfl
theorem ev_ltI : oLt (.int i) (.int j) st = .ok (.bl (decide (i < j))) st := rfl
theorem ev_ltS : oLt (.str x) (.str y) st = .ok (.bl (decide (x.cps.toList < y.cps.toList))) st := rfl
theorem ev_leI : oLe (.int i) (.int j) st = .ok (.bl (decide (i ≤ j))) st := rfl
theorem ev_leS : oLe (.str x) (.str y) st = .ok (.bl (!decide (y.cps.toList < x.cps.toList))) st := rfl
theorem ev_gt : oGt (.int i) (.int j) st = .ok (.bl (decide (j < i))) st := rfl
theorem ev_ge : oGe (.int i) (.int j) st = .ok (.bl (decide (j ≤ i))) st := rfl
theorem ev_eqI : oEq (.int i) (.int j) st = .ok (.bl (decide (i = j))) st := rfl
theorem ev_eqS : oEq (.str x) (.str y) st = .ok (.bl (decide (x = y))) st := rfl
theorem ev_neI : oNe (.int i) (.int j) st = .ok (.bl (!decide (i = j))) st := rfl
theorem ev_neS : oNe (.str x) (.str y) st = .ok (.bl (!decide (x = y))) st := rfl
theorem ev_neB {c d : Bool} : oNe (.bl c) (.bl d) st = .ok (.bl (!decide (c = d))) st := rfl
theorem ev_eqB {c d : Bool} : oEq (.bl c) (.bl d) st = .ok (.bl (decide (c = d))) st := rfl
theorem ev_is : oIs a .non st = .ok (.bl (isNon a)) st := rfl
theorem ev_isnot : oIsNot a .non st = .ok (.bl (!isNon a)) st := rfl
theorem ev_ixT : oIxD (.tup xs) (.int i) st = lift (atI xs i) st := rfl
theorem ev_ixS : oIxD (.str x) (.int i) st = if x.length ≤ sizeLine then lift ((atI x.cps.toList i).map fun c => A.str ⟨#[c]⟩) st else .no := rfl
def ixK (o : Option (List A)) (i : Int) (st : Sto) : Res A := match o with
  | some xs => lift (atI xs i) st
  | none => .no
theorem ev_ixR {n : Nat} : oIxD (.ref n) (.int i) st = ixK (getL st (.ref n)) i st := rfl
theorem ev_ixL : oIxD (.lit xs) (.int i) st = lift (atI xs i) st := rfl
theorem ev_ixK : ixK (some xs) i st = lift (atI xs i) st := rfl
def gL (o : Option AO) : Option (List A) := match o with
  | some (.lst xs) => some xs
  | _ => none
def gM (n : Nat) (o : Option AO) : Option (Nat × List A) := match o with
  | some (.lst xs) => some (n, xs)
  | _ => none
theorem ev_getL {n : Nat} : getL st (.ref n) = gL st[n]? := rfl
theorem ev_getM {n : Nat} : getM st (.ref n) = gM n st[n]? := rfl
theorem ev_gL : gL (some (.lst xs)) = some xs := rfl
theorem ev_gM {n : Nat} : gM n (some (.lst xs)) = some (n, xs) := rfl
theorem ev_at0 {α : Type} {x : α} {l : List α} : atI (x :: l) 0 = some x := atI_nat (j := 0) rfl
theorem ev_at1 {α : Type} {x x1 : α} {l : List α} : atI (x :: x1 :: l) 1 = some x1 := atI_nat (j := 1) rfl
theorem ev_at2 {α : Type} {x x1 x2 : α} {l : List α} : atI (x :: x1 :: x2 :: l) 2 = some x2 := atI_nat (j := 2) rfl
theorem ev_at3 {α : Type} {x x1 x2 x3 : α} {l : List α} : atI (x :: x1 :: x2 :: x3 :: l) 3 = some x3 := atI_nat (j := 3) rfl
theorem ev_at4 {α : Type} {x x1 x2 x3 x4 : α} {l : List α} : atI (x :: x1 :: x2 :: x3 :: x4 :: l) 4 = some x4 := atI_nat (j := 4) rfl
def lenR (o : Option AO) (st : Sto) : Res A := match o with
  | some (.lst xs) => .ok (.int xs.length) st
  | some (.dK kvs) => .ok (.int kvs.length) st
  | _ => .no
theorem ev_lenS : oLen [.str x] st = if x.length ≤ sizeLine then .ok (.int x.length) st else .no := rfl
theorem ev_lenR {n : Nat} : oLen [.ref n] st = lenR st[n]? st := rfl
theorem ev_lenT : oLen [.tup xs] st = .ok (.int xs.length) st := rfl
theorem ev_lenL : oLen [.lit xs] st = .ok (.int xs.length) st := rfl
theorem ev_lenO : lenR (some (.lst xs)) st = .ok (.int xs.length) st := rfl
theorem ev_lenD {kvs : List (Key × A)} : lenR (some (.dK kvs)) st = .ok (.int kvs.length) st := rfl
theorem ev_abs : oAbs [.int i] st = .ok (.int (if i < 0 then -i else i)) st := rfl
theorem ev_min2 : oMin2 [.int i, .int j] st = .ok (.int (if j < i then j else i)) st := rfl
theorem ev_max2 : oMax2 [.int i, .int j] st = .ok (.int (if j > i then j else i)) st := rfl
theorem ev_intI : oInt [.int i] st = .ok (.int i) st := rfl
theorem ev_intB {c : Bool} : oInt [.bl c] st = .ok (.int (if c then 1 else 0)) st := rfl
theorem ev_set {n : Nat} {o : AO} : (st.set n o)[n]? = Function.const AO o <$> st[n]? := List.getElem?_set_self'
theorem ev_fc {o o' : AO} : Function.const AO o <$> some o' = some o := rfl
theorem ev_setset {n : Nat} {o o' : AO} : (st.set n o).set n o' = st.set n o' := List.set_set ..
theorem ev_last {st : Sto} {o : AO} : (st ++ [o])[st.length]? = some o := by simp
theorem ev_appk {st l : Sto} {k : Nat} : (st ++ l)[st.length + k]? = l[k]? := by
  rw [List.getElem?_append_right (by omega)]
  congr 1
  omega
theorem ev_app0 {st l : Sto} : (st ++ l)[st.length]? = l[0]? := by
  rw [List.getElem?_append_right (Nat.le_refl _), Nat.sub_self]
theorem ev_setk {st l : Sto} {k : Nat} {o : AO} : (st ++ l).set (st.length + k) o = st ++ l.set k o := by
  rw [List.set_append, if_neg (by omega)]
  congr 2
  omega
theorem ev_set0 {st l : Sto} {o : AO} : (st ++ l).set st.length o = st ++ l.set 0 o := by
  rw [List.set_append, if_neg (by omega), Nat.sub_self]
theorem ev_assoc {a b c : Sto} : (a ++ b) ++ c = a ++ (b ++ c) := List.append_assoc ..
theorem ev_lapp {a b : Sto} : (a ++ b).length = a.length + b.length := List.length_append
theorem ev_lappA {a b : List A} : (a ++ b).length = a.length + b.length := List.length_append
end

/-! ### mirrors: in of a tuple of any data, == of an empty list, len(set(..)), texts, swaps -/
section
variable {w : World} {W : WishX} {X : Cx}
def rInTD (K : PySem.W.Frag) : R2 := fun x y H Q => ∃ d ds, Dp K H x d ∧ Dp K H y (.tuple ds) ∧ SeqAt.shaped d = true ∧ SeqAt.shaped (.tuple ds) = true ∧ Q (.bl (ds.any fun z => PyData.eqv z d)) H
def rNotInTD (K : PySem.W.Frag) : R2 := fun x y H Q => ∃ d ds, Dp K H x d ∧ Dp K H y (.tuple ds) ∧ SeqAt.shaped d = true ∧ SeqAt.shaped (.tuple ds) = true ∧ Q (.bl (!ds.any fun z => PyData.eqv z d)) H
theorem op_inTD (hu : X.A.units + 65 < cLine) : OpR X (compareOp .In) (rInTD X.K) := by
  intro pins s σ H x y v u Q I rx ry h
  obtain ⟨d, ds, hd, he, sd, se, q⟩ := h
  obtain ⟨as, r1⟩ := Dp.reads I d x v hd rx
  obtain ⟨bs, r2⟩ := Dp.reads I (.tuple ds) y u he ry
  exact SeqAt.in_tuple_reads r2 r1 (SeqAt.canLay_of_shaped se) (SeqAt.canLay_of_shaped sd) (room_in_shaped sd hu) ⟨.bl _, H, I, rfl, q⟩
theorem op_notInTD (hu : X.A.units + 65 < cLine) : OpR X (compareOp .NotIn) (rNotInTD X.K) := by
  intro pins s σ H x y v u Q I rx ry h
  obtain ⟨d, ds, hd, he, sd, se, q⟩ := h
  obtain ⟨as, r1⟩ := Dp.reads I d x v hd rx
  obtain ⟨bs, r2⟩ := Dp.reads I (.tuple ds) y u he ry
  exact SeqAt.notIn_tuple_reads r2 r1 (SeqAt.canLay_of_shaped se) (SeqAt.canLay_of_shaped sd) (room_in_shaped sd hu) ⟨.bl _, H, I, rfl, q⟩
def inTD (st : Sto) (a b : A) : Option Bool := match dat st deep a, dat st deep b with
  | some d, some (.tuple ds) => if SeqAt.shaped d = true ∧ SeqAt.shaped (.tuple ds) = true then some (ds.any fun z => PyData.eqv z d) else none
  | _, _ => none
def oInTD : A → A → Sto → Res A := fun a b st => lift ((inTD st a b).map A.bl) st
def oNotInTD : A → A → Sto → Res A := fun a b st => lift ((inTD st a b).map fun c => A.bl (!c)) st
theorem r2_inTD : R2ok K w (rInTD K) oInTD := fun ρ H st x y a b Q X rel ra rb p => by
  unfold oInTD inTD at p
  split at p
  · rename_i d ds e1 e2
    split at p
    · rename_i hs
      exact ⟨_, _, dat_dp rel _ _ _ _ ra e1, dat_dp rel _ _ _ _ rb e2, hs.1, hs.2, p.give rel (.bl _)⟩
    · exact p.elim
  · exact p.elim
theorem r2_notInTD : R2ok K w (rNotInTD K) oNotInTD := fun ρ H st x y a b Q X rel ra rb p => by
  unfold oNotInTD inTD at p
  split at p
  · rename_i d ds e1 e2
    split at p
    · rename_i hs
      exact ⟨_, _, dat_dp rel _ _ _ _ ra e1, dat_dp rel _ _ _ _ rb e2, hs.1, hs.2, p.give rel (.bl _)⟩
    · exact p.elim
  · exact p.elim
def tupDeep (a b : A) : Bool := isTup b && !flatA a
def rInX (K : PySem.W.Frag) : R2 := rOr (rInTD K) (rInAny K)
theorem dInX (hu : X.A.units + 65 < cLine) : OpR X (compareOp .In) (rInX X.K) := OpR.or (op_inTD hu) (dIn hu)
def oInX : A → A → Sto → Res A := oOr tupDeep oInTD oIn
theorem r2_inX : R2ok K w (rInX K) oInX := r2_or r2_inTD r2_in
def rNotInX (K : PySem.W.Frag) : R2 := rOr (rNotInTD K) (rNotInAny K)
theorem dNotInX (hu : X.A.units + 65 < cLine) : OpR X (compareOp .NotIn) (rNotInX X.K) := OpR.or (op_notInTD hu) (dNotIn hu)
def oNotInX : A → A → Sto → Res A := oOr tupDeep oNotInTD oNotIn
theorem r2_notInX : R2ok K w (rNotInX K) oNotInX := r2_or r2_notInTD r2_notIn
/-! == [] -/
def rEqNil (K : PySem.W.Frag) : R2 := fun x y H Q => ∃ a b xs, x = .ref a ∧ y = .ref b ∧ SqL K H a xs ∧ SqL K H b [] ∧ Q (.bl xs.isEmpty) H
def rNeNil (K : PySem.W.Frag) : R2 := fun x y H Q => ∃ a b xs, x = .ref a ∧ y = .ref b ∧ SqL K H a xs ∧ SqL K H b [] ∧ Q (.bl (!xs.isEmpty)) H
/-- both lists, the second empty: else it is no -/
def nilA (st : Sto) (a b : A) : Option Bool := match getL st a, getL st b with
  | some xs, some [] => some xs.isEmpty
  | _, _ => none
def oEqX : A → A → Sto → Res A := fun a b st => match nilA st a b with
  | some c => .ok (.bl c) st
  | none => oEq a b st
def oNeX : A → A → Sto → Res A := fun a b st => match nilA st a b with
  | some c => .ok (.bl (!c)) st
  | none => oNe a b st
theorem nilA_is {ρ : List Addr} {H : Hp} {st : Sto} {x y : V} {a b : A} {c : Bool} (rel : Rel K w ρ H st) (ra : Rv K H ρ x a) (rb : Rv K H ρ y b) (e : nilA st a b = some c) : ∃ p q vs, x = .ref p ∧ y = .ref q ∧ SqL K H p vs ∧ SqL K H q [] ∧ vs.isEmpty = c := by
  unfold nilA at e
  split at e
  · rename_i xs e1 e2
    cases e
    obtain ⟨p, vs, rfl, h1, h2⟩ := getL_sq rel ra e1
    obtain ⟨q, us, rfl, h3, h4⟩ := getL_sq rel rb e2
    cases h4
    exact ⟨p, q, vs, rfl, rfl, h1, h3, rvs_empty h2⟩
  · cases e
def rEqX (K : PySem.W.Frag) : R2 := rOr (rEqNil K) (rEqAny K)
def rNeX (K : PySem.W.Frag) : R2 := rOr (rNeNil K) (rNeAny K)
theorem dEqX (hu : X.A.units + 64 < cLine) : OpR X (compareOp .Eq) (rEqX X.K) := OpR.or (op_eqNil (by omega)) (dEq hu)
theorem dNeX (hu : X.A.units + 64 < cLine) : OpR X (compareOp .NotEq) (rNeX X.K) := OpR.or (op_neNil (by omega)) (dNe hu)
theorem r2_eqX : R2ok K w (rEqX K) oEqX := fun ρ H st x y a b Q X rel ra rb p => by
  unfold oEqX at p
  split at p
  · rename_i c e
    obtain ⟨q, q', vs, e1, e2, h1, h2, h3⟩ := nilA_is rel ra rb e
    exact .inl ⟨q, q', vs, e1, e2, h1, h2, p.give rel (by rw [h3]; exact .bl _)⟩
  · exact .inr (r2_eqA ρ H st x y a b Q X rel ra rb p)
theorem r2_neX : R2ok K w (rNeX K) oNeX := fun ρ H st x y a b Q X rel ra rb p => by
  unfold oNeX at p
  split at p
  · rename_i c e
    obtain ⟨q, q', vs, e1, e2, h1, h2, h3⟩ := nilA_is rel ra rb e
    exact .inl ⟨q, q', vs, e1, e2, h1, h2, p.give rel (by rw [h3]; exact .bl _)⟩
  · exact .inr (r2_neA ρ H st x y a b Q X rel ra rb p)
/-! len(set(xs)), xs a list of whole numbers -/
def ddup (ns : List Int) : List Int := firstMet (fun i => ns.getD i 0) ns.length
def tLenSet (K : PySem.W.Frag) (ta : TE) : TE := fun σ H Q => ta σ H fun x H1 => ∃ (l : Addr) (ns : List Int), x = V.ref l ∧ SqL K H1 l (ns.map V.int) ∧ ns.length ≤ 4000 ∧ Q (.int ((ddup ns).length : Nat)) H1
theorem pe_lenSet {a : Expr} {ta : TE} {p p2 q pos : Pos} (hc : X.calm = true) (hg : Gl X "len") (hm : X.mg "len" = none) (hg2 : Gl X "set") (hm2 : X.mg "set" = none) (ha : PE X a ta)
    (na : starEach [a] X.env = (false, eval a X.env) :: starEach [] X.env := by rfl) : PE X (.Call (.Name "len" p) [.Call (.Name "set" p2) [a] [] q] [] pos) (tLenSet X.K ta) := by
  refine ⟨fun pins s σ H Q I h => ?_⟩
  refine Call_ (ld_blt I hg hm PySem.boot_len ?_)
  refine PyProof.Rows.callWith_builtin1 (PyProof.Rows.args_cons ?_ rfl) rfl rfl
  refine Call_ (ld_blt I hg2 hm2 PyProof.Rows.boot_set ?_)
  refine PyProof.Rows.callWith_type1 (PyProof.Rows.args_cons (thn (ha.run pins s σ H _ I h) fun v s1 ⟨x, H1, I1, r1, q1⟩ => PyProof.Rows.args_nil ?_) na) na rfl
  obtain ⟨l, ns, rfl, hq, h1, q1⟩ := q1
  cases r1
  obtain ⟨its, r, pl, hz⟩ := I1.list hq
  have hl : its.toArray.size = ns.length := by rw [List.size_toArray, ← r.length, List.length_map]
  have hle := firstMet_length_le (fun i => ns.getD i 0) ns.length
  refine call_set_list (I1.ok.hd hc) pl.isList (ns := ns) (by simpa using r.ints) (by unfold scanBound; omega) fun h' tk hS hk => ?_
  rw [hl] at hS
  refine PyProof.Rows.args_nil ?_
  obtain ⟨o, es, ep, t, ho, hex, hd, _, _, _, hf, hn⟩ := hS
  have I2 : Inv X pins σ H1 { s1 with heap := h', toks := tk } := I1.kept fun b o e => hk b o (Heap.lt_size e) e
  refine call_len_set ho hex hd hf (by rw [hn] <;> omega) ⟨.int ((ddup ns).length : Nat), H1, I2.tok _, ⟨_, by rw [hn]; rfl⟩, q1⟩
def intsOf : List A → Option (List Int)
  | [] => some []
  | .int i :: xs => (intsOf xs).map (i :: ·)
  | _ => none
theorem ints_is {ρ : List Addr} {H : Hp} : ∀ {vs : List V} {xs : List A} {ns : List Int}, Rvs K H ρ vs xs → intsOf xs = some ns → vs = ns.map V.int
  | _, _, _, .nil, e => by cases e; rfl
  | _, _, _, .cons h hs, e => by
    cases h with
    | int b =>
      obtain ⟨cs, e1, rfl⟩ := Option.map_eq_some_iff.mp (show (intsOf _).map (b :: ·) = some _ from e)
      rw [ints_is hs e1]
      rfl
    | _ => cases e
def lenSetK (o : Option (List Int)) (s : Sto) : Res A := match o with
  | some ns => if ns.length ≤ 4000 then .ok (.int ((ddup ns).length : Nat)) s else .no
  | none => .no
def mLenSet (f : ME) : ME := fun env st => (f env st).bind fun a s => lenSetK ((getL s a).bind intsOf) s
theorem re_lenSet {t : TE} {f : ME} (hf : RE K w W t f) : RE K w W (tLenSet K t) (mLenSet f) := fun ρ H st σ env Q rel re p =>
  hf.use rel re p fun a s1 ρ1 H1 x e1 r1 v1 p1 => by
    unfold lenSetK at p1
    split at p1
    · rename_i ns e
      split at p1
      · rename_i hl
        obtain ⟨xs, e2, e3⟩ := Option.bind_eq_some_iff.mp e
        obtain ⟨q, us, rfl, h1, h2⟩ := getL_sq r1 v1 e2
        have := ints_is h2 e3
        subst this
        exact ⟨q, ns, rfl, h1, hl, p1.give r1 (.int _)⟩
      · exact p1.elim
    · exact p1.elim
/-! methods of texts -/
def mM0 (g : Str → Option A) (f : ME) : ME := fun env st => (f env st).bind fun a s => match a with
  | .str z => lift (g z) s
  | _ => .no
theorem re_upper {t : TE} {f : ME} (hf : RE K w W t f) : RE K w W (tM0 (fun x xs H Q => ∃ a, x = .str a ∧ xs = [] ∧ a.length ≤ 5592405 ∧ Q (.str (Txt.upper a)) H) t) (mM0 (fun z => if z.length ≤ 5592405 then some (.str (Txt.upper z)) else none) f) := fun ρ H st σ env Q rel re p =>
  hf.use rel re p fun a s1 ρ1 H1 x e1 r1 v1 p1 => by
    split at p1
    · cases v1
      simp only at p1
      split at p1
      · rename_i hl
        exact ⟨⟨_, rfl⟩, _, rfl, rfl, hl, p1.give r1 (.str _)⟩
      · exact p1.elim
    · exact p1.elim
def strsOf : List A → Option (List Str)
  | [] => some []
  | .str i :: xs => (strsOf xs).map (i :: ·)
  | _ => none
theorem strs_is {ρ : List Addr} {H : Hp} : ∀ {vs : List V} {xs : List A} {ns : List Str}, Rvs K H ρ vs xs → strsOf xs = some ns → vs = ns.map V.str
  | _, _, _, .nil, e => by cases e; rfl
  | _, _, _, .cons h hs, e => by
    cases h with
    | str b =>
      obtain ⟨cs, e1, rfl⟩ := Option.map_eq_some_iff.mp (show (strsOf _).map (b :: ·) = some _ from e)
      rw [strs_is hs e1]
      rfl
    | _ => cases e
def joinK (z : Str) (o : Option (List Str)) (s : Sto) : Res A := match o with
  | some ys => if (ys.map (·.length)).sum + ys.length * z.length ≤ 16777216 then .ok (.str (Txt.join z ys)) s else .no
  | none => .no
def joinG (g : ME) (env : AEnv) (z : A) (s1 : Sto) : Res A := match z with
  | .str z => (g env s1).bind fun a s => joinK z ((getS s a).bind strsOf) s
  | _ => .no
def mJoin (f g : ME) : ME := fun env st => (f env st).bind (joinG g env)
theorem re_join {t u : TE} {f g : ME} (hf : RE K w W t f) (hg : RE K w W u g) : RE K w W (tM1 (fun x xs H Q => ∃ a p, ∃ ys : List Str, x = .str a ∧ xs = [.ref p] ∧ (SqL K H p (ys.map V.str) ∨ SqT K H p (ys.map V.str)) ∧ (ys.map (·.length)).sum + ys.length * a.length ≤ 16777216 ∧ Q (.str (Txt.join a ys)) H) t u) (mJoin f g) := fun ρ H st σ env Q rel re p =>
  hf.use rel re p fun z s1 ρ1 H1 x e1 r1 v1 p1 => by
    unfold joinG at p1
    split at p1
    · rename_i c
      cases v1
      refine ⟨⟨_, rfl⟩, hg.use r1 (re.ext e1) p1 fun a s2 ρ2 H2 y e2 r2 v2 p2 => ?_⟩
      unfold joinK at p2
      split at p2
      · rename_i ys e
        split at p2
        · rename_i hl
          obtain ⟨xs, e3, e4⟩ := Option.bind_eq_some_iff.mp e
          obtain ⟨q, us, rfl, h1, h2⟩ := getS_sq r2 v2 e3
          have := strs_is h2 e4
          subst this
          exact ⟨c, q, ys, rfl, rfl, h1, hl, p2.give r2 (.str _)⟩
        · exact p2.elim
      · exact p2.elim
    · exact p1.elim
/-! two items of a list put at once: xs[i], ys[j] = a pair -/
def put1 (x y a : A) (s : Sto) : Option Sto := match y, getM s x with
  | .int k, some (n, xs) => (ixN xs.length k).map fun j => s.set n (.lst (xs.set j a))
  | _, _ => none
def sPut2 (f o i o' i' : ME) : MS := fun env st => (f env st).thenS env fun a s0 => match a with
  | .tup [a1, a2] => (o env s0).thenS env fun x s1 => (i env s1).thenS env fun y s2 => match put1 x y a1 s2 with
    | some s3 => (o' env s3).thenS env fun x' s4 => (i' env s4).thenS env fun y' s5 => match put1 x' y' a2 s5 with
      | some s6 => .fl (.nx env) s6
      | none => .no
    | none => .no
  | _ => .no
theorem put1_is {ρ : List Addr} {H : Hp} {s s' : Sto} {x y a : A} {vx vy va : V} {Q : Hp → Prop} (rel : Rel K w ρ H s) (hx : Rv K H ρ vx x) (hy : Rv K H ρ vy y) (ha : Rv K H ρ va a) (e : put1 x y a s = some s') (q : ∀ H', Ext ρ ρ H H' → Rel K w ρ H' s' → Q H') : L2.rSetL vx vy va H Q := by
  unfold put1 at e
  split at e
  · rename_i k n xs em
    cases hy
    obtain ⟨p, vs, rfl, hq, h1, h2⟩ := getM_is rel hx em
    obtain ⟨j, ej, rfl⟩ := Option.map_eq_some_iff.mp e
    obtain ⟨e4, r4⟩ := set_put rel hq (h2.set ha j)
    exact ⟨p, vs, k, j, rfl, rfl, h1, by rw [h2.length]; exact ej, q _ e4 r4⟩
  · cases e
theorem rs_put2 {ta to ti to' ti' : TE} {f o i o' i' : ME} (hf : RE K w W ta f) (ho : RE K w W to o) (hi : RE K w W ti i) (ho' : RE K w W to' o') (hi' : RE K w W ti' i') : RS K w W (tAsg ta (gTup K 2 (gCons (gSub to ti L2.rSetL) (gCons (gSub to' ti' L2.rSetL) gNil)))) (sPut2 f o i o' i') := fun ρ H st σ env D rel re p =>
  hf.useS rel re p fun a s1 ρ1 H1 x e1 r1 v1 p1 => by
    split at p1
    · rename_i a1 a2
      obtain ⟨q, vs, rfl, h1, h2⟩ := getT_sq v1 rfl
      obtain ⟨u1, u2, rfl, h3, h4⟩ := rvs2 h2
      refine ⟨q, _, rfl, h1, rfl, _, _, rfl, ho.useS r1 (re.ext e1) p1 fun b s2 ρ2 H2 y e2 r2 v2 p2 => hi.useS r2 (re.ext (e1.trans e2)) p2 fun c s3 ρ3 H3 z e3 r3 v3 p3 => ?_⟩
      split at p3
      · rename_i s4 e4
        refine put1_is r3 (rv_ext e3 v2) v3 (rv_ext (e2.trans e3) h3) e4 fun H4 x4 r4 => ?_
        refine ⟨_, _, rfl, ho'.useS r4 (re.ext (e1.trans (e2.trans (e3.trans x4)))) (PostS.ext p3 x4) fun b' s5 ρ5 H5 y' e5 r5 v5 p5 => hi'.useS r5 (re.ext (e1.trans (e2.trans (e3.trans (x4.trans e5))))) p5 fun c' s6 ρ6 H6 z' e6 r6 v6 p6 => ?_⟩
        split at p6
        · rename_i s7 e7
          refine put1_is r6 (rv_ext e6 v5) v6 (rv_ext (e2.trans (e3.trans (x4.trans (e5.trans e6)))) h4) e7 fun H7 x7 r7 => ?_
          exact ⟨rfl, p6 ρ6 H7 σ x7 r7 (re.ext (e1.trans (e2.trans (e3.trans (x4.trans (e5.trans (e6.trans x7)))))))⟩
        · exact p6.elim
      · exact p3.elim
    · exact p1.elim
/-! list(range(n)) -/
def mListR (f : ME) : ME := fun env st => (f env st).bind fun a s => match a with
  | .int n => if 0 ≤ n ∧ n ≤ 1000 then newO (.lst (rngA 0 n.toNat)) s else .no
  | _ => .no
theorem rvs_map {α : Type} {ρ : List Addr} {H : Hp} {f : α → V} {g : α → A} (h : ∀ x, Rv K H ρ (f x) (g x)) : ∀ l : List α, Rvs K H ρ (l.map f) (l.map g)
  | [] => .nil
  | x :: l => .cons (h x) (rvs_map h l)
theorem rgV_is {ρ : List Addr} {H : Hp} {n : Int} : Rvs K H ρ (rgV 0 n) (rngA 0 n.toNat) := by
  unfold rgV rngA
  rw [Int.sub_zero]
  exact rvs_map (fun _ => .int _) _
theorem re_listR {t : TE} {f : ME} (hf : RE K w W t f) : RE K w W (tLstRg (tRg1 t)) (mListR f) := fun ρ H st σ env Q rel re p =>
  hf.use rel re p fun a s1 ρ1 H1 x e1 r1 v1 p1 => by
    split at p1
    · rename_i n
      cases v1
      split at p1
      · rename_i hn
        exact ⟨n, rfl, ⟨by decide, by decide, by omega, by omega, by omega⟩, fun q nq => post_newL r1 rgV_is p1 q nq⟩
      · exact p1.elim
    · exact p1.elim
def oInsert : List A → List A → Option (A × List A) := fun xs as => match as with
  | [.int i, a] => if xs.length < sizeLine ∧ 0 ≤ i ∧ i < 2 ^ 63 then some (.non, xs.take i.toNat ++ [a] ++ xs.drop i.toNat) else none
  | _ => none
theorem rm_insert : RMok K (fun x vs H Q => ∃ (l : Addr) (xs : List V) (i : Int) (y : V), x = .ref l ∧ vs = [.int i, y] ∧ H l = some (.lst xs) ∧ xs.length < sizeLine ∧ 0 ≤ i ∧ i < 2 ^ 63 ∧ Q .non (upd H l (.lst (xs.take i.toNat ++ [y] ++ xs.drop i.toNat)))) oInsert := fun ρ H l xs as vs us a ys Q h1 h2 h3 e q => by
  unfold oInsert at e
  split at e
  · split at e
    · rename_i hl
      cases e
      obtain ⟨u, v, rfl, h4, h5⟩ := rvs2 h3
      cases h4
      exact ⟨l, vs, _, v, rfl, rfl, h1, by rw [h2.length]; exact hl.1, hl.2.1, hl.2.2, q _ _ .non (((h2.take _).append (.cons h5 .nil)).append (h2.drop _))⟩
    · cases e
  · cases e
end

/-! ### mirrors: how they go, further -/
section
variable {α β : Type} {a b : A} {s st : Sto} {env e : AEnv} {i j : Int} {x y : Str} {xs ys : List A}
theorem ev_sl {op : A → Option Int → Option Int → Sto → Res A} {f : ME} {l h : MO} : mSl op f l h env st = (f env st).bind fun x s1 => (l env s1).bind fun lo s2 => (h env s2).bind fun hi s3 => op x lo hi s3 := rfl
theorem ev_nopart : mNoPart env st = .ok none st := rfl
def ptK (a : A) (s : Sto) : Res (Option Int) := match a with
  | .int i => .ok (some i) s
  | _ => .no
theorem ev_part {f : ME} : mPart f env st = (f env st).bind ptK := rfl
theorem ev_ptK : ptK (.int i) s = .ok (some i) s := rfl
theorem ev_slT {lo hi : Option Int} : oSl (.tup xs) lo hi st = .ok (.tup (cutA xs lo hi)) st := rfl
theorem ev_slS {lo hi : Option Int} : oSl (.str x) lo hi st = if x.length ≤ sizeLine then .ok (.str (cutS x lo hi)) st else .no := rfl
def slK (o : Option (List A)) (lo hi : Option Int) (st : Sto) : Res A := match o with
  | some xs => newO (.lst (cutA xs lo hi)) st
  | none => .no
theorem ev_slR {n : Nat} {lo hi : Option Int} : oSl (.ref n) lo hi st = slK (getL st (.ref n)) lo hi st := rfl
theorem ev_slK {lo hi : Option Int} : slK (some xs) lo hi st = newO (.lst (cutA xs lo hi)) st := rfl
theorem ev_tyN : tyA st .non = some "NoneType" := rfl
theorem ev_tyB {c : Bool} : tyA st (.bl c) = some "bool" := rfl
theorem ev_tyI : tyA st (.int i) = some "int" := rfl
theorem ev_tyS : tyA st (.str x) = some "str" := rfl
theorem ev_tyT : tyA st (.tup xs) = some "tuple" := rfl
theorem ev_tyL : tyA st (.lit xs) = some "list" := rfl
def tyR (o : Option AO) : Option String := match o with
  | some (.lst _) => some "list"
  | _ => none
theorem ev_tyR {n : Nat} : tyA st (.ref n) = tyR st[n]? := rfl
theorem ev_tyRL : tyR (some (.lst xs)) = some "list" := rfl
def isiK (o : Option String) (T : String) (st : Sto) : Res A := match o with
  | some t => if T ∈ ["int", "bool", "str", "tuple", "list"] then .ok (.bl (isTy t T)) st else .no
  | none => .no
theorem ev_isi {T : String} : oIsi [a, .ty T] st = isiK (tyA st a) T st := rfl
theorem ev_isi1 {t : String} : isiK (some t) "int" st = .ok (.bl (isTy t "int")) st := by
  unfold isiK
  exact if_pos (by decide)
theorem ev_isi2 {t : String} : isiK (some t) "bool" st = .ok (.bl (isTy t "bool")) st := by
  unfold isiK
  exact if_pos (by decide)
theorem ev_isi3 {t : String} : isiK (some t) "str" st = .ok (.bl (isTy t "str")) st := by
  unfold isiK
  exact if_pos (by decide)
theorem ev_isi4 {t : String} : isiK (some t) "tuple" st = .ok (.bl (isTy t "tuple")) st := by
  unfold isiK
  exact if_pos (by decide)
theorem ev_isi5 {t : String} : isiK (some t) "list" st = .ok (.bl (isTy t "list")) st := by
  unfold isiK
  exact if_pos (by decide)
def isi2K (S T : String) (o : Option String) (s : Sto) : Res A := match o with
  | some t => if S ∈ ["int", "bool", "str", "tuple", "list"] ∧ T ∈ ["int", "bool", "str", "tuple", "list"] then .ok (.bl (isTy t S || isTy t T)) s else .no
  | none => .no
theorem ev_isiT {S T : String} {f : ME} : mIsiT S T f env st = (f env st).bind fun a s => isi2K S T (tyA s a) s := rfl
theorem ev_isi2K {t : String} : isi2K "tuple" "list" (some t) s = .ok (.bl (isTy t "tuple" || isTy t "list")) s := by
  unfold isi2K
  exact if_pos (by decide)
theorem ev_isTy {t T : String} : isTy t T = (t == T || (T == "int" && t == "bool")) := rfl
def listK (o : Option (List A)) (st : Sto) : Res A := match o with
  | some xs => newO (.lst xs) st
  | none => .no
theorem ev_list : oList [a] st = listK (getS st a) st := rfl
theorem ev_listK : listK (some xs) st = newO (.lst xs) st := rfl
def tupK (o : Option (List A)) (st : Sto) : Res A := match o with
  | some xs => .ok (.tup xs) st
  | none => .no
theorem ev_tuple : oTuple [a] st = tupK (getS st a) st := rfl
theorem ev_tupK : tupK (some xs) st = .ok (.tup xs) st := rfl
theorem ev_getST : getS st (.tup xs) = some xs := rfl
theorem ev_getSR {n : Nat} : getS st (.ref n) = getL st (.ref n) := rfl
theorem ev_getSL : getS st (.lit xs) = some xs := rfl
def allK (g : List Bool → Bool) (o : Option (List A)) (st : Sto) : Res A := match o with
  | some xs => lift ((bls xs).map fun bs => A.bl (g bs)) st
  | none => .no
theorem ev_all {g : List Bool → Bool} : oAll g [a] st = allK g (getL st a) st := rfl
theorem ev_allK {g : List Bool → Bool} : allK g (some xs) st = lift ((bls xs).map fun bs => A.bl (g bs)) st := rfl
theorem ev_eqXI : oEqX (.int i) (.int j) st = .ok (.bl (decide (i = j))) st := rfl
theorem ev_eqXS : oEqX (.str x) (.str y) st = .ok (.bl (decide (x = y))) st := rfl
theorem ev_neXI : oNeX (.int i) (.int j) st = .ok (.bl (!decide (i = j))) st := rfl
theorem ev_neXS : oNeX (.str x) (.str y) st = .ok (.bl (!decide (x = y))) st := rfl
theorem ev_neXB {c d : Bool} : oNeX (.bl c) (.bl d) st = .ok (.bl (!decide (c = d))) st := rfl
theorem ev_eqXB {c d : Bool} : oEqX (.bl c) (.bl d) st = .ok (.bl (decide (c = d))) st := rfl
def nil2 (o o' : Option (List A)) : Option Bool := match o, o' with
  | some xs, some [] => some xs.isEmpty
  | _, _ => none
def eqK (o : Option Bool) (a b : A) (st : Sto) : Res A := match o with
  | some c => .ok (.bl c) st
  | none => oEq a b st
def neK (o : Option Bool) (a b : A) (st : Sto) : Res A := match o with
  | some c => .ok (.bl (!c)) st
  | none => oNe a b st
theorem ev_eqXR {n m : Nat} : oEqX (.ref n) (.ref m) st = eqK (nil2 (gL st[n]?) (gL st[m]?)) (.ref n) (.ref m) st := rfl
theorem ev_neXR {n m : Nat} : oNeX (.ref n) (.ref m) st = neK (nil2 (gL st[n]?) (gL st[m]?)) (.ref n) (.ref m) st := rfl
theorem ev_nil2 : nil2 (some xs) (some []) = some xs.isEmpty := rfl
theorem ev_eqK {c : Bool} : eqK (some c) a b st = .ok (.bl c) st := rfl
theorem ev_neK {c : Bool} : neK (some c) a b st = .ok (.bl (!c)) st := rfl
def mth1 (o : Option (Nat × List A)) (k : Res A) : Res A := match o with
  | some _ => k
  | none => .no
def mth3 (o : Option (A × List A)) (n : Nat) (s : Sto) : Res A := match o with
  | some (a, ys) => .ok a (s.set n (.lst ys))
  | none => .no
def mth2 (o : Option (Nat × List A)) (op : List A → List A → Option (A × List A)) (as : List A) (s : Sto) : Res A := match o with
  | some (n, xs) => mth3 (op xs as) n s
  | none => .no
theorem ev_meth {op : List A → List A → Option (A × List A)} {f : ME} {g : MA} : mMeth op f g env st = (f env st).bind fun x s1 => mth1 (getM s1 x) ((g env s1).bind fun as s2 => mth2 (getM s2 x) op as s2) := by
  unfold mMeth
  congr 1
  funext x s1
  unfold mth1
  split <;> rename_i h
  · rw [h]
  · rw [h]
    first | rfl | congr 1
theorem ev_meth0 {op : List A → List A → Option (A × List A)} {f : ME} : mMeth0 op f env st = (f env st).bind fun x s1 => mth1 (getM s1 x) (mth2 (getM s1 x) op [] s1) := by
  unfold mMeth0
  rw [ev_meth]
  rfl
theorem ev_mth1 {q : Nat × List A} {k : Res A} : mth1 (some q) k = k := rfl
theorem ev_mth2 {n : Nat} {op : List A → List A → Option (A × List A)} {as : List A} : mth2 (some (n, xs)) op as s = mth3 (op xs as) n s := rfl
theorem ev_mth3 {n : Nat} : mth3 (some (a, ys)) n s = .ok a (s.set n (.lst ys)) := rfl
theorem ev_append : oAppend xs [a] = if xs.length < sizeLine then some (.non, xs ++ [a]) else none := rfl
def m0K (g : Str → Option A) (a : A) (s : Sto) : Res A := match a with
  | .str z => lift (g z) s
  | _ => .no
theorem ev_m0 {g : Str → Option A} {f : ME} : mM0 g f env st = (f env st).bind (m0K g) := rfl
theorem ev_m0K {g : Str → Option A} : m0K g (.str x) s = lift (g x) s := rfl
theorem ev_str : oStr [.int i] st = if i.natAbs.log2 < 1920 then .ok (.str (toString i)) st else .no := rfl
theorem ev_for {mi : MI} {g : MG} {b : MS} : sFor mi g b env st = (mi env st).thenS env fun xo s => forL xo.2 g b xo.1 env s := rfl
def okT : Sto → Prop := fun _ => True
def rg1K (as : List A) (s : Sto) : Res (List A × (Sto → Prop)) := match as with
  | [.int j] => if -(2 ^ 62) ≤ j ∧ j < 2 ^ 62 then .ok (rngA 0 j.toNat, okT) s else .no
  | _ => .no
theorem ev_miR1 {f : MA} : miR1 f env st = (f env st).bind rg1K := rfl
theorem ev_rg1K : rg1K [.int j] s = if -(2 ^ 62) ≤ j ∧ j < 2 ^ 62 then .ok (rngA 0 j.toNat, okT) s else .no := rfl
def okL (a : A) (xs : List A) : Sto → Prop := fun s' => getL s' a = some xs
def liK (a : A) (o : Option (List A)) (s : Sto) : Res (List A × (Sto → Prop)) := match o with
  | some xs => .ok (xs, fun s' => getL s' a = some xs) s
  | none => .no
theorem ev_miL {f : ME} : miL f env st = (f env st).bind fun a s => liK a (getL s a) s := rfl
theorem ev_liK : liK a (some xs) s = .ok (xs, okL a xs) s := rfl
def tiK (a : A) (s : Sto) : Res (List A × (Sto → Prop)) := match a with
  | .tup xs => .ok (xs, fun _ => True) s
  | _ => .no
theorem ev_miT {f : ME} : miT f env st = (f env st).bind tiK := rfl
theorem ev_tiK : tiK (.tup xs) s = .ok (xs, okT) s := rfl
theorem ev_lc {mi : MI} {g : MG} {tt : MT} {te : ME} {vs : List Nat} : mLc mi g tt te vs env st = (mi env st).bind fun xo s => lcL s.length xo.2 g tt te (wipeA env vs) xo.1 (s ++ [.lst []]) := rfl
theorem ev_wipe0 : wipeA env [] = env := rfl
theorem ev_wipeS {v : Nat} {vs : List Nat} : wipeA env (v :: vs) = (wipeA env vs).set v none := rfl
theorem ev_yes : mYes env st = .ok true st := rfl
theorem ev_lenSet {f : ME} : mLenSet f env st = (f env st).bind fun a s => lenSetK ((getL s a).bind intsOf) s := rfl
theorem ev_lenSetK {ns : List Int} : lenSetK (some ns) s = if ns.length ≤ 4000 then .ok (.int ((ddup ns).length : Nat)) s else .no := rfl
def lrK (a : A) (s : Sto) : Res A := match a with
  | .int n => if 0 ≤ n ∧ n ≤ 1000 then newO (.lst (rngA 0 n.toNat)) s else .no
  | _ => .no
theorem ev_listR {f : ME} : mListR f env st = (f env st).bind lrK := rfl
theorem ev_lrK : lrK (.int i) s = if 0 ≤ i ∧ i ≤ 1000 then newO (.lst (rngA 0 i.toNat)) s else .no := rfl
def pt1 (y : A) (m : Option (Nat × List A)) (a : A) (s : Sto) : Option Sto := match y, m with
  | .int k, some (n, xs) => (ixN xs.length k).map fun j => s.set n (.lst (xs.set j a))
  | _, _ => none
def p2K (o' i' : ME) (env : AEnv) (a2 : A) (r : Option Sto) : RF := match r with
  | some s3 => (o' env s3).thenS env fun x' s4 => (i' env s4).thenS env fun y' s5 => match put1 x' y' a2 s5 with
    | some s6 => .fl (.nx env) s6
    | none => .no
  | none => .no
def p2A (o i o' i' : ME) (env : AEnv) (a : A) (s0 : Sto) : RF := match a with
  | .tup [a1, a2] => (o env s0).thenS env fun x s1 => (i env s1).thenS env fun y s2 => p2K o' i' env a2 (put1 x y a1 s2)
  | _ => .no
def p2E (r : Option Sto) (env : AEnv) : RF := match r with
  | some s6 => .fl (.nx env) s6
  | none => .no
theorem ev_put2 {f o i o' i' : ME} : sPut2 f o i o' i' env st = (f env st).thenS env fun a s0 => p2A o i o' i' env a s0 := rfl
theorem ev_p2A {o i o' i' : ME} {a1 a2 : A} : p2A o i o' i' env (.tup [a1, a2]) s = (o env s).thenS env fun x s1 => (i env s1).thenS env fun y s2 => p2K o' i' env a2 (put1 x y a1 s2) := rfl
theorem ev_p2K {o' i' : ME} {a2 : A} : p2K o' i' env a2 (some s) = (o' env s).thenS env fun x' s4 => (i' env s4).thenS env fun y' s5 => p2E (put1 x' y' a2 s5) env := rfl
theorem ev_p2E : p2E (some s) env = .fl (.nx env) s := rfl
theorem ev_put1 {n : Nat} : put1 (.ref n) (.int j) a s = pt1 (.int j) (gM n s[n]?) a s := rfl
theorem ev_pt1 {n k : Nat} (h : ixN xs.length j = some k) : pt1 (.int j) (some (n, xs)) a s = some (s.set n (.lst (xs.set k a))) := by
  unfold pt1
  simp only [h]
  rfl
end

def rTupOf (K : PySem.W.Frag) : RL := fun xs H Q => ∃ p ys, xs = [.ref p] ∧ ((SqL K H p ys ∧ ∀ l, H l = none → Q (.ref l) (upd H l (.tup ys))) ∨ SqT K H p ys ∧ Q (.ref p) H)
def rListOf (K : PySem.W.Frag) : RL := fun xs H Q => ∃ p ys, xs = [.ref p] ∧ (SqL K H p ys ∨ SqT K H p ys) ∧ ∀ l, H l = none → Q (.ref l) (upd H l (.lst ys))
/-! ### mirrors: truths among numbers -/
section
variable {w : World} {W : WishX} {X : Cx}
def isBl : A → Bool
  | .bl _ => true
  | _ => false
def rBI (g : Int → Int → Int) : R2 := fun x y H Q => ∃ k j, x = .bl k ∧ y = .int j ∧ Q (.int (g (b2i k) j)) H
def oBI (g : Int → Int → Int) : A → A → Sto → Res A := fun a b st => match a, b with
  | .bl k, .int j => .ok (.int (g (b2i k) j)) st
  | _, _ => .no
theorem r2_BI {g : Int → Int → Int} : R2ok K w (rBI g) (oBI g) := fun ρ H st x y a b Q X rel ra rb p => by
  unfold oBI at p
  split at p
  · cases ra
    cases rb
    exact ⟨_, _, rfl, rfl, p.give rel (.int _)⟩
  · exact p.elim
theorem opB_add : OpR X (binaryOp .Add) (rBI fun i j => i + j) := by
  intro pins s σ H x y v u Q I rx ry h
  obtain ⟨k, j, rfl, rfl, q⟩ := h
  obtain rfl : v = Value.bool k := rx
  obtain ⟨t, rfl⟩ := ry
  exact PySem.IntBool.add_bool_int ⟨.int (b2i k + j), H, I.tok _, ⟨_, rfl⟩, q⟩
theorem opB_sub : OpR X (binaryOp .Sub) (rBI fun i j => i - j) := by
  intro pins s σ H x y v u Q I rx ry h
  obtain ⟨k, j, rfl, rfl, q⟩ := h
  obtain rfl : v = Value.bool k := rx
  obtain ⟨t, rfl⟩ := ry
  exact PySem.IntBool.sub_bool_int ⟨.int (b2i k - j), H, I.tok _, ⟨_, rfl⟩, q⟩
theorem opB_mul : OpR X (binaryOp .Mult) (rBI fun i j => i * j) := by
  intro pins s σ H x y v u Q I rx ry h
  obtain ⟨k, j, rfl, rfl, q⟩ := h
  obtain rfl : v = Value.bool k := rx
  obtain ⟨t, rfl⟩ := ry
  exact PySem.IntBool.mul_bool_int ⟨.int (b2i k * j), H, I.tok _, ⟨_, rfl⟩, q⟩
def rAddX (K : PySem.W.Frag) : R2 := rOr (rBI fun i j => i + j) (rAddD K)
theorem dAddX : OpR X (binaryOp .Add) (rAddX X.K) := OpR.or opB_add dAdd
def oAddX : A → A → Sto → Res A := oOr (fun a _ => isBl a) (oBI fun i j => i + j) oAdd
theorem r2_addX : R2ok K w (rAddX K) oAddX := r2_or r2_BI r2_add
def rSubX : R2 := rOr (rBI fun i j => i - j) rSubD
theorem dSubX : OpR X (binaryOp .Sub) rSubX := OpR.or opB_sub dSub
def oSubX : A → A → Sto → Res A := oOr (fun a _ => isBl a) (oBI fun i j => i - j) oSub
theorem r2_subX : R2ok K w rSubX oSubX := r2_or r2_BI r2_sub
def rMulX : R2 := rOr (rBI fun i j => i * j) rMulD
theorem dMulX : OpR X (binaryOp .Mult) rMulX := OpR.or opB_mul dMul
def oMulX : A → A → Sto → Res A := oOr (fun a _ => isBl a) (oBI fun i j => i * j) oMul
theorem r2_mulX : R2ok K w rMulX oMulX := r2_or r2_BI r2_mul
def rNegX : V → Hp → VK → Prop := fun x H Q => (∃ i, x = .int i ∧ Q (.int (-i)) H) ∨ ∃ k, x = .bl k ∧ Q (.int (-(b2i k))) H
theorem un_negX : UnR X (unaryOp .USub) rNegX := by
  intro pins s σ H x v Q I rx h
  rcases h with ⟨i, rfl, q⟩ | ⟨k, rfl, q⟩
  · exact un_neg pins s σ H _ v Q I rx ⟨i, rfl, q⟩
  · obtain rfl : v = Value.bool k := rx
    exact unaryOp_gives (op := .USub) (typeIs_bool' s k) rfl F.slot_bool_neg F.entry_int_neg (F.args_int_neg_1 _) (show Gives (Builtin.«int.__neg__» ⟨[.bool k], []⟩) (.int (-(b2i k))) from .of_eq rfl) ⟨.int (-(b2i k)), H, I.tok _, ⟨_, rfl⟩, q⟩
def oNegX : A → Sto → Res A := fun a st => match a with
  | .int i => .ok (.int (-i)) st
  | .bl k => .ok (.int (-(b2i k))) st
  | _ => .no
theorem r1_negX : R1ok K w rNegX oNegX := fun ρ H st x a Q X rel ra p => by
  unfold oNegX at p
  split at p
  · cases ra
    exact .inl ⟨_, rfl, p.give rel (.int _)⟩
  · cases ra
    exact .inr ⟨_, rfl, p.give rel (.int _)⟩
  · exact p.elim
def blS (k : Bool) : Str := if k then "True" else "False"
def rStrX : RL := lOr (fun xs H Q => ∃ i, xs = [.int i] ∧ i.natAbs.log2 < 1920 ∧ Q (.str (toString i)) H) (fun xs H Q => ∃ k, xs = [.bl k] ∧ Q (.str (blS k)) H)
theorem call_strX : CallR X (.type "str") rStrX := CallR.or call_str_int (by
  intro pins s σ H xs us Q I r h
  obtain ⟨k, rfl, q⟩ := h
  obtain ⟨u, rfl, ru⟩ := vals1 r
  obtain rfl : u = Value.bool k := ru
  exact PySem.P.str_of_bool ⟨.str (blS k), H, I.tok _, ⟨_, by cases k <;> rfl⟩, q⟩)
def oStrX : List A → Sto → Res A := fun as st => match as with
  | [.int i] => if i.natAbs.log2 < 1920 then .ok (.str (toString i)) st else .no
  | [.bl k] => .ok (.str (blS k)) st
  | _ => .no
theorem rl_strX : RLok K w rStrX oStrX := fun ρ H st vs as Q X rel rv p => by
  unfold oStrX at p
  split at p
  · obtain ⟨v, rfl, h⟩ := rvs1 rv
    cases h
    split at p
    · rename_i hl
      exact .inl ⟨_, rfl, hl, p.give rel (.str _)⟩
    · exact p.elim
  · obtain ⟨v, rfl, h⟩ := rvs1 rv
    cases h
    exact .inr ⟨_, rfl, p.give rel (.str _)⟩
  · exact p.elim
end
section
variable {a b : A} {st : Sto} {i j : Int} {x y : Str} {xs ys : List A} {c : Bool}
theorem ev_addXI : oAddX (.int i) (.int j) st = .ok (.int (i + j)) st := rfl
theorem ev_addXB : oAddX (.bl c) (.int j) st = .ok (.int (b2i c + j)) st := rfl
theorem ev_addXS : oAddX (.str x) (.str y) st = if decide (x.length + y.length ≤ sizeLine) = true then .ok (.str (x ++ y)) st else .no := rfl
theorem ev_addXT : oAddX (.tup xs) (.tup ys) st = if xs.length + ys.length ≤ sizeLine then .ok (.tup (xs ++ ys)) st else .no := rfl
theorem ev_addXL {n : Nat} : oAddX (.ref n) b st = catO (getM st (.ref n)) (getM st b) st := rfl
theorem ev_subXI : oSubX (.int i) (.int j) st = .ok (.int (i - j)) st := rfl
theorem ev_subXB : oSubX (.bl c) (.int j) st = .ok (.int (b2i c - j)) st := rfl
theorem ev_mulXI : oMulX (.int i) (.int j) st = if cMul i j = true then .ok (.int (i * j)) st else .no := rfl
theorem ev_mulXB : oMulX (.bl c) (.int j) st = .ok (.int (b2i c * j)) st := rfl
def repK (m : Option (Nat × List A)) (b : A) (st : Sto) : Res A := match m, b with
  | some (_, xs), .int k => if -(2 ^ 63) ≤ k ∧ k < 2 ^ 63 ∧ xs.length * k.toNat ≤ sizeLine then newO (.lst (List.replicate k.toNat xs).flatten) st else .no
  | _, _ => .no
theorem ev_mulXL {n : Nat} : oMulX (.ref n) b st = repK (getM st (.ref n)) b st := rfl
theorem ev_negXI : oNegX (.int i) st = .ok (.int (-i)) st := rfl
theorem ev_negXB : oNegX (.bl c) st = .ok (.int (-(b2i c))) st := rfl
theorem ev_strXI : oStrX [.int i] st = if i.natAbs.log2 < 1920 then .ok (.str (toString i)) st else .no := rfl
theorem ev_strXB : oStrX [.bl c] st = .ok (.str (blS c)) st := rfl
end

theorem hu1 {A : Around} {k : Nat} (hr : Room k A) : A.units + 1 < cLine := by
  have := hu65 hr
  omega
/-! ### mirrors: dicts whose keys are texts or numbers -/
section
variable {w : World} {W : WishX} {X : Cx}
def keyA : A → Option Key
  | .int i => some (.inl i)
  | .str x => some (.inr x)
  | _ => none
theorem key_is {H : Hp} {ρ : List Addr} {v : V} {a : A} {k : Key} (h : Rv K H ρ v a) (e : keyA a = some k) : v = kV k := by
  cases h <;> cases e <;> rfl
variable {κ : Type} [DecidableEq κ]
def valA (kvs : List (κ × A)) (k : κ) : Option A := (kvs.find? fun kv => decide (kv.1 = k)).map (·.2)
def putA (kvs : List (κ × A)) (k : κ) (v : A) : List (κ × A) :=
  if (kvs.any fun kv => decide (kv.1 = k)) = true then kvs.map (fun kv => if kv.1 = k then (kv.1, v) else kv) else kvs ++ [(k, v)]
def dropA (kvs : List (κ × A)) (k : κ) : List (κ × A) := kvs.filter fun kv => decide (kv.1 ≠ k)
theorem valA_is {H : Hp} {ρ : List Addr} {k : κ} : ∀ {kv : List (κ × V)} {kvs : List (κ × A)}, Rkv K H ρ kv kvs → (valA kvs k = none → valV kv k = none) ∧ ∀ a, valA kvs k = some a → ∃ v, valV kv k = some v ∧ Rv K H ρ v a
  | _, _, .nil => ⟨fun _ => rfl, fun a e => by cases e⟩
  | (k1, v1) :: kv, (k2, a2) :: kvs, .cons h hs => by
    obtain ⟨e1, e2⟩ := h
    cases (e1 : k1 = k2)
    by_cases hk : k1 = k
    · have ea : valA ((k1, a2) :: kvs) k = some a2 := by simp [valA, List.find?_cons, hk]
      refine ⟨fun z => ?_, fun a z => ?_⟩
      · rw [ea] at z
        cases z
      · rw [ea] at z
        cases z
        exact ⟨v1, valV_pos hk, e2⟩
    · have ea : valA ((k1, a2) :: kvs) k = valA kvs k := by simp [valA, List.find?_cons, hk]
      rw [ea, valV_neg hk]
      exact valA_is hs
theorem any_is {H : Hp} {ρ : List Addr} {k : κ} : ∀ {kv : List (κ × V)} {kvs : List (κ × A)}, Rkv K H ρ kv kvs → (kv.any fun q => decide (q.1 = k)) = (kvs.any fun q => decide (q.1 = k))
  | _, _, .nil => rfl
  | _ :: _, _ :: _, .cons h hs => by rw [List.any_cons, List.any_cons, any_is hs, h.1]
theorem map_is {H : Hp} {ρ : List Addr} {k : κ} {v : V} {a : A} (r : Rv K H ρ v a) : ∀ {kv : List (κ × V)} {kvs : List (κ × A)}, Rkv K H ρ kv kvs → Rkv K H ρ (kv.map fun q => if q.1 = k then (q.1, v) else q) (kvs.map fun q => if q.1 = k then (q.1, a) else q)
  | _, _, .nil => .nil
  | p :: _, q :: _, .cons h hs => by
    refine .cons ?_ (map_is r hs)
    show (if p.1 = k then (p.1, v) else p).1 = (if q.1 = k then (q.1, a) else q).1 ∧ Rv K H ρ (if p.1 = k then (p.1, v) else p).2 (if q.1 = k then (q.1, a) else q).2
    by_cases hk : p.1 = k
    · rw [if_pos hk, if_pos (h.1 ▸ hk)]
      exact ⟨h.1, r⟩
    · rw [if_neg hk, if_neg (h.1 ▸ hk)]
      exact h
theorem app_is {H : Hp} {ρ : List Addr} {k : κ} {v : V} {a : A} (r : Rv K H ρ v a) : ∀ {kv : List (κ × V)} {kvs : List (κ × A)}, Rkv K H ρ kv kvs → Rkv K H ρ (kv ++ [(k, v)]) (kvs ++ [(k, a)])
  | _, _, .nil => .cons ⟨rfl, r⟩ .nil
  | _ :: _, _ :: _, .cons h hs => .cons h (app_is r hs)
theorem putA_is {H : Hp} {ρ : List Addr} {k : κ} {v : V} {a : A} {kv : List (κ × V)} {kvs : List (κ × A)} (r : Rv K H ρ v a) (h : Rkv K H ρ kv kvs) : Rkv K H ρ (putK kv k v) (putA kvs k a) := by
  unfold putK putA
  rw [any_is h]
  split
  · exact map_is r h
  · exact app_is r h
theorem dropA_is {H : Hp} {ρ : List Addr} {k : κ} : ∀ {kv : List (κ × V)} {kvs : List (κ × A)}, Rkv K H ρ kv kvs → Rkv K H ρ (dropK kv k) (dropA kvs k)
  | _, _, .nil => .nil
  | p :: kv, q :: kvs, .cons h hs => by
    have ih := dropA_is (k := k) hs
    unfold dropK dropA at ih ⊢
    rw [List.filter_cons, List.filter_cons, h.1]
    split
    · exact .cons h ih
    · exact ih
theorem kv_len {H : Hp} {ρ : List Addr} : ∀ {kv : List (κ × V)} {kvs : List (κ × A)}, Rkv K H ρ kv kvs → kv.length = kvs.length
  | _, _, .nil => rfl
  | _ :: _, _ :: _, .cons _ hs => by rw [List.length_cons, List.length_cons, kv_len hs]
/-- the dict that a value tells -/
def gD (n : Nat) (o : Option AO) : Option (Nat × List (Key × A)) := match o with
  | some (.dK kvs) => some (n, kvs)
  | _ => none
def getD (st : Sto) : A → Option (Nat × List (Key × A))
  | .ref n => gD n st[n]?
  | _ => none
theorem getD_is {ρ : List Addr} {H : Hp} {st : Sto} {v : V} {a : A} {n : Nat} {kvs : List (Key × A)} (rel : Rel K w ρ H st) (h : Rv K H ρ v a) (e : getD st a = some (n, kvs)) : ∃ p kv, v = .ref p ∧ ρ[n]? = some p ∧ H p = some (.dK kv) ∧ Rkv K H ρ kv kvs := by
  cases h with
  | ref h =>
    rename_i m p
    have e : gD m st[m]? = some (n, kvs) := e
    unfold gD at e
    split at e
    · rename_i kvs' e'
      cases e
      obtain ⟨kv, h1, h2⟩ := rel.get h e'
      exact ⟨_, kv, rfl, h, h1, h2⟩
    · cases e
  | _ => cases e
/-! {}, d[k], k in d, d[k] = v, d.get(k, x), d.pop(k, x) -/
def mDNew : ME := fun _ st => newO (.dK []) st
theorem re_dnew : RE K w W tDNewK mDNew := fun ρ H st σ env Q rel re p q nq => by
  obtain ⟨e, r⟩ := rel.new (o := .dK []) (u := .dK []) nq fun H' e' h' => ⟨[], h', .nil⟩
  exact p.giveAt e r (.ref (rel.last q))
def dgK (o : Option (Nat × List (Key × A))) (k : Option Key) (s : Sto) : Res A := match o, k with
  | some (_, kvs), some k => lift (valA kvs k) s
  | _, _ => .no
def mDGet (f g : ME) : ME := fun env st => (f env st).bind fun x s1 => (g env s1).bind fun y s2 => dgK (getD s2 x) (keyA y) s2
theorem re_dget {td ty : TE} {f g : ME} (hf : RE K w W td f) (hg : RE K w W ty g) : RE K w W (tDGet td ty) (mDGet f g) := fun ρ H st σ env Q rel re p =>
  hf.use rel re p fun a s1 ρ1 H1 x e1 r1 v1 p1 => hg.use r1 (re.ext e1) p1 fun b s2 ρ2 H2 y e2 r2 v2 p2 => by
    unfold dgK at p2
    split at p2
    · rename_i n kvs k em ek
      obtain ⟨q, kv, rfl, hq, h1, h2⟩ := getD_is r2 (rv_ext e2 v1) em
      cases ev : valA kvs k with
      | none =>
        rw [ev] at p2
        exact p2.elim
      | some c =>
        rw [ev] at p2
        obtain ⟨v, e3, r3⟩ := (valA_is h2).2 c ev
        cases key_is v2 ek
        exact ⟨q, v, rfl, e3 ▸ DGet.k h1, p2.give r2 r3⟩
    · exact p2.elim
def diK (neg : Bool) (o : Option (Nat × List (Key × A))) (k : Option Key) (s : Sto) : Res A := match o, k with
  | some (_, kvs), some k => .ok (.bl ((valA kvs k).isSome != neg)) s
  | _, _ => .no
def mDIn (neg : Bool) (f g : ME) : ME := fun env st => (f env st).bind fun y s1 => (g env s1).bind fun x s2 => diK neg (getD s2 x) (keyA y) s2
theorem isSome_is {H : Hp} {ρ : List Addr} {k : κ} {kv : List (κ × V)} {kvs : List (κ × A)} (h : Rkv K H ρ kv kvs) : (valV kv k).isSome = (valA kvs k).isSome := by
  cases e : valA kvs k with
  | none => rw [(valA_is h).1 e]; rfl
  | some c =>
    obtain ⟨v, e3, _⟩ := (valA_is h).2 c e
    rw [e3]
    rfl
theorem re_din {ty td : TE} {f g : ME} (hf : RE K w W ty f) (hg : RE K w W td g) : RE K w W (tDIn ty td) (mDIn false f g) := fun ρ H st σ env Q rel re p =>
  hf.use rel re p fun a s1 ρ1 H1 x e1 r1 v1 p1 => hg.use r1 (re.ext e1) p1 fun b s2 ρ2 H2 y e2 r2 v2 p2 => by
    unfold diK at p2
    split at p2
    · rename_i n kvs k em ek
      obtain ⟨q, kv, rfl, hq, h1, h2⟩ := getD_is r2 v2 em
      cases key_is v1 ek
      exact ⟨q, valV kv k, rfl, DGet.k h1, by
        rw [isSome_is h2]
        have := p2.give r2 (.bl _)
        rw [Bool.bne_false] at this
        exact this⟩
    · exact p2.elim
theorem re_dnotin {ty td : TE} {f g : ME} (hf : RE K w W ty f) (hg : RE K w W td g) : RE K w W (tDNotIn ty td) (mDIn true f g) := fun ρ H st σ env Q rel re p =>
  hf.use rel re p fun a s1 ρ1 H1 x e1 r1 v1 p1 => hg.use r1 (re.ext e1) p1 fun b s2 ρ2 H2 y e2 r2 v2 p2 => by
    unfold diK at p2
    split at p2
    · rename_i n kvs k em ek
      obtain ⟨q, kv, rfl, hq, h1, h2⟩ := getD_is r2 v2 em
      cases key_is v1 ek
      exact ⟨q, valV kv k, rfl, DGet.k h1, by
        rw [isSome_is h2]
        have := p2.give r2 (.bl _)
        rw [Bool.bne_true] at this
        exact this⟩
    · exact p2.elim
def dpK (o : Option (Nat × List (Key × A))) (k : Option Key) (v : A) (env : AEnv) (s : Sto) : RF := match o, k with
  | some (n, kvs), some k => if kvs.length < sizeLine then .fl (.nx env) (s.set n (.dK (putA kvs k v))) else .no
  | _, _ => .no
def sDPutM (f g h : ME) : MS := fun env st => (h env st).thenS env fun v s1 => (f env s1).thenS env fun x s2 => (g env s2).thenS env fun y s3 => dpK (getD s3 x) (keyA y) v env s3
theorem rs_dput {td ty tv : TE} {f g h : ME} (hf : RE K w W td f) (hg : RE K w W ty g) (hh : RE K w W tv h) : RS K w W (sDPut td ty tv) (sDPutM f g h) := fun ρ H st σ env D rel re p =>
  hh.useS rel re p fun a s1 ρ1 H1 x e1 r1 v1 p1 => hf.useS r1 (re.ext e1) p1 fun b s2 ρ2 H2 y e2 r2 v2 p2 => hg.useS r2 (re.ext (e1.trans e2)) p2 fun c s3 ρ3 H3 z e3 r3 v3 p3 => by
    unfold dpK at p3
    split at p3
    · rename_i n kvs k em ek
      obtain ⟨q, kv, rfl, hq, h1, h2⟩ := getD_is r3 (rv_ext e3 v2) em
      cases key_is v3 ek
      split at p3
      · rename_i hl
        have hv := rv_ext (e2.trans e3) v1
        obtain ⟨e4, r4⟩ := r3.put (o := .dK (putA kvs k a)) (u := .dK (putK kv k x)) hq fun H' e' h' => ⟨_, h', rkv_ext e' (putA_is hv h2)⟩
        exact ⟨q, _, rfl, DPut.k h1 (by rw [kv_len h2]; exact hl), p3 ρ3 _ σ e4 r4 (re.ext (e1.trans (e2.trans (e3.trans e4))))⟩
      · exact p3.elim
    · exact p3.elim
def oD : AO → Bool
  | .dK _ => true
  | _ => false
def isDA (st : Sto) (a : A) : Bool := (getD st a).isSome
theorem isD_is {ρ : List Addr} {H : Hp} {st : Sto} {v : V} {a : A} (rel : Rel K w ρ H st) (h : Rv K H ρ v a) (e : isDA st a = true) : ∃ p, v = .ref p ∧ IsD H p := by
  unfold isDA at e
  obtain ⟨⟨n, kvs⟩, e⟩ := Option.isSome_iff_exists.mp e
  obtain ⟨p, kv, rfl, _, h1, _⟩ := getD_is rel h e
  exact ⟨p, rfl, .inl ⟨kv, .inl h1⟩⟩
def dg2K (o : Option (Nat × List (Key × A))) (k : Option Key) (z : A) (s : Sto) : Res A := match o, k with
  | some (_, kvs), some k => .ok ((valA kvs k).getD z) s
  | _, _ => .no
/-- d.get(k, x); d.get(k) with None for x -/
def mDGet2 (f g h : ME) : ME := fun env st => (f env st).bind fun x s1 => if isDA s1 x = true then (g env s1).bind fun y s2 => (h env s2).bind fun z s3 => dg2K (getD s3 x) (keyA y) z s3 else .no
theorem re_dget2 {td ty tx : TE} {f g h : ME} (hf : RE K w W td f) (hg : RE K w W ty g) (hh : RE K w W tx h) : RE K w W (tDGet2 td ty tx) (mDGet2 f g h) := fun ρ H st σ env Q rel re p =>
  hf.use rel re p fun a s1 ρ1 H1 x e1 r1 v1 p1 => by
    split at p1
    · rename_i hd
      obtain ⟨q, rfl, hq⟩ := isD_is r1 v1 hd
      refine ⟨q, rfl, hq, hg.use r1 (re.ext e1) p1 fun b s2 ρ2 H2 y e2 r2 v2 p2 => hh.use r2 (re.ext (e1.trans e2)) p2 fun c s3 ρ3 H3 z e3 r3 v3 p3 => ?_⟩
      unfold dg2K at p3
      split at p3
      · rename_i n kvs k em ek
        obtain ⟨q', kv, eq, hq', h1, h2⟩ := getD_is r3 (rv_ext (e2.trans e3) v1) em
        cases eq
        cases key_is v2 ek
        refine ⟨valV kv k, DGet.k h1, ?_⟩
        cases ev : valA kvs k with
        | none =>
          rw [ev] at p3
          rw [(valA_is h2).1 ev]
          exact p3.give r3 v3
        | some d =>
          rw [ev] at p3
          obtain ⟨v, e4, r4⟩ := (valA_is h2).2 d ev
          rw [e4]
          exact p3.give r3 r4
      · exact p3.elim
    · exact p1.elim
theorem re_dget1 {td ty : TE} {f g : ME} (hf : RE K w W td f) (hg : RE K w W ty g) : RE K w W (tDGet1 td ty) (mDGet2 f g (mC .non)) := fun ρ H st σ env Q rel re p =>
  hf.use rel re p fun a s1 ρ1 H1 x e1 r1 v1 p1 => by
    split at p1
    · rename_i hd
      obtain ⟨q, rfl, hq⟩ := isD_is r1 v1 hd
      refine ⟨q, rfl, hq, hg.use r1 (re.ext e1) p1 fun b s2 ρ2 H2 y e2 r2 v2 p3 => ?_⟩
      have p3 : Post K w ρ2 H2 (dg2K (getD s2 a) (keyA b) .non s2) _ _ := p3
      unfold dg2K at p3
      split at p3
      · rename_i n kvs k em ek
        obtain ⟨q', kv, eq, hq', h1, h2⟩ := getD_is r2 (rv_ext e2 v1) em
        cases eq
        cases key_is v2 ek
        refine ⟨valV kv k, DGet.k h1, ?_⟩
        cases ev : valA kvs k with
        | none =>
          rw [ev] at p3
          rw [(valA_is h2).1 ev]
          exact p3.give r2 .non
        | some d =>
          rw [ev] at p3
          obtain ⟨v, e4, r4⟩ := (valA_is h2).2 d ev
          rw [e4]
          exact p3.give r2 r4
      · exact p3.elim
    · exact p1.elim
def dp2K (o : Option (Nat × List (Key × A))) (k : Option Key) (z : A) (s : Sto) : Res A := match o, k with
  | some (n, kvs), some k => match valA kvs k with
    | some v => .ok v (s.set n (.dK (dropA kvs k)))
    | none => .ok z s
  | _, _ => .no
/-- d.pop(k, x) -/
def mDPop2 (f g h : ME) : ME := fun env st => (f env st).bind fun x s1 => if isDA s1 x = true then (g env s1).bind fun y s2 => (h env s2).bind fun z s3 => dp2K (getD s3 x) (keyA y) z s3 else .no
theorem re_dpop2 {td ty tx : TE} {f g h : ME} (hf : RE K w W td f) (hg : RE K w W ty g) (hh : RE K w W tx h) : RE K w W (tDPop2 td ty tx) (mDPop2 f g h) := fun ρ H st σ env Q rel re p =>
  hf.use rel re p fun a s1 ρ1 H1 x e1 r1 v1 p1 => by
    split at p1
    · rename_i hd
      obtain ⟨q, rfl, hq⟩ := isD_is r1 v1 hd
      refine ⟨q, rfl, hq, hg.use r1 (re.ext e1) p1 fun b s2 ρ2 H2 y e2 r2 v2 p2 => hh.use r2 (re.ext (e1.trans e2)) p2 fun c s3 ρ3 H3 z e3 r3 v3 p3 => ?_⟩
      unfold dp2K at p3
      split at p3
      · rename_i n kvs k em ek
        obtain ⟨q', kv, eq, hq', h1, h2⟩ := getD_is r3 (rv_ext (e2.trans e3) v1) em
        cases eq
        cases key_is v2 ek
        refine ⟨kv, k, h1, rfl, fun v ev => ?_, fun ev => ?_⟩
        · cases ea : valA kvs k with
          | none =>
            rw [(valA_is h2).1 ea] at ev
            cases ev
          | some d =>
            rw [ea] at p3
            obtain ⟨v', e4, r4⟩ := (valA_is h2).2 d ea
            rw [e4] at ev
            cases ev
            obtain ⟨e5, r5⟩ := r3.put (o := .dK (dropA kvs k)) (u := .dK (dropK kv k)) hq' fun H' e' h' => ⟨_, h', rkv_ext e' (dropA_is h2)⟩
            exact p3.giveAt e5 r5 (rv_ext e5 r4)
        · cases ea : valA kvs k with
          | none =>
            rw [ea] at p3
            exact p3.give r3 v3
          | some d =>
            obtain ⟨v', e4, r4⟩ := (valA_is h2).2 d ea
            rw [e4] at ev
            cases ev
      · exact p3.elim
    · exact p1.elim
end

/-! ### mirrors: sorted() of texts or numbers, of a list or a dict's keys -/
section
variable {w : World} {W : WishX} {X : Cx}
def leS (x y : Str) : Bool := !decide (y.cps.toList < x.cps.toList)
theorem leS_iff {x y : Str} : leS x y = true ↔ x.cps.toList ≤ y.cps.toList := by
  unfold leS
  rw [Bool.not_eq_true', decide_eq_false_iff_not]
  exact Iff.rfl
theorem leS_trans (x y z : Str) (h : leS x y = true) (g : leS y z = true) : leS x z = true := leS_iff.mpr (List.le_trans (leS_iff.mp h) (leS_iff.mp g))
theorem leS_total (x y : Str) : (leS x y || leS y x) = true := by
  rw [Bool.or_eq_true, leS_iff, leS_iff]
  exact List.le_total ..
theorem leS_anti {x y : Str} (h : leS x y = true) (g : leS y x = true) : x = y := by
  have := List.le_antisymm (leS_iff.mp h) (leS_iff.mp g)
  cases x
  cases y
  simp only at this
  rw [Array.toList_inj.mp this]
theorem rising_all : ∀ {r : List Str} {p : Str}, risingS p r = true → (p :: r).Pairwise (fun x y => leS x y = true)
  | [], p, _ => List.pairwise_cons.mpr ⟨(fun _ h => nomatch h), List.Pairwise.nil⟩
  | x :: r, p, h => by
    unfold risingS at h
    rw [Bool.and_eq_true, ltCps_eq] at h
    have ih := rising_all h.2
    refine List.pairwise_cons.mpr ⟨fun y hy => ?_, ih⟩
    have h1 : leS p x = true := h.1
    rcases List.mem_cons.mp hy with rfl | hy
    · exact h1
    · exact leS_trans _ _ _ h1 ((List.pairwise_cons.mp ih).1 y hy)
def sortS (xs : List Str) : List Str := xs.mergeSort leS
theorem sortS_is {xs ys : List Str} (hp : ys.Perm xs) (h : sortedS ys = true) : ys = sortS xs := by
  refine List.Perm.eq_of_pairwise (le := fun x y => leS x y = true) (fun a b _ _ h g => leS_anti h g) ?_ (List.pairwise_mergeSort leS_trans leS_total xs) (hp.trans (List.mergeSort_perm xs leS).symm)
  cases ys with
  | nil => exact .nil
  | cons y r => exact rising_all h
def leI (i j : Int) : Bool := decide (i ≤ j)
def sortI (xs : List Int) : List Int := xs.mergeSort leI
theorem sortI_is {xs ys : List Int} (hp : ys.Perm xs) (h : ys.Pairwise (· ≤ ·)) : ys = sortI xs := by
  refine List.Perm.eq_of_pairwise (le := fun x y => leI x y = true) (fun a b _ _ h g => by unfold leI at h g; rw [decide_eq_true_eq] at h g; omega) (h.imp fun h => decide_eq_true h) (List.pairwise_mergeSort (fun a b c h g => by unfold leI at *; rw [decide_eq_true_eq] at *; omega) (fun a b => by unfold leI; rw [Bool.or_eq_true, decide_eq_true_eq, decide_eq_true_eq]; omega) xs) (hp.trans (List.mergeSort_perm xs leI).symm)
def keyI : List (Key × A) → Option (List Int)
  | [] => some []
  | (.inl i, _) :: xs => (keyI xs).map (i :: ·)
  | _ => none
def keyS : List (Key × A) → Option (List Str)
  | [] => some []
  | (.inr i, _) :: xs => (keyS xs).map (i :: ·)
  | _ => none
theorem keyS_is {ρ : List Addr} {H : Hp} : ∀ {kv : List (Key × V)} {kvs : List (Key × A)} {ns : List Str}, Rkv K H ρ kv kvs → keyS kvs = some ns → kv.map (·.1) = ns.map Sum.inr
  | _, _, _, .nil, e => by cases e; rfl
  | (k1, v1) :: kv, (k2, a2) :: kvs, _, .cons h hs, e => by
    obtain ⟨e1, _⟩ := h
    cases (e1 : k1 = k2)
    cases k1 with
    | inl i => cases e
    | inr x =>
      obtain ⟨cs, e1, rfl⟩ := Option.map_eq_some_iff.mp (show (keyS _).map (x :: ·) = some _ from e)
      rw [List.map_cons, keyS_is hs e1]
      rfl
theorem keyI_is {ρ : List Addr} {H : Hp} : ∀ {kv : List (Key × V)} {kvs : List (Key × A)} {ns : List Int}, Rkv K H ρ kv kvs → keyI kvs = some ns → kv.map (·.1) = ns.map Sum.inl
  | _, _, _, .nil, e => by cases e; rfl
  | (k1, v1) :: kv, (k2, a2) :: kvs, _, .cons h hs, e => by
    obtain ⟨e1, _⟩ := h
    cases (e1 : k1 = k2)
    cases k1 with
    | inr i => cases e
    | inl x =>
      obtain ⟨cs, e1, rfl⟩ := Option.map_eq_some_iff.mp (show (keyI _).map (x :: ·) = some _ from e)
      rw [List.map_cons, keyI_is hs e1]
      rfl
def srK (os : Option (List Str)) (oi : Option (List Int)) (st : Sto) : Res A := match os, oi with
  | some xs, _ => if xs.length < 64 then newO (.lst ((sortS xs).map A.str)) st else .no
  | none, some ns => if ns.length < 64 then newO (.lst ((sortI ns).map A.int)) st else .no
  | none, none => .no
def srO (o : Option (List A)) (d : Option (Nat × List (Key × A))) (st : Sto) : Res A := match o, d with
  | some xs, _ => srK (strsOf xs) (intsOf xs) st
  | none, some (_, kvs) => srK (keyS kvs) (keyI kvs) st
  | none, none => .no
def oSorted : List A → Sto → Res A := fun as st => match as with
  | [a] => srO (getL st a) (getD st a) st
  | _ => .no
def rSortDS : RL := fun xs H Q => ∃ (a : Addr) (kvs : List (Key × V)) (ks : List Str), xs = [.ref a] ∧ Rd H a (.dK kvs) ∧ kvs.map (·.1) = ks.map Sum.inr ∧ ks.length < 64 ∧
    ∀ ys p, ys.Perm ks → sortedS ys = true → H p = none → Q (.ref p) (upd H p (.lst (ys.map V.str)))
def rSortDI : RL := fun xs H Q => ∃ (a : Addr) (kvs : List (Key × V)) (ks : List Int), xs = [.ref a] ∧ Rd H a (.dK kvs) ∧ kvs.map (·.1) = ks.map Sum.inl ∧ ks.length < 64 ∧
    ∀ (ys : List Int) (p : Addr), ys.Perm ks → ys.Pairwise (· ≤ ·) → H p = none → Q (.ref p) (upd H p (.lst (ys.map V.int)))
def rSortX (K : PySem.W.Frag) : RL := lOr (rSortedS K) (lOr (rSorted K) (lOr rSortDS rSortDI))
theorem call_sortX (hc : X.calm = true) : CallR X (.builtin "sorted") (rSortX X.K) := CallR.or cr_sortedS (CallR.or cr_sorted (CallR.or (call_sortedD hc) (call_sortedDI hc)))
theorem rl_sorted : RLok K w (rSortX K) oSorted := fun ρ H st vs as Q X rel rv p => by
  unfold oSorted at p
  split at p
  · rename_i a
    obtain ⟨v, rfl, h⟩ := rvs1 rv
    unfold srO at p
    split at p
    · rename_i xs eo
      obtain ⟨q, us, rfl, hq, hr⟩ := getL_sq rel h eo
      unfold srK at p
      split at p
      · rename_i ii ss es
        cases strs_is hr es
        split at p
        · rename_i hl
          exact .inl ⟨q, ss, rfl, hq, hl, fun ys r hp hs nr => by
            rw [sortS_is hp hs]
            exact post_newL rel (Rvs.strs _) p r nr⟩
        · exact p.elim
      · rename_i ns es ei
        cases ints_is hr ei
        split at p
        · rename_i hl
          exact .inr (.inl ⟨q, ns, rfl, hq, hl, fun ys r hp hs nr => by
            rw [sortI_is hp hs]
            exact post_newL rel (Rvs.ints _) p r nr⟩)
        · exact p.elim
      · exact p.elim
    · rename_i n kvs eo ed
      obtain ⟨q, kv, rfl, hq, h1, h2⟩ := getD_is rel h ed
      unfold srK at p
      split at p
      · rename_i ii ss es
        split at p
        · rename_i hl
          exact .inr (.inr (.inl ⟨q, kv, ss, rfl, .inl h1, keyS_is h2 es, hl, fun ys r hp hs nr => by
            rw [sortS_is hp hs]
            exact post_newL rel (Rvs.strs _) p r nr⟩))
        · exact p.elim
      · rename_i ns es ei
        split at p
        · rename_i hl
          exact .inr (.inr (.inr ⟨q, kv, ns, rfl, .inl h1, keyI_is h2 ei, hl, fun ys r hp hs nr => by
            rw [sortI_is hp hs]
            exact post_newL rel (Rvs.ints _) p r nr⟩))
        · exact p.elim
      · exact p.elim
    · exact p.elim
  · exact p.elim
end

/-! ### mirrors: comprehensions of two clauses -/
section
variable {w : World} {W : WishX}
theorem wipe_wipe {σ : L2.St} {vs : List Nat} : L2.wipe (L2.wipe σ vs) vs = L2.wipe σ vs := by
  have : ∀ us : List Nat, (∀ u ∈ us, u ∈ vs) → L2.wipe (L2.wipe σ us) vs = L2.wipe σ vs := fun us => by
    induction us with
    | nil => intro _; rfl
    | cons u us ih =>
      intro hu
      show L2.wipe ((L2.wipe σ us).set u none) vs = L2.wipe σ vs
      rw [wipe_set (hu u List.mem_cons_self), ih fun z hz => hu z (List.mem_cons_of_mem _ hz)]
  exact this vs fun _ h => h
open Classical in
noncomputable def lcI (n : Nat) (ok : Sto → Prop) (g : MG) (tt : MT) (te : ME) (env : AEnv) (go : Sto → Res A) : List A → Sto → Res A
  | [], st => if ok st then go st else .no
  | x :: xs, st => if ok st then (match g x env with
    | some e1 => (noX (tt e1 st)).bind fun k s1 => if k = true then (noX (te e1 s1)).bind fun y s2 => (match s2[n]? with
      | some (.lst acc) => if acc.length < sizeLine then lcI n ok g tt te env go xs (s2.set n (.lst (acc ++ [y]))) else .no
      | _ => .no) else lcI n ok g tt te env go xs s1
    | none => .no) else .no
open Classical in
noncomputable def lc2L (n : Nat) (ok : Sto → Prop) (g : MG) (tt : MT) (mi1 : MI) (g1 : MG) (tt1 : MT) (te : ME) (env : AEnv) (vs1 : List Nat) : List A → Sto → Res A
  | [], st => if ok st then .ok (.ref n) st else .no
  | x :: xs, st => if ok st then (match g x env with
    | some e1 => (noX (tt e1 st)).bind fun k s1 => if k = true then (noX (mi1 e1 s1)).bind fun xo s2 => lcI n xo.2 g1 tt1 te (wipeA e1 vs1) (fun s => lc2L n ok g tt mi1 g1 tt1 te env vs1 xs s) xo.1 s2 else lc2L n ok g tt mi1 g1 tt1 te env vs1 xs s1
    | none => .no) else .no
noncomputable def mLc2 (mi : MI) (g : MG) (tt : MT) (mi1 : MI) (g1 : MG) (tt1 : MT) (te : ME) (vs vs1 : List Nat) : ME := fun env st => (mi env st).bind fun xo s => lc2L s.length xo.2 g tt mi1 g1 tt1 te (wipeA env vs) vs1 xo.1 (s ++ [.lst []])
theorem re_lc2 {wi wi1 : TI} {g g1 : TG} {tt tt1 : TT} {te : TE} {mi mi1 : MI} {m m1 : MG} {ft ft1 : MT} {fe : ME} {vs vs1 : List Nat} (hi : RI K w W wi mi) (hg : RGn K g m vs) (ht : RT K w WF tt ft) (hi1 : RI K w WF wi1 mi1) (hg1 : RGn K g1 m1 vs1) (ht1 : RT K w WF tt1 ft1) (he : RE K w WF te fe) :
    RE K w W (tLc2 wi g tt wi1 g1 tt1 te vs vs1) (mLc2 mi m ft mi1 m1 ft1 fe vs vs1) := fun ρ H st σ env Q rel re p => by
  have p : Post K w ρ H ((mi env st).bind fun xo s => lc2L s.length xo.2 m ft mi1 m1 ft1 fe (wipeA env vs) vs1 xo.1 (s ++ [.lst []])) (fun a _ ρ' H' => ∀ v, Rv K H' ρ' v a → Q v H') (W · · σ ·) := p
  refine hi ρ H st σ env _ rel re ?_
  cases e : mi env st with
  | no => rw [e] at p; exact p
  | ex c d s1 => rw [e] at p; exact p
  | ok xo s1 =>
    rw [e] at p
    obtain ⟨xs, ok⟩ := xo
    intro ρ1 H1 e1 r1 J hJ D nD
    obtain ⟨e2, r2⟩ := r1.new (o := .lst []) (u := .lst []) nD fun H' e' h' => ⟨[], h', .nil⟩
    have hD := r1.last D
    have p1 : Post K w (ρ1 ++ [D]) (upd H1 D (.lst [])) (lc2L s1.length ok m ft mi1 m1 ft1 fe (wipeA env vs) vs1 xs (s1 ++ [.lst []])) (fun a _ ρ' H' => ∀ v, Rv K H' ρ' v a → Q v H') (W · · σ ·) := Post.ext p (e1.trans e2)
    refine ⟨fun i n H2 => n = xs.length - i ∧ i ≤ xs.length ∧ ∃ ρ2 s2, Ext (ρ1 ++ [D]) ρ2 (upd H1 D (.lst [])) H2 ∧ Rel K w ρ2 H2 s2 ∧ Post K w ρ2 H2 (lc2L s1.length ok m ft mi1 m1 ft1 fe (wipeA env vs) vs1 (xs.drop i) s2) (fun a _ ρ' H' => ∀ v, Rv K H' ρ' v a → Q v H') (W · · σ ·), ⟨_, rfl, Nat.zero_le _, _, _, Ext.refl _ _, r2, by rw [List.drop_zero]; exact p1⟩, ?_⟩
    rintro i n H2 ⟨rfl, hi2, ρ2, s2, e3, r3, p2⟩
    have e13 := e2.trans e3
    by_cases lt : i < xs.length
    · have ea : xs[i]? = some xs[i] := List.getElem?_eq_getElem lt
      rw [List.drop_eq_getElem_cons lt] at p2
      unfold lc2L at p2
      split at p2
      · rename_i hok
        obtain ⟨hgo, hy⟩ := hJ.go i _ ρ2 H2 s2 e13 r3 hok ea
        refine .inr ⟨hgo, fun H' => ∃ ρ3 s3, Ext (ρ1 ++ [D]) ρ3 (upd H1 D (.lst [])) H' ∧ Rel K w ρ3 H' s3 ∧ Post K w ρ3 H' (lc2L s1.length ok m ft mi1 m1 ft1 fe (wipeA env vs) vs1 (xs.drop (i + 1)) s3) (fun a _ ρ' H' => ∀ v, Rv K H' ρ' v a → Q v H') (W · · σ ·), fun H' hN => ⟨xs.length - (i + 1), by omega, rfl, lt, hN⟩, fun x H' yl => ?_⟩
        obtain ⟨sm, hx⟩ := hy x H' yl
        have e4 : Ext ρ2 ρ2 H2 H' := Ext.same sm
        have r4 := r3.same sm
        refine hg H' ρ2 (L2.wipe σ vs) (wipeA env vs) x _ _ ((re.ext (e1.trans (e13.trans e4))).wipe vs) hx ?_
        cases em : m xs[i] (wipeA env vs) with
        | none => rw [em] at p2; exact p2
        | some env3 =>
          rw [em] at p2
          intro σ3 re3 wp
          refine ⟨wp.trans wipe_wipe, ht ρ2 H' s2 σ3 env3 _ r4 re3 (noX_use (Post.ext p2 e4) fun k s5 ρ5 H5 e5 r5 p5 => ?_)⟩
          cases k with
          | false =>
            refine iteF ⟨ρ5, s5, e3.trans (e4.trans e5), r5, p5⟩
          | true =>
            refine iteT (hi1 ρ5 H5 s5 σ3 env3 _ r5 (re3.ext e5) (noX_use p5 fun yo s6 ρ6 H6 e6 r6 p6 J1 hJ1 => ?_))
            obtain ⟨ys, ok1⟩ := yo
            have E6 := e3.trans (e4.trans (e5.trans e6))
            refine ⟨fun j k H7 => k = ys.length - j ∧ j ≤ ys.length ∧ ∃ ρ7 s7, Ext ρ6 ρ7 H6 H7 ∧ Rel K w ρ7 H7 s7 ∧ Post K w ρ7 H7 (lcI s1.length ok1 m1 ft1 fe (wipeA env3 vs1) (fun s => lc2L s1.length ok m ft mi1 m1 ft1 fe (wipeA env vs) vs1 (xs.drop (i + 1)) s) (ys.drop j) s7) (fun a _ ρ' H' => ∀ v, Rv K H' ρ' v a → Q v H') (W · · σ ·), ⟨_, rfl, Nat.zero_le _, ρ6, s6, Ext.refl _ _, r6, by rw [List.drop_zero]; exact p6⟩, ?_⟩
            rintro j k H7 ⟨rfl, hj2, ρ7, s7, e7, r7, p7⟩
            by_cases ltj : j < ys.length
            · have ey : ys[j]? = some ys[j] := List.getElem?_eq_getElem ltj
              rw [List.drop_eq_getElem_cons ltj] at p7
              unfold lcI at p7
              split at p7
              · rename_i hok1
                obtain ⟨hgo1, hy1⟩ := hJ1.go j _ ρ7 H7 s7 e7 r7 hok1 ey
                refine .inr ⟨hgo1, fun H' => ∃ ρ8 s8, Ext ρ6 ρ8 H6 H' ∧ Rel K w ρ8 H' s8 ∧ Post K w ρ8 H' (lcI s1.length ok1 m1 ft1 fe (wipeA env3 vs1) (fun s => lc2L s1.length ok m ft mi1 m1 ft1 fe (wipeA env vs) vs1 (xs.drop (i + 1)) s) (ys.drop (j + 1)) s8) (fun a _ ρ' H' => ∀ v, Rv K H' ρ' v a → Q v H') (W · · σ ·), fun H' hN => ⟨ys.length - (j + 1), by omega, rfl, ltj, hN⟩, fun x1 H8 yl1 => ?_⟩
                obtain ⟨sm1, hx1⟩ := hy1 x1 H8 yl1
                have e8 : Ext ρ7 ρ7 H7 H8 := Ext.same sm1
                have r8 := r7.same sm1
                refine hg1 H8 ρ7 (L2.wipe σ3 vs1) (wipeA env3 vs1) x1 _ _ ((re3.ext (e5.trans (e6.trans (e7.trans e8)))).wipe vs1) hx1 ?_
                cases em1 : m1 ys[j] (wipeA env3 vs1) with
                | none => rw [em1] at p7; exact p7
                | some env4 =>
                  rw [em1] at p7
                  intro σ4 re4 wp4
                  refine ⟨wp4.trans wipe_wipe, ht1 ρ7 H8 s7 σ4 env4 _ r8 re4 (noX_use (Post.ext p7 e8) fun k s9 ρ9 H9 e9 r9 p9 => ?_)⟩
                  cases k with
                  | false =>
                    refine iteF ⟨ρ9, s9, e7.trans (e8.trans e9), r9, p9⟩
                  | true =>
                    refine iteT (he ρ9 H9 s9 σ4 env4 _ r9 (re4.ext e9) (noX_use p9 fun y s10 ρ10 H10 e10 r10 p10 v hv => ?_))
                    have E10 := E6.trans (e7.trans (e8.trans (e9.trans e10)))
                    split at p10
                    · rename_i acc ea2
                      obtain ⟨us, h1, h2⟩ := r10.get (E10.get hD) ea2
                      split at p10
                      · rename_i hl
                        obtain ⟨e11, r11⟩ := set_put r10 (E10.get hD) (h2.append (.cons hv .nil))
                        exact ⟨us, h1, by rw [h2.length]; exact hl, ρ10, _, e7.trans (e8.trans (e9.trans (e10.trans e11))), r11, Post.ext p10 e11⟩
                      · exact p10.elim
                    · exact p10.elim
              · exact p7.elim
            · obtain rfl : j = ys.length := by omega
              rw [List.drop_length] at p7
              unfold lcI at p7
              split at p7
              · rename_i hok1
                exact .inl ⟨hJ1.stop ρ7 H7 s7 e7 r7 hok1, ρ7, s7, E6.trans e7, r7, p7⟩
              · exact p7.elim
      · exact p2.elim
    · obtain rfl : i = xs.length := by omega
      rw [List.drop_length] at p2
      unfold lc2L at p2
      split at p2
      · rename_i hok
        exact .inl ⟨hJ.stop ρ2 H2 s2 e13 r3 hok, p2.give r3 (.ref (e3.get hD))⟩
      · exact p2.elim
end

/-! ### mirrors: a tuple times a number -/
section
variable {w : World} {W : WishX} {X : Cx}
theorem tuple_mul1 (l : Addr) (items : Array Value) (n : Nat) (dd : Option Addr) (sl : Array (Option Value)) (u : Tok) (c1 : (items.isEmpty || (1 : Int) == 1) = true) :
    Meets (Builtin.«tuple.__mul__» ⟨[.ref l, .int 1 u], []⟩) (fun _ R s => s.heap.get? l = some { cls := .type "tuple", dict := dd, data := .seq items n, slots := sl } ∧ R (.ok (.ret (Value.ref l))) s) :=
  .of_wp fun prog w A R s h => by
    obtain ⟨hp, g, d, tk, os⟩ := s
    obtain ⟨hl, h⟩ := h
    have f1 := AutoSeq1.idx_int
    have c0 : (decide ((1 : Int) < -(2 ^ 63)) || decide ((1 : Int) ≥ 2 ^ 63)) = false := by decide
    wp_walk using wpAny_loadPart' hl
    repeat (first
      | (refine wpAny_ite_false (decide_eq_false (by rw [c0]; exact Bool.false_ne_true)) ?_; wp_walk using wpAny_loadPart' hl)
      | (refine wpAny_ite_true (decide_eq_true c1) ?_; wp_walk using wpAny_loadPart' hl))
    exact ⟨_, rfl, h⟩
theorem tuple_mul0 (l : Addr) (items : Array Value) (n : Nat) (dd : Option Addr) (sl : Array (Option Value)) (u : Tok) (c1 : (items.isEmpty || (0 : Int) == 1) = false) :
    Meets (Builtin.«tuple.__mul__» ⟨[.ref l, .int 0 u], []⟩) (fun _ R s => s.heap.get? l = some { cls := .type "tuple", dict := dd, data := .seq items n, slots := sl } ∧
      R (.ok (.ret (Value.ref s.heap.objs.size))) { s with heap := s.heap.push { cls := Value.type "tuple", data := Data.seq #[] }, toks := s.toks }) :=
  .of_wp fun prog w A R s h => by
    obtain ⟨hp, g, d, tk, os⟩ := s
    obtain ⟨hl, h⟩ := h
    have f1 := AutoSeq1.idx_int
    have c0 : (decide ((0 : Int) < -(2 ^ 63)) || decide ((0 : Int) ≥ 2 ^ 63)) = false := by decide
    have c2 : (decide ((0 : Int) ≤ 0) || items.isEmpty) = true := by simp
    have c3 : ¬ sizeLine < (#[] : Array Value).size := by simp
    wp_walk using wpAny_loadPart' hl
    repeat (first
      | (refine wpAny_ite_false (decide_eq_false (by rw [c0]; exact Bool.false_ne_true)) ?_; wp_walk using wpAny_loadPart' hl)
      | (refine wpAny_ite_false (decide_eq_false (by rw [c1]; exact Bool.false_ne_true)) ?_; wp_walk using wpAny_loadPart' hl)
      | (refine wpAny_ite_true (decide_eq_true c2) ?_; wp_walk using wpAny_loadPart' hl)
      | (refine wpAny_ite_false (decide_eq_false c3) ?_; wp_walk using wpAny_loadPart' hl))
    exact ⟨_, rfl, h⟩
def rRepS (K : PySem.W.Frag) : R2 := fun x y H Q => ∃ l k xs, x = .ref l ∧ y = .int k ∧ SqT K H l xs ∧ xs ≠ [] ∧ (k = 0 ∨ k = 1) ∧ (k = 0 → ∀ p, H p = none → Q (.ref p) (upd H p (.tup []))) ∧ (k = 1 → Q (.ref l) H)
theorem op_repS : OpR X (binaryOp .Mult) (rRepS X.K) := by
  intro pins s σ H x y v u Q I rx ry h
  obtain ⟨l, k, xs, rfl, rfl, hT, hne, hk, q0, q1⟩ := h
  cases rx
  obtain ⟨t, rfl⟩ := ry
  obtain ⟨its, r, ⟨⟨cls, dd, data, sl⟩, ho, hc, n, hd⟩, hs⟩ := I.tuple hT
  simp only at hc hd
  subst hc hd
  have hle : its.length = xs.length := r.length.symm
  have hn : its ≠ [] := fun e => hne (by
    rw [e] at hle
    exact List.eq_nil_of_length_eq_zero hle.symm)
  have hi : its.toArray.isEmpty = false := by
    cases its with
    | nil => exact absurd rfl hn
    | cons a b => rfl
  rcases hk with rfl | rfl
  · refine wpAny_binaryOp_repeat_ref (T := "tuple") (U := "int") (by decide) ⟨_, ho, rfl⟩ (fun s' => typeIs_int s' 0 t) noFill_tuple_mul F.fills_int_mul F.slot_int_rmul repeat_tuple F.slot_int_index.lookup
      (call_meets F.slot_int_rmul (typeIs_int s 0 t) F.entry_int_rmul (F.args_int_rmul_2 _ _) (int_rmul_tuple 0 t l its.toArray n dd sl)
        ⟨ho, rfl, ⟨_, ho, rfl⟩, call_meets F.slot_tuple_mul ⟨_, ho, rfl⟩ F.entry_tuple_mul (F.args_tuple_mul_2 _ _) (tuple_mul0 l its.toArray n dd sl t (by rw [hi]; rfl)) ⟨ho, ?_⟩⟩)
    refine ⟨.ref s.heap.objs.size, _, I.laid (t' := s.toks) (o := .tup []) (fun b ob q => Heap.get?_push_of_some _ q) (Nat.le_refl _) ?_, rfl, q0 rfl _ (I.hok.fresh (Nat.le_refl _))⟩
    exact ⟨Nat.zero_le _, [], .nil, IsTup.new _ _⟩
  · refine wpAny_binaryOp_repeat_ref (T := "tuple") (U := "int") (by decide) ⟨_, ho, rfl⟩ (fun s' => typeIs_int s' 1 t) noFill_tuple_mul F.fills_int_mul F.slot_int_rmul repeat_tuple F.slot_int_index.lookup
      (call_meets F.slot_int_rmul (typeIs_int s 1 t) F.entry_int_rmul (F.args_int_rmul_2 _ _) (int_rmul_tuple 1 t l its.toArray n dd sl)
        ⟨ho, rfl, ⟨_, ho, rfl⟩, call_meets F.slot_tuple_mul ⟨_, ho, rfl⟩ F.entry_tuple_mul (F.args_tuple_mul_2 _ _) (tuple_mul1 l its.toArray n dd sl t (by simp)) ⟨ho, ?_⟩⟩)
    exact ⟨.ref l, _, I, rfl, q1 rfl⟩
def oRepT : A → A → Sto → Res A := fun a b st => match a, b with
  | .tup xs, .int k => if xs.isEmpty = false ∧ 0 ≤ k ∧ k ≤ 1000 ∧ xs.length ≤ 1000 then .ok (.tup (List.replicate k.toNat xs).flatten) st else .no
  | _, _ => .no
def rRepTT (K : PySem.W.Frag) : R2 := rOr (rRepS K) (rRepT K)
theorem r2_repT : R2ok K w (rRepTT K) oRepT := fun ρ H st x y a b Q X rel ra rb p => by
  unfold oRepT at p
  split at p
  · rename_i xs k
    cases rb
    split at p
    · rename_i hc
      obtain ⟨h1, h2, h3, h4⟩ := hc
      cases ra with
      | @tup l vs _ hT hv =>
        have hne : vs ≠ [] := fun e => by
          subst e
          cases hv
          cases h1
        have hl := hv.length
        by_cases k2 : 2 ≤ k
        · refine .inr ⟨l, k, vs, rfl, rfl, hT, hne, k2, h3, by omega, fun q nq => ?_⟩
          have e : Ext ρ ρ H (upd H q (.tup (List.replicate k.toNat vs).flatten)) := Ext.same (same_upd nq)
          exact p.giveAt e (rel.same (same_upd nq)) (.tup (.inl (.inl upd_same)) (rvs_rep (rvs_ext e hv) k.toNat))
        · by_cases k0 : k = 0
          · subst k0
            refine .inl ⟨l, 0, vs, rfl, rfl, hT, hne, .inl rfl, fun _ q nq => ?_, (fun z => by cases z)⟩
            have e : Ext ρ ρ H (upd H q (.tup [])) := Ext.same (same_upd nq)
            exact p.giveAt e (rel.same (same_upd nq)) (.tup (.inl (.inl upd_same)) .nil)
          · have k1 : k = 1 := by omega
            subst k1
            refine .inl ⟨l, 1, vs, rfl, rfl, hT, hne, .inr rfl, (fun z => by cases z), fun _ => ?_⟩
            refine p.give rel ?_
            show Rv K H ρ (.ref l) (.tup (List.replicate 1 xs).flatten)
            simp only [List.replicate_one, List.flatten_cons, List.flatten_nil, List.append_nil]
            exact .tup hT hv
    · exact p.elim
  · exact p.elim
def rMulY (K : PySem.W.Frag) : R2 := rOr (rRepTT K) rMulX
theorem dMulY : OpR X (binaryOp .Mult) (rMulY X.K) := OpR.or (OpR.or op_repS op_repT) dMulX
def oMulY : A → A → Sto → Res A := oOr (fun a _ => isTup a) oRepT oMulX
theorem r2_mulY : R2ok K w (rMulY K) oMulY := r2_or r2_repT r2_mulX
end
section
variable {a b : A} {st : Sto} {i j : Int} {xs : List A} {c : Bool}
theorem ev_mulYI : oMulY (.int i) (.int j) st = if cMul i j = true then .ok (.int (i * j)) st else .no := rfl
theorem ev_mulYB : oMulY (.bl c) (.int j) st = .ok (.int (b2i c * j)) st := rfl
theorem ev_mulYL {n : Nat} : oMulY (.ref n) b st = repK (getM st (.ref n)) b st := rfl
theorem ev_mulYT : oMulY (.tup xs) (.int j) st = if xs.isEmpty = false ∧ 0 ≤ j ∧ j ≤ 1000 ∧ xs.length ≤ 1000 then .ok (.tup (List.replicate j.toNat xs).flatten) st else .no := rfl
end

/-! ### mirrors: what a run comes to, by what is asked behind it -/
def okR {α : Type} (r : Res α) (Q : α → Sto → Prop) : Prop := match r with
  | .ok a s => Q a s
  | _ => False
def okF (r : RF) (Q : Fl → Sto → Prop) : Prop := match r with
  | .fl f s => Q f s
  | _ => False
def fK (Q : A → Sto → Prop) : Fl → Sto → Prop
  | .rt a, s => Q a s
  | .nx _, s => Q .non s
  | _, _ => False
def nK (g : MS) (Q : Fl → Sto → Prop) : Fl → Sto → Prop
  | .nx e, s => okF (g e s) Q
  | f, s => Q f s
def tK {α : Type} (k : α → Sto → RF) (Q : Fl → Sto → Prop) : α → Sto → Prop := fun a s => okF (k a s) Q
def bK {α β : Type} (k : α → Sto → Res β) (Q : β → Sto → Prop) : α → Sto → Prop := fun a s => okR (k a s) Q
/-- behind a loop's body -/
def lK (J : AEnv → Sto → Prop) (Q : Fl → Sto → Prop) : Fl → Sto → Prop
  | .nx e, s => J e s
  | .ct e, s => J e s
  | .bk e, s => Q (.nx e) s
  | .rt a, s => Q (.rt a) s
/-- .. where nothing is left early -/
def jK (J : AEnv → Sto → Prop) : Fl → Sto → Prop
  | .nx e, s => J e s
  | .ct e, s => J e s
  | _, _ => False
section
variable {α β : Type} {r : Res α} {f : RF} {s : Sto} {a : α} {c : A} {e : AEnv}
theorem wp_okR {Q : α → Sto → Prop} : okR (.ok a s) Q = Q a s := rfl
theorem wp_okF {x : Fl} {Q : Fl → Sto → Prop} : okF (.fl x s) Q = Q x s := rfl
theorem wp_fin {Q : A → Sto → Prop} : okR (fin f) Q = okF f (fK Q) := by
  rcases f with ⟨_ | _ | _ | _, _⟩ | _ | _ <;> rfl
theorem wp_next {g : MS} {Q : Fl → Sto → Prop} : okF (f.next g) Q = okF f (nK g Q) := by
  rcases f with ⟨_ | _ | _ | _, _⟩ | _ | _ <;> rfl
theorem wp_then {k : α → Sto → RF} {Q : Fl → Sto → Prop} : okF (r.thenS e k) Q = okR r (tK k Q) := by
  cases r <;> rfl
theorem wp_bind {k : α → Sto → Res β} {Q : β → Sto → Prop} : okR (r.bind k) Q = okR r (bK k Q) := by
  cases r <;> rfl
theorem wp_nox {Q : α → Sto → Prop} : okR (noX r) Q = okR r Q := by
  cases r <;> rfl
theorem wp_tK {k : α → Sto → RF} {Q : Fl → Sto → Prop} : tK k Q a s = okF (k a s) Q := rfl
theorem wp_bK {k : α → Sto → Res β} {Q : β → Sto → Prop} : bK k Q a s = okR (k a s) Q := rfl
theorem wp_fr {Q : A → Sto → Prop} : fK Q (.rt c) s = Q c s := rfl
theorem wp_fn {Q : A → Sto → Prop} : fK Q (.nx e) s = Q .non s := rfl
theorem wp_nn {g : MS} {Q : Fl → Sto → Prop} : nK g Q (.nx e) s = okF (g e s) Q := rfl
theorem wp_nr {g : MS} {Q : Fl → Sto → Prop} : nK g Q (.rt c) s = Q (.rt c) s := rfl
theorem wp_nb {g : MS} {Q : Fl → Sto → Prop} : nK g Q (.bk e) s = Q (.bk e) s := rfl
theorem wp_nc {g : MS} {Q : Fl → Sto → Prop} : nK g Q (.ct e) s = Q (.ct e) s := rfl
theorem wp_ln {J : AEnv → Sto → Prop} {Q : Fl → Sto → Prop} : lK J Q (.nx e) s = J e s := rfl
theorem wp_lc {J : AEnv → Sto → Prop} {Q : Fl → Sto → Prop} : lK J Q (.ct e) s = J e s := rfl
theorem wp_lb {J : AEnv → Sto → Prop} {Q : Fl → Sto → Prop} : lK J Q (.bk e) s = Q (.nx e) s := rfl
theorem wp_lr {J : AEnv → Sto → Prop} {Q : Fl → Sto → Prop} : lK J Q (.rt c) s = Q (.rt c) s := rfl
theorem wp_jn {J : AEnv → Sto → Prop} : jK J (.nx e) s = J e s := rfl
theorem wp_jc {J : AEnv → Sto → Prop} : jK J (.ct e) s = J e s := rfl
theorem okR_use {P Q : α → Sto → Prop} (h : okR r P) (k : ∀ a s, P a s → Q a s) : okR r Q := by
  cases r with
  | ok a s => exact k a s h
  | _ => exact h
theorem okF_use {P Q : Fl → Sto → Prop} (h : okF f P) (k : ∀ a s, P a s → Q a s) : okF f Q := by
  cases f with
  | fl x s => exact k x s h
  | _ => exact h
theorem okR_of {P : α → Sto → Prop} (h : ∃ a s, r = .ok a s ∧ P a s) : okR r P := by
  obtain ⟨a, s, rfl, h⟩ := h
  exact h
theorem okR_out {P : α → Sto → Prop} (h : okR r P) : ∃ a s, r = .ok a s ∧ P a s := by
  cases r with
  | ok a s => exact ⟨a, s, rfl, h⟩
  | _ => exact h.elim
theorem okF_out {P : Fl → Sto → Prop} (h : okF f P) : ∃ a s, f = .fl a s ∧ P a s := by
  cases f with
  | fl a s => exact ⟨a, s, rfl, h⟩
  | _ => exact h.elim
theorem okF_ifB {c : Bool} {x y : RF} {Q : Fl → Sto → Prop} (h1 : c = true → okF x Q) (h2 : c = false → okF y Q) : okF (if c = true then x else y) Q := by
  cases c
  · exact h2 rfl
  · exact h1 rfl
theorem okR_ifB {c : Bool} {x y : Res α} {Q : α → Sto → Prop} (h1 : c = true → okR x Q) (h2 : c = false → okR y Q) : okR (if c = true then x else y) Q := by
  cases c
  · exact h2 rfl
  · exact h1 rfl
theorem okF_ifP {c : Prop} [Decidable c] {x y : RF} {Q : Fl → Sto → Prop} (h1 : c → okF x Q) (h2 : ¬ c → okF y Q) : okF (if c then x else y) Q := by
  split
  · exact h1 (by assumption)
  · exact h2 (by assumption)
theorem okR_ifP {c : Prop} [Decidable c] {x y : Res α} {Q : α → Sto → Prop} (h1 : c → okR x Q) (h2 : ¬ c → okR y Q) : okR (if c then x else y) Q := by
  split
  · exact h1 (by assumption)
  · exact h2 (by assumption)
end
theorem forL_wp {ok : Sto → Prop} {g : MG} {b : MS} {Q : Fl → Sto → Prop} (I : Nat → AEnv → Sto → Prop) (hok : ∀ i env s, I i env s → ok s) : ∀ {xs : List A} {j : Nat} {env : AEnv} {st : Sto}, I j env st →
    (∀ i x env s, xs[i]? = some x → I (j + i) env s → ∃ e1, g x env = some e1 ∧ okF (b e1 s) (lK (I (j + i + 1)) Q)) → (∀ env s, I (j + xs.length) env s → Q (.nx env) s) → okF (forL ok g b xs env st) Q
  | [], j, env, st, h0, _, he => by
    unfold forL
    rw [if_pos (hok _ _ _ h0)]
    exact he _ _ h0
  | x :: xs, j, env, st, h0, hs, he => by
    obtain ⟨e1, h1, h2⟩ := hs 0 x env st rfl h0
    obtain ⟨fl, s', h3, h4⟩ := okF_out h2
    have go : ∀ e s, I (j + 1) e s → okF (forL ok g b xs e s) Q := fun e s hI => forL_wp I hok (j := j + 1) hI (fun i y env s hy h => by
      have := hs (i + 1) y env s (by simpa using hy) (by rw [show j + (i + 1) = j + 1 + i by omega]; exact h)
      rw [show j + (i + 1) + 1 = j + 1 + i + 1 by omega] at this
      exact this) (fun env s h => he env s (by rw [List.length_cons, show j + (xs.length + 1) = j + 1 + xs.length by omega]; exact h))
    unfold forL
    rw [if_pos (hok _ _ _ h0), h1]
    simp only [h3]
    cases fl with
    | nx e => exact go e s' h4
    | ct e => exact go e s' h4
    | bk e => exact h4
    | rt a => exact h4
theorem lcL_wp {n : Nat} {ok : Sto → Prop} {g : MG} {tt : MT} {te : ME} {env : AEnv} {Q : A → Sto → Prop} (I : Nat → List A → Sto → Prop) (hok : ∀ i acc s, I i acc s → ok s) : ∀ {xs : List A} {j : Nat} {acc : List A} {st : Sto}, I j acc st →
    (∀ i x acc s, xs[i]? = some x → I (j + i) acc s → ∃ e1, g x env = some e1 ∧ okR (tt e1 s) fun c s1 => if c = true then okR (te e1 s1) (fun y s2 => s2[n]? = some (.lst acc) ∧ acc.length < 16777216 ∧ I (j + i + 1) (acc ++ [y]) (s2.set n (.lst (acc ++ [y])))) else I (j + i + 1) acc s1) →
    (∀ acc s, I (j + xs.length) acc s → Q (.ref n) s) → okR (lcL n ok g tt te env xs st) Q
  | [], j, acc, st, h0, _, he => by
    unfold lcL
    rw [if_pos (hok _ _ _ h0)]
    exact he _ _ h0
  | x :: xs, j, acc, st, h0, hs, he => by
    obtain ⟨e1, h1, h2⟩ := hs 0 x acc st rfl h0
    obtain ⟨c, s1, h3, h4⟩ := okR_out h2
    have go : ∀ acc s, I (j + 1) acc s → okR (lcL n ok g tt te env xs s) Q := fun acc s hI => lcL_wp I hok (j := j + 1) hI (fun i y acc s hy h => by
      have := hs (i + 1) y acc s (by simpa using hy) (by rw [show j + (i + 1) = j + 1 + i by omega]; exact h)
      rw [show j + (i + 1) + 1 = j + 1 + i + 1 by omega] at this
      exact this) (fun acc s h => he acc s (by rw [List.length_cons, show j + (xs.length + 1) = j + 1 + xs.length by omega]; exact h))
    unfold lcL
    rw [if_pos (hok _ _ _ h0), h1]
    simp only [h3, ev_xok, ev_bok]
    cases c with
    | false => exact go acc s1 h4
    | true =>
      obtain ⟨y, s2, h5, h6, h7, h8⟩ := okR_out h4
      simp only [if_true, h5, ev_xok, ev_bok, h6]
      rw [if_pos (by rw [sizeLine_eq]; exact h7)]
      exact go _ _ h8
theorem whileF_wp {c : MT} {b : MS} {Q : Fl → Sto → Prop} (I : Nat → AEnv → Sto → Prop)
    (step : ∀ k env s, I k env s → okR (c env s) fun t s1 => if t = true then ∃ k', k = k' + 1 ∧ okF (b env s1) (lK (I k') Q) else Q (.nx env) s1) : ∀ (k fuel : Nat) {env : AEnv} {st : Sto}, k < fuel → I k env st → okF (whileF c b fuel env st) Q
  | _, 0, _, _, hf, _ => absurd hf (Nat.not_lt_zero _)
  | k, fuel + 1, env, st, hf, h => by
    unfold whileF
    rw [wp_then]
    refine okR_use (step k env st h) fun t s1 ht => ?_
    rw [wp_tK]
    cases t with
    | false => exact ht
    | true =>
      obtain ⟨k', rfl, hb⟩ := ht
      obtain ⟨fl, s', h3, h4⟩ := okF_out hb
      simp only [if_true, h3]
      cases fl with
      | nx e => exact whileF_wp I step k' fuel (by omega) h4
      | ct e => exact whileF_wp I step k' fuel (by omega) h4
      | bk e => exact h4
      | rt a => exact h4
/-- a comprehension over what stays: its items leave at most new cells behind -/
theorem lc_W {ok : Sto → Prop} {g : MG} {tt : MT} {te : ME} {env : AEnv} {xs : List A} {S : Sto} {Q : A → Sto → Prop} (p : A → Bool) (F : A → A) (hok : ∀ l, ok (S ++ l)) (hl : xs.length < 16777216)
    (step : ∀ x ∈ xs, ∃ e1, g x env = some e1 ∧ (∀ l, okR (tt e1 (S ++ l)) fun c s => c = p x ∧ ∃ l', s = S ++ (l ++ l')) ∧ (p x = true → ∀ l, okR (te e1 (S ++ l)) fun y s => y = F x ∧ ∃ l', s = S ++ (l ++ l')))
    (h : ∀ l', Q (.ref S.length) (S ++ AO.lst ((xs.filter p).map F) :: l')) : okR (lcL S.length ok g tt te env xs (S ++ [.lst []])) Q := by
  refine lcL_wp (j := 0) (acc := []) (fun i acc s => acc = ((xs.take i).filter p).map F ∧ ∃ l', s = S ++ AO.lst acc :: l') (fun i acc s h => by obtain ⟨_, l', rfl⟩ := h; exact hok _) ⟨by simp, [], rfl⟩ (fun i x acc s hx hI => ?_) (fun acc s hI => ?_)
  · obtain ⟨ha, l', rfl⟩ := hI
    obtain ⟨e1, h1, h2, h3⟩ := step x (List.mem_of_getElem? hx)
    have hi := (List.getElem?_eq_some_iff.mp hx).1
    have tk : xs.take (0 + i + 1) = xs.take (0 + i) ++ [x] := by
      rw [Nat.zero_add, List.take_add_one, hx]
      rfl
    have hacc : acc.length ≤ xs.length := by
      rw [ha, List.length_map]
      exact Nat.le_trans (List.length_filter_le ..) (List.length_take_le' ..)
    refine ⟨e1, h1, okR_use (h2 _) fun c s1 hc => ?_⟩
    obtain ⟨rfl, l1, rfl⟩ := hc
    split
    · rename_i hp
      refine okR_use (h3 hp _) fun y s2 hy => ?_
      obtain ⟨rfl, l2, rfl⟩ := hy
      refine ⟨by simp only [List.cons_append]; rw [ev_app0]; rfl, by omega, ?_, l' ++ l1 ++ l2, ?_⟩
      · rw [tk, List.filter_append, List.map_append, ← ha]
        simp [hp]
      · simp only [List.cons_append]
        rw [ev_set0]
        rfl
    · rename_i hp
      refine ⟨?_, l' ++ l1, by simp⟩
      rw [tk, List.filter_append, List.map_append, ← ha]
      simp [hp]
  · obtain ⟨ha, l', rfl⟩ := hI
    rw [Nat.zero_add, List.take_length] at ha
    subst ha
    exact h l'
theorem lc_M {ok : Sto → Prop} {g : MG} {te : ME} {env : AEnv} {xs : List A} {S : Sto} {Q : A → Sto → Prop} (F : A → A) (hok : ∀ l, ok (S ++ l)) (hl : xs.length < 16777216)
    (step : ∀ x ∈ xs, ∃ e1, g x env = some e1 ∧ ∀ l, okR (te e1 (S ++ l)) fun y s => y = F x ∧ ∃ l', s = S ++ (l ++ l'))
    (h : ∀ l', Q (.ref S.length) (S ++ AO.lst (xs.map F) :: l')) : okR (lcL S.length ok g mYes te env xs (S ++ [.lst []])) Q :=
  lc_W (fun _ => true) F hok hl (fun x hx => by
    obtain ⟨e1, h1, h2⟩ := step x hx
    exact ⟨e1, h1, fun l => ⟨rfl, [], by simp⟩, fun _ => h2⟩) (fun l' => by
    rw [List.filter_eq_self.mpr (fun _ _ => rfl)]
    exact h l')

/-! ### mirrors: stores, the bag -/
structure Old (b : Nat) (st st' : Sto) : Prop where
  le : st.length ≤ st'.length
  eq : ∀ n, n < st.length → n ≠ b → st'[n]? = st[n]?
theorem Old.refl (b : Nat) (st : Sto) : Old b st st := ⟨Nat.le_refl _, fun _ _ _ => rfl⟩
theorem Old.trans {b : Nat} {s1 s2 s3 : Sto} (h : Old b s1 s2) (g : Old b s2 s3) : Old b s1 s3 := ⟨Nat.le_trans h.le g.le, fun n hn nb => (g.eq n (Nat.lt_of_lt_of_le hn h.le) nb).trans (h.eq n hn nb)⟩
theorem Old.get {b n : Nat} {st st' : Sto} {o : AO} (h : Old b st st') (e : st[n]? = some o) (nb : n ≠ b) : st'[n]? = some o := (h.eq n (List.getElem?_eq_some_iff.mp e).1 nb).trans e
theorem Old.app (b : Nat) (st : Sto) (o : AO) : Old b st (st ++ [o]) := ⟨by rw [List.length_append]; omega, fun n hn _ => List.getElem?_append_left hn⟩
theorem Old.put (b : Nat) (st : Sto) (o : AO) : Old b st (st.set b o) := ⟨by rw [List.length_set]; omega, fun n _ nb => List.getElem?_set_ne (fun z => nb z.symm)⟩
/-- what is new is changed -/
theorem Old.putNew {b n : Nat} {st st' : Sto} {o : AO} (h : Old b st st') (hn : st.length ≤ n) : Old b st (st'.set n o) := ⟨by rw [List.length_set]; exact h.le, fun m hm nb => by rw [List.getElem?_set_ne (by omega)]; exact h.eq m hm nb⟩
def BagAt (st : Sto) (b : Nat) : Prop := ∃ x y : Int, st[b]? = some (.lst [.int x, .int y]) ∧ 0 ≤ x ∧ 0 ≤ y ∧ y < 2147483647
theorem BagAt.lt {st : Sto} {b : Nat} (h : BagAt st b) : b < st.length := by
  obtain ⟨x, y, e, _⟩ := h
  exact (List.getElem?_eq_some_iff.mp e).1
theorem BagAt.app {st : Sto} {b : Nat} (h : BagAt st b) (o : AO) : BagAt (st ++ [o]) b := by
  have hl := h.lt
  obtain ⟨x, y, e, r⟩ := h
  exact ⟨x, y, by rw [List.getElem?_append_left hl]; exact e, r⟩
theorem BagAt.put {st : Sto} {b n : Nat} (h : BagAt st b) (o : AO) (ne : n ≠ b) : BagAt (st.set n o) b := by
  obtain ⟨x, y, e, r⟩ := h
  exact ⟨x, y, by rw [List.getElem?_set_ne ne]; exact e, r⟩
theorem ix20 : ixN 2 0 = some 0 := by decide
theorem ix21 : ixN 2 1 = some 1 := by decide
theorem cMul_r {i j : Int} (h : -(2 ^ 64) < j ∧ j < 2 ^ 64) : cMul i j = true := decide_eq_true (.inr h)
theorem cMul_l {i j : Int} (h : -(2 ^ 64) < i ∧ i < 2 ^ 64) : cMul i j = true := decide_eq_true (.inl h)
theorem log_lt {m : Int} (h0 : 0 < m) (h : m < 2 ^ 200) : m.natAbs.log2 < 9000 := by
  have h1 : m.natAbs < 2 ^ 200 := by omega
  have h2 : m.natAbs ≠ 0 := by omega
  have := (Nat.log2_lt h2).mpr h1
  omega
theorem putO_is {k : Int} {n j : Nat} {xs : List A} {a : A} {env : AEnv} {s : Sto} (h : ixN xs.length k = some j) : putO (.int k) (some (n, xs)) a env s = .fl (.nx env) (s.set n (.lst (xs.set j a))) := ev_putO h
/-! ### _law_take -/
abbrev s__law_take : Stmt := topS 54
theorem sc__law_take : FnScope ["bag", "many", "found"] ["bag", "many"] (defScope s__law_take) := ⟨rfl, rfl, rfl, by decide +kernel, rfl, by decide +kernel, by decide +kernel⟩

noncomputable def b__law_take : MS := (sSeq (sIf (mTest (mOp oGt (mOp oIxD (mVar 0) (mC (.int 0))) (mC (.int 0))))
 (sSeq (sAsg (mOp oMod (mOp oIxD (mVar 0) (mC (.int 0))) (mVar 1)) (mgName 2))
 (sSeq (sPutL (mOp oDiv (mOp oIxD (mVar 0) (mC (.int 0))) (mVar 1)) (mVar 0) (mC (.int 0)))
 (sRet (mVar 2))))
 sNext)
 (sSeq (sPutL (mOp oMod (mOp oMulX (mOp oIxD (mVar 0) (mC (.int 1))) (mC (.int 48271))) (mC (.int 2147483647))) (mVar 0) (mC (.int 1)))
 (sRet (mOp oMod (mOp oDiv (mOp oMod (mOp oMulX (mOp oIxD (mVar 0) (mC (.int 1))) (mOp oIxD (mVar 0) (mC (.int 1)))) (mC (.int 2147483629))) (mC (.int 64))) (mVar 1)))))
noncomputable def m__law_take : List A → Sto → Res A := runB 3 b__law_take
theorem ok__law_take {f : Addr} {fd : FuncData} (F : Fun K "_law_take" "_law_take" s__law_take f fd) (gm : mg "_law_take" = some (.ref f)) (N : Fre K mg)  : C8.Cal P w K mg base 1 "_law_take" (spN K w 2 m__law_take) [] := by
  refine mkCal F gm sc__law_take (F.binds (ps := ["bag", "many"]) fun _ _ _ _ _ _ us hl => match us, hl with | [_, _], _ => rfl) (fun vs H Q E h => ?_) (fun cdv A outer s H vs Q E hr h => ?_)
  · obtain ⟨_, _, _, hl, _⟩ := h
    exact hl
  · refine ⟨_, (pss_cons (ps_if (pt_cmpR (show OpR _ _ rGtD from dGt) (pe_ix (show IxR _ (rIxAny K) from dIx) (pv 0) pe_int (fun _ _ => rfl)) pe_int (nomark _))
 (pss_cons (ps_set (i := 2) sc__law_take.nd rfl (.inl rfl) (pe_op (show OpR _ _ rModD from dMod) (pe_ix (show IxR _ (rIxAny K) from dIx) (pv 0) pe_int (fun _ _ => rfl)) (pv 1)))
 (pss_cons (ps_asg (pe_op (show OpR _ _ rDivD from dDiv) (pe_ix (show IxR _ (rIxAny K) from dIx) (pv 0) pe_int (fun _ _ => rfl)) (pv 1)) (pg_sub (pv 0) pe_int set_list))
 (pss_one (ps_ret (pv 2)))))
 pss_nil)
 (pss_cons (ps_asg (pe_op (show OpR _ _ rModD from dMod) (pe_op (show OpR _ _ rMulX from dMulX) (pe_ix (show IxR _ (rIxAny K) from dIx) (pv 0) pe_int (fun _ _ => rfl)) pe_int) pe_int) (pg_sub (pv 0) pe_int set_list))
 (pss_one (ps_ret (pe_op (show OpR _ _ rModD from dMod) (pe_op (show OpR _ _ rDivD from dDiv) (pe_op (show OpR _ _ rModD from dMod) (pe_op (show OpR _ _ rMulX from dMulX) (pe_ix (show IxR _ (rIxAny K) from dIx) (pv 0) pe_int (fun _ _ => rfl)) (pe_ix (show IxR _ (rIxAny K) from dIx) (pv 0) pe_int (fun _ _ => rfl))) pe_int) pe_int) (pv 1)))))), ?_⟩
    exact spN_body (b := b__law_take) (show RS K w WF _ b__law_take from (rs_seq (rs_if (rt_test (re_op r2_gt (re_op r2_ixD (re_var (i := 0)) re_int) re_int))
 (rs_seq (rs_asg (re_op r2_mod (re_op r2_ixD (re_var (i := 0)) re_int) (re_var (i := 1))) (rg_name (i := 2) (vs := [2]) (by decide)))
 (rs_seq (rs_putL (re_op r2_div (re_op r2_ixD (re_var (i := 0)) re_int) (re_var (i := 1))) (re_var (i := 0)) re_int)
 (rs_ret (re_var (i := 2)))))
 rs_next)
 (rs_seq (rs_putL (re_op r2_mod (re_op r2_mulX (re_op r2_ixD (re_var (i := 0)) re_int) re_int) re_int) (re_var (i := 0)) re_int)
 (rs_ret (re_op r2_mod (re_op r2_div (re_op r2_mod (re_op r2_mulX (re_op r2_ixD (re_var (i := 0)) re_int) (re_op r2_ixD (re_var (i := 0)) re_int)) re_int) re_int) (re_var (i := 1))))))) h
theorem st__law_take (a0 a1 : A) (st : Sto) : m__law_take [a0, a1] st = fin (b__law_take [some a0, some a1, none] st) := rfl

/-! ### _law_bag -/
abbrev s__law_bag : Stmt := topS 53
theorem sc__law_bag : FnScope ["script", "k", "cell"] ["script", "k"] (defScope s__law_bag) := ⟨rfl, rfl, rfl, by decide +kernel, rfl, by decide +kernel, by decide +kernel⟩

noncomputable def b__law_bag : MS := (sSeq (sAsg (mC (.int 0)) (mgName 2))
 (sSeq (sIf (mTest (mOp oLt (mVar 1) (mCB oLen (mCons (mVar 0) mNil))))
 (sAsg (mCB oAbs (mCons (mOp oIxD (mVar 0) (mVar 1)) mNil)) (mgName 2))
 sNext)
 (sSeq (sIf (mTest (mOp oLt (mVar 2) (mOp oPow (mC (.int 10)) (mC (.int 18)))))
 (sRet (mLst (mCons (mC (.int 0)) (mCons (mOp oAddX (mC (.int 1)) (mOp oMod (mOp oAddX (mOp oMulX (mVar 2) (mC (.int 7919))) (mOp oMulX (mC (.int 104729)) (mVar 1))) (mC (.int 2147483646)))) mNil))))
 sNext)
 (sRet (mLst (mCons (mVar 2) (mCons (mOp oAddX (mC (.int 1)) (mOp oMod (mOp oAddX (mVar 2) (mVar 1)) (mC (.int 2147483646)))) mNil)))))))
noncomputable def m__law_bag : List A → Sto → Res A := runB 3 b__law_bag
theorem ok__law_bag {f : Addr} {fd : FuncData} (F : Fun K "_law_bag" "_law_bag" s__law_bag f fd) (gm : mg "_law_bag" = some (.ref f)) (N : Fre K mg)  : C8.Cal P w K mg base 1 "_law_bag" (spN K w 2 m__law_bag) [] := by
  refine mkCal F gm sc__law_bag (F.binds (ps := ["script", "k"]) fun _ _ _ _ _ _ us hl => match us, hl with | [_, _], _ => rfl) (fun vs H Q E h => ?_) (fun cdv A outer s H vs Q E hr h => ?_)
  · obtain ⟨_, _, _, hl, _⟩ := h
    exact hl
  · refine ⟨_, (pss_cons (ps_set (i := 2) sc__law_bag.nd rfl (.inl rfl) pe_int)
 (pss_cons (ps_if (pt_cmpR (show OpR _ _ rLtD from dLt) (pv 1) (pe_callB (show CallR _ _ (rLenAny K) from call_lenAny) (by rfl) N.len (by decide +kernel) (pa_cons (pv 0) pa_nil)) (nomark _))
 (pss_one (ps_set (i := 2) sc__law_bag.nd rfl (.inl rfl) (pe_callB call_abs (by rfl) N.abs (by decide +kernel) (pa_cons (pe_ix (show IxR _ (rIxAny K) from dIx) (pv 0) (pv 1) (fun _ _ => rfl)) pa_nil))))
 pss_nil)
 (pss_cons (ps_if (pt_cmpR (show OpR _ _ rLtD from dLt) (pv 2) (pe_op (show OpR _ _ rPowD from dPow) pe_int pe_int) (nomark _))
 (pss_one (ps_ret (pe_lst (pa_cons pe_int (pa_cons (pe_op (show OpR _ _ (rAddX K) from dAddX) pe_int (pe_op (show OpR _ _ rModD from dMod) (pe_op (show OpR _ _ (rAddX K) from dAddX) (pe_op (show OpR _ _ rMulX from dMulX) (pv 2) pe_int) (pe_op (show OpR _ _ rMulX from dMulX) pe_int (pv 1))) pe_int)) pa_nil)))))
 pss_nil)
 (pss_one (ps_ret (pe_lst (pa_cons (pv 2) (pa_cons (pe_op (show OpR _ _ (rAddX K) from dAddX) pe_int (pe_op (show OpR _ _ rModD from dMod) (pe_op (show OpR _ _ (rAddX K) from dAddX) (pv 2) (pv 1)) pe_int)) pa_nil)))))))), ?_⟩
    exact spN_body (b := b__law_bag) (show RS K w WF _ b__law_bag from (rs_seq (rs_asg re_int (rg_name (i := 2) (vs := [2]) (by decide)))
 (rs_seq (rs_if (rt_test (re_op r2_lt (re_var (i := 1)) (re_cb rl_len (ra_cons (re_var (i := 0)) ra_nil))))
 (rs_asg (re_cb rl_abs (ra_cons (re_op r2_ixD (re_var (i := 0)) (re_var (i := 1))) ra_nil)) (rg_name (i := 2) (vs := [2]) (by decide)))
 rs_next)
 (rs_seq (rs_if (rt_test (re_op r2_lt (re_var (i := 2)) (re_op r2_pow re_int re_int)))
 (rs_ret (re_lst (ra_cons re_int (ra_cons (re_op r2_addX re_int (re_op r2_mod (re_op r2_addX (re_op r2_mulX (re_var (i := 2)) re_int) (re_op r2_mulX re_int (re_var (i := 1)))) re_int)) ra_nil))))
 rs_next)
 (rs_ret (re_lst (ra_cons (re_var (i := 2)) (ra_cons (re_op r2_addX re_int (re_op r2_mod (re_op r2_addX (re_var (i := 2)) (re_var (i := 1))) re_int)) ra_nil)))))))) h
theorem st__law_bag (a0 a1 : A) (st : Sto) : m__law_bag [a0, a1] st = fin (b__law_bag [some a0, some a1, none] st) := rfl

theorem take_ev {st : Sto} {b : Nat} {m : Int} (hB : BagAt st b) (hm : 0 < m) (hm2 : m < 2 ^ 200) :
    ∃ r st', m__law_take [.ref b, .int m] st = .ok (.int r) st' ∧ 0 ≤ r ∧ r < m ∧ Old b st st' ∧ BagAt st' b ∧ st'.length = st.length := by
  have hl := hB.lt
  obtain ⟨x, y, hb, hx, hy, hy2⟩ := hB
  rw [st__law_take]
  unfold b__law_take
  by_cases h0 : 0 < x
  · have hd := log_lt hm hm2
    have hp : ∀ (a : A) (env : AEnv) (s : Sto), putO (.int 0) (some (b, [.int x, .int y])) a env s = .fl (.nx env) (s.set b (.lst [a, .int y])) := fun a env s => ev_putO (j := 0) ix20
    simp only [ev_bok, ev_bno, ev_bex, ev_tok, ev_tno, ev_tex, ev_nnx, ev_nrt, ev_nbk, ev_nct, ev_nex, ev_nno, ev_frt, ev_fnx, ev_fex, ev_xok, ev_lsome, ev_lnone, ev_seq, ev_if, ev_ret, ev_retN, ev_drop, ev_nop, ev_brk, ev_cont, ev_asgN, ev_asgT, ev_asgO, ev_mgTup, ev_mgN, ev_mgC, ev_mg0, ev_putL, ev_putO, ev_var, ev_vr, ev_c, ev_op, ev_un, ev_test, ev_tb, ev_notT, ev_andT, ev_orT, ev_ifE, ev_not, ev_nb, ev_and, ev_andK, ev_or, ev_orK, ev_chain, ev_chK, ev_nil, ev_cons, ev_tup, ev_lst, ev_new, ev_call, ev_cb, ev_size, ev_addI, ev_addS, ev_addT, ev_addL, ev_catO, ev_sub, ev_mul, ev_div, ev_mod, ev_p5, ev_p6, ev_p12, ev_p18, ev_p30, ev_neg, ev_ltI, ev_ltS, ev_leI, ev_leS, ev_gt, ev_ge, ev_eqI, ev_eqS, ev_neI, ev_neS, ev_neB, ev_eqB, ev_is, ev_isnot, ev_ixT, ev_ixS, ev_ixR, ev_ixL, ev_ixK, ev_getL, ev_getM, ev_gL, ev_gM, ev_at0, ev_at1, ev_at2, ev_at3, ev_at4, ev_lenS, ev_lenR, ev_lenT, ev_lenL, ev_lenO, ev_lenD, ev_abs, ev_min2, ev_max2, ev_intI, ev_intB, ev_set, ev_fc, ev_setset, ev_last, ev_appk, ev_app0, ev_setk, ev_set0, ev_assoc, ev_lapp, ev_lappA, ev_sl, ev_nopart, ev_part, ev_ptK, ev_slT, ev_slS, ev_slR, ev_slK, ev_tyN, ev_tyB, ev_tyI, ev_tyS, ev_tyT, ev_tyL, ev_tyR, ev_tyRL, ev_isi, ev_isi1, ev_isi2, ev_isi3, ev_isi4, ev_isi5, ev_isiT, ev_isi2K, ev_isTy, ev_list, ev_listK, ev_tuple, ev_tupK, ev_getST, ev_getSR, ev_getSL, ev_all, ev_allK, ev_eqXI, ev_eqXS, ev_neXI, ev_neXS, ev_neXB, ev_eqXB, ev_eqXR, ev_neXR, ev_nil2, ev_eqK, ev_neK, ev_meth, ev_meth0, ev_mth1, ev_mth2, ev_mth3, ev_append, ev_m0, ev_m0K, ev_str, ev_for, ev_miR1, ev_rg1K, ev_miL, ev_liK, ev_miT, ev_tiK, ev_lc, ev_wipe0, ev_wipeS, ev_yes, ev_lenSet, ev_lenSetK, ev_listR, ev_lrK, ev_put2, ev_p2A, ev_p2K, ev_p2E, ev_put1, ev_pt1, ev_addXI, ev_addXB, ev_addXS, ev_addXT, ev_addXL, ev_subXI, ev_subXB, ev_mulXI, ev_mulXB, ev_mulXL, ev_negXI, ev_negXB, ev_strXI, ev_strXB, ev_mulYI, ev_mulYB, ev_mulYL, ev_mulYT, List.getElem?_cons_zero, List.getElem?_cons_succ, List.set_cons_zero, List.set_cons_succ, List.length_cons, List.length_nil, List.cons_append, List.nil_append, if_true, if_false, Bool.false_eq_true, Bool.true_eq_false, reduceIte, Bool.not_true, Bool.not_false, Bool.and_true, Bool.true_and, Bool.and_false, Bool.false_and, Bool.or_true, Bool.true_or, Bool.or_false, Bool.false_or, decide_eq_true_eq, Nat.reduceAdd, Nat.reduceLeDiff, Nat.zero_add, Int.reduceLT, Int.reduceLE, Int.reduceEq, Int.reduceNeg, Nat.reduceEqDiff, and_self, and_true, true_and, decide_true, decide_false, eq_self, ite_true, ite_false, Int.reduceSub, Int.reduceAdd, Int.cast_ofNat_Int, Int.natCast_add, Int.cast_ofNat_Int, Nat.reduceSub, Nat.add_assoc, String.reduceBEq, String.reduceEq, Bool.or_not_self, beq_self_eq_true, hb, h0, hm, hd, hp, and_self, decide_true]
    refine ⟨_, _, rfl, Int.emod_nonneg _ (by omega), Int.emod_lt_of_pos _ hm, Old.put _ _ _, ⟨x / m, y, ?_, Int.ediv_nonneg hx (by omega), hy, hy2⟩, List.length_set⟩
    rw [List.getElem?_set_self hl]
  · have hp : ∀ (a : A) (env : AEnv) (s : Sto), putO (.int 1) (some (b, [.int x, .int y])) a env s = .fl (.nx env) (s.set b (.lst [.int x, a])) := fun a env s => ev_putO (j := 1) ix21
    have l64 : (64 : Int).natAbs.log2 < 9000 := by decide
    have c1 : cMul y 48271 = true := cMul_r (by decide)
    have hz1 : 0 ≤ y * 48271 % 2147483647 := Int.emod_nonneg _ (by decide)
    have hz2 : y * 48271 % 2147483647 < 2147483647 := Int.emod_lt_of_pos _ (by decide)
    have c2 : cMul (y * 48271 % 2147483647) (y * 48271 % 2147483647) = true := cMul_l ⟨by omega, by omega⟩
    have hs : (st.set b (.lst [.int x, .int (y * 48271 % 2147483647)]))[b]? = some (.lst [.int x, .int (y * 48271 % 2147483647)]) := List.getElem?_set_self hl
    simp only [ev_bok, ev_bno, ev_bex, ev_tok, ev_tno, ev_tex, ev_nnx, ev_nrt, ev_nbk, ev_nct, ev_nex, ev_nno, ev_frt, ev_fnx, ev_fex, ev_xok, ev_lsome, ev_lnone, ev_seq, ev_if, ev_ret, ev_retN, ev_drop, ev_nop, ev_brk, ev_cont, ev_asgN, ev_asgT, ev_asgO, ev_mgTup, ev_mgN, ev_mgC, ev_mg0, ev_putL, ev_putO, ev_var, ev_vr, ev_c, ev_op, ev_un, ev_test, ev_tb, ev_notT, ev_andT, ev_orT, ev_ifE, ev_not, ev_nb, ev_and, ev_andK, ev_or, ev_orK, ev_chain, ev_chK, ev_nil, ev_cons, ev_tup, ev_lst, ev_new, ev_call, ev_cb, ev_size, ev_addI, ev_addS, ev_addT, ev_addL, ev_catO, ev_sub, ev_mul, ev_div, ev_mod, ev_p5, ev_p6, ev_p12, ev_p18, ev_p30, ev_neg, ev_ltI, ev_ltS, ev_leI, ev_leS, ev_gt, ev_ge, ev_eqI, ev_eqS, ev_neI, ev_neS, ev_neB, ev_eqB, ev_is, ev_isnot, ev_ixT, ev_ixS, ev_ixR, ev_ixL, ev_ixK, ev_getL, ev_getM, ev_gL, ev_gM, ev_at0, ev_at1, ev_at2, ev_at3, ev_at4, ev_lenS, ev_lenR, ev_lenT, ev_lenL, ev_lenO, ev_lenD, ev_abs, ev_min2, ev_max2, ev_intI, ev_intB, ev_set, ev_fc, ev_setset, ev_last, ev_appk, ev_app0, ev_setk, ev_set0, ev_assoc, ev_lapp, ev_lappA, ev_sl, ev_nopart, ev_part, ev_ptK, ev_slT, ev_slS, ev_slR, ev_slK, ev_tyN, ev_tyB, ev_tyI, ev_tyS, ev_tyT, ev_tyL, ev_tyR, ev_tyRL, ev_isi, ev_isi1, ev_isi2, ev_isi3, ev_isi4, ev_isi5, ev_isiT, ev_isi2K, ev_isTy, ev_list, ev_listK, ev_tuple, ev_tupK, ev_getST, ev_getSR, ev_getSL, ev_all, ev_allK, ev_eqXI, ev_eqXS, ev_neXI, ev_neXS, ev_neXB, ev_eqXB, ev_eqXR, ev_neXR, ev_nil2, ev_eqK, ev_neK, ev_meth, ev_meth0, ev_mth1, ev_mth2, ev_mth3, ev_append, ev_m0, ev_m0K, ev_str, ev_for, ev_miR1, ev_rg1K, ev_miL, ev_liK, ev_miT, ev_tiK, ev_lc, ev_wipe0, ev_wipeS, ev_yes, ev_lenSet, ev_lenSetK, ev_listR, ev_lrK, ev_put2, ev_p2A, ev_p2K, ev_p2E, ev_put1, ev_pt1, ev_addXI, ev_addXB, ev_addXS, ev_addXT, ev_addXL, ev_subXI, ev_subXB, ev_mulXI, ev_mulXB, ev_mulXL, ev_negXI, ev_negXB, ev_strXI, ev_strXB, ev_mulYI, ev_mulYB, ev_mulYL, ev_mulYT, List.getElem?_cons_zero, List.getElem?_cons_succ, List.set_cons_zero, List.set_cons_succ, List.length_cons, List.length_nil, List.cons_append, List.nil_append, if_true, if_false, Bool.false_eq_true, Bool.true_eq_false, reduceIte, Bool.not_true, Bool.not_false, Bool.and_true, Bool.true_and, Bool.and_false, Bool.false_and, Bool.or_true, Bool.true_or, Bool.or_false, Bool.false_or, decide_eq_true_eq, Nat.reduceAdd, Nat.reduceLeDiff, Nat.zero_add, Int.reduceLT, Int.reduceLE, Int.reduceEq, Int.reduceNeg, Nat.reduceEqDiff, and_self, and_true, true_and, decide_true, decide_false, eq_self, ite_true, ite_false, Int.reduceSub, Int.reduceAdd, Int.cast_ofNat_Int, Int.natCast_add, Int.cast_ofNat_Int, Nat.reduceSub, Nat.add_assoc, String.reduceBEq, String.reduceEq, Bool.or_not_self, beq_self_eq_true, hb, h0, hm, hp, c1, c2, hs, l64]
    exact ⟨_, _, rfl, Int.emod_nonneg _ (by omega), Int.emod_lt_of_pos _ hm, Old.put _ _ _, ⟨x, _, hs, hx, hz1, hz2⟩, List.length_set⟩
theorem bag_pos' (c : Int) : 0 ≤ 1 + c % 2147483646 ∧ 1 + c % 2147483646 < 2147483647 := by
  have h1 : 0 ≤ c % 2147483646 := Int.emod_nonneg _ (by decide)
  have h2 : c % 2147483646 < 2147483646 := Int.emod_lt_of_pos _ (by decide)
  omega
theorem bag_ev {st : Sto} {ns : List Int} {k : Int} (hk : 0 ≤ k) (hk2 : k < 100) : ∃ o, m__law_bag [.lit (ns.map A.int), .int k] st = .ok (.ref st.length) (st ++ [o]) ∧ BagAt (st ++ [o]) st.length := by
  rw [st__law_bag]
  unfold b__law_bag
  have hpw : ((10 : Int) ^ (18 : Int).toNat) = 1000000000000000000 := by decide
  have pw : (0 ≤ (18 : Int) ∧ (18 : Int) ≤ 1000000 ∧ (10 : Int).natAbs < 2 ^ 64) = True := by simp
  have p1 : ((0 : Int) < 2147483646) = True := by simp
  have fin1 : ∀ d : Int, 0 ≤ d → ∃ o, fin (sSeq (sIf (mTest (mOp oLt (mVar 2) (mOp oPow (mC (.int 10)) (mC (.int 18))))) (sRet (mLst (mCons (mC (.int 0)) (mCons (mOp oAddX (mC (.int 1)) (mOp oMod (mOp oAddX (mOp oMulX (mVar 2) (mC (.int 7919))) (mOp oMulX (mC (.int 104729)) (mVar 1))) (mC (.int 2147483646)))) mNil)))) sNext) (sRet (mLst (mCons (mVar 2) (mCons (mOp oAddX (mC (.int 1)) (mOp oMod (mOp oAddX (mVar 2) (mVar 1)) (mC (.int 2147483646)))) mNil)))) [some (.lit (ns.map A.int)), some (.int k), some (.int d)] st) = .ok (.ref st.length) (st ++ [o]) ∧ BagAt (st ++ [o]) st.length := fun d hd => by
    have c1 : cMul d 7919 = true := cMul_r (by decide)
    have c2 : cMul 104729 k = true := cMul_l (by decide)
    by_cases h : d < 1000000000000000000
    · simp only [ev_bok, ev_bno, ev_bex, ev_tok, ev_tno, ev_tex, ev_nnx, ev_nrt, ev_nbk, ev_nct, ev_nex, ev_nno, ev_frt, ev_fnx, ev_fex, ev_xok, ev_lsome, ev_lnone, ev_seq, ev_if, ev_ret, ev_retN, ev_drop, ev_nop, ev_brk, ev_cont, ev_asgN, ev_asgT, ev_asgO, ev_mgTup, ev_mgN, ev_mgC, ev_mg0, ev_putL, ev_putO, ev_var, ev_vr, ev_c, ev_op, ev_un, ev_test, ev_tb, ev_notT, ev_andT, ev_orT, ev_ifE, ev_not, ev_nb, ev_and, ev_andK, ev_or, ev_orK, ev_chain, ev_chK, ev_nil, ev_cons, ev_tup, ev_lst, ev_new, ev_call, ev_cb, ev_size, ev_addI, ev_addS, ev_addT, ev_addL, ev_catO, ev_sub, ev_mul, ev_div, ev_mod, ev_p5, ev_p6, ev_p12, ev_p18, ev_p30, ev_neg, ev_ltI, ev_ltS, ev_leI, ev_leS, ev_gt, ev_ge, ev_eqI, ev_eqS, ev_neI, ev_neS, ev_neB, ev_eqB, ev_is, ev_isnot, ev_ixT, ev_ixS, ev_ixR, ev_ixL, ev_ixK, ev_getL, ev_getM, ev_gL, ev_gM, ev_at0, ev_at1, ev_at2, ev_at3, ev_at4, ev_lenS, ev_lenR, ev_lenT, ev_lenL, ev_lenO, ev_lenD, ev_abs, ev_min2, ev_max2, ev_intI, ev_intB, ev_set, ev_fc, ev_setset, ev_last, ev_appk, ev_app0, ev_setk, ev_set0, ev_assoc, ev_lapp, ev_lappA, ev_sl, ev_nopart, ev_part, ev_ptK, ev_slT, ev_slS, ev_slR, ev_slK, ev_tyN, ev_tyB, ev_tyI, ev_tyS, ev_tyT, ev_tyL, ev_tyR, ev_tyRL, ev_isi, ev_isi1, ev_isi2, ev_isi3, ev_isi4, ev_isi5, ev_isiT, ev_isi2K, ev_isTy, ev_list, ev_listK, ev_tuple, ev_tupK, ev_getST, ev_getSR, ev_getSL, ev_all, ev_allK, ev_eqXI, ev_eqXS, ev_neXI, ev_neXS, ev_neXB, ev_eqXB, ev_eqXR, ev_neXR, ev_nil2, ev_eqK, ev_neK, ev_meth, ev_meth0, ev_mth1, ev_mth2, ev_mth3, ev_append, ev_m0, ev_m0K, ev_str, ev_for, ev_miR1, ev_rg1K, ev_miL, ev_liK, ev_miT, ev_tiK, ev_lc, ev_wipe0, ev_wipeS, ev_yes, ev_lenSet, ev_lenSetK, ev_listR, ev_lrK, ev_put2, ev_p2A, ev_p2K, ev_p2E, ev_put1, ev_pt1, ev_addXI, ev_addXB, ev_addXS, ev_addXT, ev_addXL, ev_subXI, ev_subXB, ev_mulXI, ev_mulXB, ev_mulXL, ev_negXI, ev_negXB, ev_strXI, ev_strXB, ev_mulYI, ev_mulYB, ev_mulYL, ev_mulYT, List.getElem?_cons_zero, List.getElem?_cons_succ, List.set_cons_zero, List.set_cons_succ, List.length_cons, List.length_nil, List.cons_append, List.nil_append, if_true, if_false, Bool.false_eq_true, Bool.true_eq_false, reduceIte, Bool.not_true, Bool.not_false, Bool.and_true, Bool.true_and, Bool.and_false, Bool.false_and, Bool.or_true, Bool.true_or, Bool.or_false, Bool.false_or, decide_eq_true_eq, Nat.reduceAdd, Nat.reduceLeDiff, Nat.zero_add, Int.reduceLT, Int.reduceLE, Int.reduceEq, Int.reduceNeg, Nat.reduceEqDiff, and_self, and_true, true_and, decide_true, decide_false, eq_self, ite_true, ite_false, Int.reduceSub, Int.reduceAdd, Int.cast_ofNat_Int, Int.natCast_add, Int.cast_ofNat_Int, Nat.reduceSub, Nat.add_assoc, String.reduceBEq, String.reduceEq, Bool.or_not_self, beq_self_eq_true, h, c1, c2, p1, decide_true]
      exact ⟨_, rfl, 0, _, ev_last, by decide, (bag_pos' _).1, (bag_pos' _).2⟩
    · simp only [ev_bok, ev_bno, ev_bex, ev_tok, ev_tno, ev_tex, ev_nnx, ev_nrt, ev_nbk, ev_nct, ev_nex, ev_nno, ev_frt, ev_fnx, ev_fex, ev_xok, ev_lsome, ev_lnone, ev_seq, ev_if, ev_ret, ev_retN, ev_drop, ev_nop, ev_brk, ev_cont, ev_asgN, ev_asgT, ev_asgO, ev_mgTup, ev_mgN, ev_mgC, ev_mg0, ev_putL, ev_putO, ev_var, ev_vr, ev_c, ev_op, ev_un, ev_test, ev_tb, ev_notT, ev_andT, ev_orT, ev_ifE, ev_not, ev_nb, ev_and, ev_andK, ev_or, ev_orK, ev_chain, ev_chK, ev_nil, ev_cons, ev_tup, ev_lst, ev_new, ev_call, ev_cb, ev_size, ev_addI, ev_addS, ev_addT, ev_addL, ev_catO, ev_sub, ev_mul, ev_div, ev_mod, ev_p5, ev_p6, ev_p12, ev_p18, ev_p30, ev_neg, ev_ltI, ev_ltS, ev_leI, ev_leS, ev_gt, ev_ge, ev_eqI, ev_eqS, ev_neI, ev_neS, ev_neB, ev_eqB, ev_is, ev_isnot, ev_ixT, ev_ixS, ev_ixR, ev_ixL, ev_ixK, ev_getL, ev_getM, ev_gL, ev_gM, ev_at0, ev_at1, ev_at2, ev_at3, ev_at4, ev_lenS, ev_lenR, ev_lenT, ev_lenL, ev_lenO, ev_lenD, ev_abs, ev_min2, ev_max2, ev_intI, ev_intB, ev_set, ev_fc, ev_setset, ev_last, ev_appk, ev_app0, ev_setk, ev_set0, ev_assoc, ev_lapp, ev_lappA, ev_sl, ev_nopart, ev_part, ev_ptK, ev_slT, ev_slS, ev_slR, ev_slK, ev_tyN, ev_tyB, ev_tyI, ev_tyS, ev_tyT, ev_tyL, ev_tyR, ev_tyRL, ev_isi, ev_isi1, ev_isi2, ev_isi3, ev_isi4, ev_isi5, ev_isiT, ev_isi2K, ev_isTy, ev_list, ev_listK, ev_tuple, ev_tupK, ev_getST, ev_getSR, ev_getSL, ev_all, ev_allK, ev_eqXI, ev_eqXS, ev_neXI, ev_neXS, ev_neXB, ev_eqXB, ev_eqXR, ev_neXR, ev_nil2, ev_eqK, ev_neK, ev_meth, ev_meth0, ev_mth1, ev_mth2, ev_mth3, ev_append, ev_m0, ev_m0K, ev_str, ev_for, ev_miR1, ev_rg1K, ev_miL, ev_liK, ev_miT, ev_tiK, ev_lc, ev_wipe0, ev_wipeS, ev_yes, ev_lenSet, ev_lenSetK, ev_listR, ev_lrK, ev_put2, ev_p2A, ev_p2K, ev_p2E, ev_put1, ev_pt1, ev_addXI, ev_addXB, ev_addXS, ev_addXT, ev_addXL, ev_subXI, ev_subXB, ev_mulXI, ev_mulXB, ev_mulXL, ev_negXI, ev_negXB, ev_strXI, ev_strXB, ev_mulYI, ev_mulYB, ev_mulYL, ev_mulYT, List.getElem?_cons_zero, List.getElem?_cons_succ, List.set_cons_zero, List.set_cons_succ, List.length_cons, List.length_nil, List.cons_append, List.nil_append, if_true, if_false, Bool.false_eq_true, Bool.true_eq_false, reduceIte, Bool.not_true, Bool.not_false, Bool.and_true, Bool.true_and, Bool.and_false, Bool.false_and, Bool.or_true, Bool.true_or, Bool.or_false, Bool.false_or, decide_eq_true_eq, Nat.reduceAdd, Nat.reduceLeDiff, Nat.zero_add, Int.reduceLT, Int.reduceLE, Int.reduceEq, Int.reduceNeg, Nat.reduceEqDiff, and_self, and_true, true_and, decide_true, decide_false, eq_self, ite_true, ite_false, Int.reduceSub, Int.reduceAdd, Int.cast_ofNat_Int, Int.natCast_add, Int.cast_ofNat_Int, Nat.reduceSub, Nat.add_assoc, String.reduceBEq, String.reduceEq, Bool.or_not_self, beq_self_eq_true, h, p1, decide_false]
      exact ⟨_, rfl, d, _, ev_last, hd, (bag_pos' _).1, (bag_pos' _).2⟩
  by_cases h : k < ns.length
  · obtain ⟨j, hj⟩ : ∃ j : Nat, k = (j : Int) := ⟨k.toNat, by omega⟩
    have hjl : j < ns.length := by omega
    have hat : atI (ns.map A.int) k = some (.int ns[j]) := by
      rw [hj]
      exact atI_nat (by rw [List.getElem?_map, List.getElem?_eq_getElem hjl]; rfl)
    have ha : 0 ≤ (if ns[j] < 0 then -ns[j] else ns[j]) := by split <;> omega
    obtain ⟨o, e, g⟩ := fin1 _ ha
    refine ⟨o, ?_, g⟩
    simp only [ev_seq, ev_asgN, ev_c, ev_tok, ev_nnx, ev_if, ev_test, ev_op, ev_cb, ev_cons, ev_nil, ev_bok, ev_var, List.getElem?_cons_succ, List.getElem?_cons_zero, ev_vr, ev_lenL, List.set_cons_succ, List.set_cons_zero, List.length_map, ev_ltI, ev_tb, h, decide_true, if_true, ev_ixL, hat, ev_lsome, ev_abs] at e ⊢
    exact e
  · obtain ⟨o, e, g⟩ := fin1 0 (by decide)
    refine ⟨o, ?_, g⟩
    simp only [ev_seq, ev_asgN, ev_c, ev_tok, ev_nnx, ev_if, ev_test, ev_op, ev_cb, ev_cons, ev_nil, ev_bok, ev_var, List.getElem?_cons_succ, List.getElem?_cons_zero, ev_vr, ev_lenL, List.set_cons_succ, List.set_cons_zero, List.length_map, ev_ltI, ev_tb, h, decide_false, if_false, Bool.false_eq_true, ev_nop] at e ⊢
    exact e
theorem BagAt.apps {st : Sto} {b : Nat} (h : BagAt st b) (l : Sto) : BagAt (st ++ l) b := by
  have hl := h.lt
  obtain ⟨x, y, e, r⟩ := h
  exact ⟨x, y, by rw [List.getElem?_append_left hl]; exact e, r⟩
theorem Old.apps (b : Nat) (st l : Sto) : Old b st (st ++ l) := ⟨by rw [List.length_append]; omega, fun n hn _ => List.getElem?_append_left hn⟩


/-! ### _law_name -/
abbrev s__law_name : Stmt := topS 56
theorem sc__law_name : FnScope ["bag", "many", "k"] ["bag"] (defScope s__law_name) := ⟨rfl, rfl, rfl, by decide +kernel, rfl, by decide +kernel, by decide +kernel⟩

noncomputable def b__law_name : MS := (sSeq (sAsg (mOp oAddX (mC (.int 1)) (mOp oIxD (mLst (mCons (mCall 2 m__law_take (mCons (mVar 0) (mCons (mC (.int 3)) mNil))) (mCons (mCall 2 m__law_take (mCons (mVar 0) (mCons (mC (.int 8)) mNil))) mNil))) (mCB oInt (mCons (mOp oEqX (mCall 2 m__law_take (mCons (mVar 0) (mCons (mC (.int 4)) mNil))) (mC (.int 0))) mNil)))) (mgName 1))
 (sRet (mJoin (mC (.str "")) (mLc (miR1 (mCons (mVar 1) mNil)) (mgName 2) mYes (mOp oIxD (mC (.str "abcdefghijklmnopqrstuvwxyz")) (mCall 2 m__law_take (mCons (mVar 0) (mCons (mC (.int 26)) mNil)))) [2]))))
noncomputable def m__law_name : List A → Sto → Res A := runB 3 b__law_name
theorem ok__law_name {f : Addr} {fd : FuncData} (F : Fun K "_law_name" "_law_name" s__law_name f fd) (gm : mg "_law_name" = some (.ref f)) (N : Fre K mg) (c__law_take : C8.Cal P w K mg base 1 "_law_take" (spN K w 2 m__law_take) []) : C8.Cal P w K mg base 2 "_law_name" (spN K w 1 m__law_name) [] := by
  refine mkCal F gm sc__law_name (F.binds (ps := ["bag"]) fun _ _ _ _ _ _ us hl => match us, hl with | [_], _ => rfl) (fun vs H Q E h => ?_) (fun cdv A outer s H vs Q E hr h => ?_)
  · obtain ⟨_, _, _, hl, _⟩ := h
    exact hl
  · refine ⟨_, (pss_cons (ps_set (i := 1) sc__law_name.nd rfl (.inl rfl) (pe_op (show OpR _ _ (rAddX K) from dAddX) pe_int (pe_ix (show IxR _ (rIxAny K) from dIx) (pe_lst (pa_cons (C8.pe_c c__law_take hr (by decide) rfl (pa_cons (pv 0) (pa_cons pe_int pa_nil))) (pa_cons (C8.pe_c c__law_take hr (by decide) rfl (pa_cons (pv 0) (pa_cons pe_int pa_nil))) pa_nil))) (pe_callTy (show CallR _ _ rIntAny from call_intAny) (by rfl) N.int (by decide +kernel) (pa_cons (pe_cmpR (show OpR _ _ (rEqX K) from (dEqX hr.units)) (C8.pe_c c__law_take hr (by decide) rfl (pa_cons (pv 0) (pa_cons pe_int pa_nil))) pe_int (nomark _)) pa_nil)) (fun _ _ => rfl))))
 (pss_one (ps_ret (pe_join pe_str (pe_lc (own := [("k", 2)]) (g := gName 2) (tt := tYes) rfl sc__law_name.nd (pi_range1 (by rfl) N.range (pa_cons (pv 1) pa_nil)) (blkOk_by (N := ["bag", "many", "k"]) (sc := defScope s__law_name) (by decide +kernel)) (fun _ _ _ _ _ => pg_name (i := 2) sc__law_name.nd rfl (Or.inl rfl)) (fun _ _ _ _ _ => pts_nil) (fun _ _ _ _ _ => (pe_ix (show IxR _ (rIxAny K) from dIx) pe_str (C8.pe_c c__law_take hr (by decide) rfl (pa_cons (pv 0) (pa_cons pe_int pa_nil))) (fun _ _ => rfl)))))))), ?_⟩
    exact spN_body (b := b__law_name) (show RS K w WF _ b__law_name from (rs_seq (rs_asg (re_op r2_addX re_int (re_op r2_ixD (re_lst (ra_cons (re_call (ra_cons (re_var (i := 0)) (ra_cons re_int ra_nil))) (ra_cons (re_call (ra_cons (re_var (i := 0)) (ra_cons re_int ra_nil))) ra_nil))) (re_cb rl_int (ra_cons (re_op r2_eqX (re_call (ra_cons (re_var (i := 0)) (ra_cons re_int ra_nil))) re_int) ra_nil)))) (rg_name (i := 1) (vs := [1]) (by decide)))
 (rs_ret (re_join re_str (re_lc (ri_range1 (ra_cons (re_var (i := 1)) ra_nil)) (rg_name (i := 2) (vs := [2]) (by decide)) rt_yes (re_op r2_ixD re_str (re_call (ra_cons (re_var (i := 0)) (ra_cons re_int ra_nil))))))))) h
theorem st__law_name (a0 : A) (st : Sto) : m__law_name [a0] st = fin (b__law_name [some a0, none, none] st) := rfl


/-! ### mirrors: dicts whose keys are tuples of texts and numbers -/
section
variable {w : World} {W : WishX} {X : Cx}
theorem key_ofT {pins : List (Addr × Obj)} {σ : L2.St} {H : Hp} {s : Shared} {b : Addr} {k : List Key} (I : Inv X pins σ H s) (h : SqT X.K H b (k.map kV)) : (tupleKind (mixKind X.prog X.w)).is s.heap k b := by
  obtain ⟨its, r, ⟨o, ho, hc, n, hd⟩, _⟩ := I.tuple h
  exact ⟨o, its.toArray, n, ho, hc, hd, by simpa using items_are r⟩
/-- a tuple in such a dict, or not -/
def tTIn (K : PySem.W.Frag) (neg : Bool) (ty td : TE) : TE := fun σ H Q => ty σ H fun y H1 => td σ H1 fun x H2 => ∃ a kvs k b, x = .ref a ∧ Rd H2 a (.dT kvs) ∧ y = .ref b ∧ SqT K H2 b (k.map kV) ∧ Q (.bl ((valV kvs k).isSome != neg)) H2
variable {i o : Expr} {ty td : TE}
theorem pc_tin (hu : X.A.units + 1 < cLine) (hi : PE X i ty) (ho : PE X o td) : PC X .In i o (tTIn X.K false ty td) := by
  refine ⟨fun pins s σ H Q I h => ?_⟩
  refine thn (hi.run pins s σ H _ I h) fun iv s1 ⟨y, H1, I1, ry, q1⟩ => thn (ho.run pins s1 σ H1 _ I1 q1) fun u s2 ⟨x, H2, I2, rx, a, kvs, k, b, ex, e, ey, eb, q2⟩ => ?_
  subst ex ey
  obtain rfl : u = Value.ref a := rx
  cases (show iv = Value.ref b from ry)
  obtain ⟨z, hd, xs, rel, dd⟩ := dt_rd I2.hok e
  refine wpAny_in_heap (tupleKind_room_in1 hu) (key_ofT I2 eb) hd dd ?_
  have q := (rel.val k).isSome_eq
  rw [Option.isSome_map] at q
  rw [← q]
  rw [Bool.bne_false] at q2
  exact ⟨.bl (valV kvs k).isSome, H2, I2.tok _, rfl, q2⟩
theorem pc_tnotin (hu : X.A.units + 1 < cLine) (hi : PE X i ty) (ho : PE X o td) : PC X .NotIn i o (tTIn X.K true ty td) := by
  refine ⟨fun pins s σ H Q I h => ?_⟩
  refine thn (hi.run pins s σ H _ I h) fun iv s1 ⟨y, H1, I1, ry, q1⟩ => thn (ho.run pins s1 σ H1 _ I1 q1) fun u s2 ⟨x, H2, I2, rx, a, kvs, k, b, ex, e, ey, eb, q2⟩ => ?_
  subst ex ey
  obtain rfl : u = Value.ref a := rx
  cases (show iv = Value.ref b from ry)
  obtain ⟨z, hd, xs, rel, dd⟩ := dt_rd I2.hok e
  refine wpAny_notIn_heap (tupleKind_room_in1 hu) (key_ofT I2 eb) hd dd ?_
  have q := (rel.val k).isSome_eq
  rw [Option.isSome_map] at q
  rw [← q]
  rw [Bool.bne_true] at q2
  exact ⟨.bl (!(valV kvs k).isSome), H2, I2.tok _, rfl, q2⟩
def keysL : List A → Option (List Key)
  | [] => some []
  | x :: xs => (keyA x).bind fun k => (keysL xs).map (k :: ·)
def keysA : A → Option (List Key)
  | .tup xs => keysL xs
  | _ => none
theorem keysL_is {H : Hp} {ρ : List Addr} : ∀ {vs : List V} {xs : List A} {ks : List Key}, Rvs K H ρ vs xs → keysL xs = some ks → vs = ks.map kV
  | _, _, _, .nil, e => by cases e; rfl
  | _, _, _, .cons h hs, e => by
    unfold keysL at e
    obtain ⟨k, e1, e2⟩ := Option.bind_eq_some_iff.mp e
    obtain ⟨cs, e3, rfl⟩ := Option.map_eq_some_iff.mp e2
    rw [keysL_is hs e3, key_is h e1]
    rfl
theorem keysA_is {H : Hp} {ρ : List Addr} {v : V} {a : A} {ks : List Key} (h : Rv K H ρ v a) (e : keysA a = some ks) : ∃ b, v = .ref b ∧ SqT K H b (ks.map kV) := by
  cases h with
  | tup h hs =>
    rw [← keysL_is hs e]
    exact ⟨_, rfl, h⟩
  | _ => cases e
def gT (n : Nat) (o : Option AO) : Option (Nat × List (List Key × A)) := match o with
  | some (.dT kvs) => some (n, kvs)
  | _ => none
def getDT (st : Sto) : A → Option (Nat × List (List Key × A))
  | .ref n => gT n st[n]?
  | _ => none
theorem getDT_is {ρ : List Addr} {H : Hp} {st : Sto} {v : V} {a : A} {n : Nat} {kvs : List (List Key × A)} (rel : Rel K w ρ H st) (h : Rv K H ρ v a) (e : getDT st a = some (n, kvs)) : ∃ p kv, v = .ref p ∧ ρ[n]? = some p ∧ H p = some (.dT kv) ∧ Rkv K H ρ kv kvs := by
  cases h with
  | ref h =>
    rename_i m p
    have e : gT m st[m]? = some (n, kvs) := e
    unfold gT at e
    split at e
    · rename_i kvs' e'
      cases e
      obtain ⟨kv, h1, h2⟩ := rel.get h e'
      exact ⟨_, kv, rfl, h, h1, h2⟩
    · cases e
  | _ => cases e
def mDNewT : ME := fun _ st => newO (.dT []) st
theorem re_dnewT : RE K w W tDNewT mDNewT := fun ρ H st σ env Q rel re p q nq => by
  obtain ⟨e, r⟩ := rel.new (o := .dT []) (u := .dT []) nq fun H' e' h' => ⟨[], h', .nil⟩
  exact p.giveAt e r (.ref (rel.last q))
def tiKK (neg : Bool) (o : Option (Nat × List (List Key × A))) (k : Option (List Key)) (s : Sto) : Res A := match o, k with
  | some (_, kvs), some k => .ok (.bl ((valA kvs k).isSome != neg)) s
  | _, _ => .no
def mTIn (neg : Bool) (f g : ME) : ME := fun env st => (f env st).bind fun y s1 => (g env s1).bind fun x s2 => tiKK neg (getDT s2 x) (keysA y) s2
theorem re_tin {neg : Bool} {f g : ME} (hf : RE K w W ty f) (hg : RE K w W td g) : RE K w W (tTIn K neg ty td) (mTIn neg f g) := fun ρ H st σ env Q rel re p =>
  hf.use rel re p fun a s1 ρ1 H1 x e1 r1 v1 p1 => hg.use r1 (re.ext e1) p1 fun b s2 ρ2 H2 y e2 r2 v2 p2 => by
    unfold tiKK at p2
    split at p2
    · rename_i n kvs k em ek
      obtain ⟨q, kv, rfl, hq, h1, h2⟩ := getDT_is r2 v2 em
      obtain ⟨b, rfl, hb⟩ := keysA_is (rv_ext e2 v1) ek
      exact ⟨q, kv, k, b, rfl, .inl h1, rfl, hb, by
        rw [isSome_is h2]
        exact p2.give r2 (.bl _)⟩
    · exact p2.elim
/-- d[x, y] = v -/
def dptK (o : Option (Nat × List (List Key × A))) (k : Option (List Key)) (v : A) (env : AEnv) (s : Sto) : RF := match o, k with
  | some (n, kvs), some k => if kvs.length < sizeLine ∧ k.length ≤ sizeLine then .fl (.nx env) (s.set n (.dT (putA kvs k v))) else .no
  | _, _ => .no
def sDPutT (f : ME) (g : MA) (h : ME) : MS := fun env st => (h env st).thenS env fun v s1 => (f env s1).thenS env fun x s2 => (g env s2).thenS env fun ys s3 => dptK (getDT s3 x) (keysL ys) v env s3
theorem RA.useS {ta : TA} {f : MA} {k : List A → Sto → RF} {ρ : List Addr} {H : Hp} {st : Sto} {σ : L2.St} {env : AEnv} {D : Ends} {Q : List V → Hp → Prop} (h : RA K w W ta f) (rel : Rel K w ρ H st) (re : Renv K H ρ σ env) (p : PostS K w ρ H ((f env st).thenS env k) D W)
    (go : ∀ a s1 ρ1 H1 v, Ext ρ ρ1 H H1 → Rel K w ρ1 H1 s1 → Rvs K H1 ρ1 v a → PostS K w ρ1 H1 (k a s1) D W → Q v H1) : ta σ H Q := by
  refine h ρ H st σ env Q rel re ?_
  cases e : f env st with
  | ok a s1 =>
    rw [e] at p
    exact fun ρ1 H1 e1 r1 vs hv => go a s1 ρ1 H1 vs e1 r1 hv (PostS.ext p e1)
  | ex c d s1 =>
    rw [e] at p
    exact fun ρ1 H1 dx e1 r1 hd => p ρ1 H1 σ dx e1 r1 (re.ext e1) hd
  | no => rw [e] at p; exact p
theorem rs_dputT {ta : TA} {tv : TE} {f : ME} {g : MA} {h : ME} (hf : RE K w W td f) (hg : RA K w W ta g) (hh : RE K w W tv h) : RS K w W (sDPut td (tTup ta) tv) (sDPutT f g h) := fun ρ H st σ env D rel re p =>
  hh.useS rel re p fun a s1 ρ1 H1 x e1 r1 v1 p1 => hf.useS r1 (re.ext e1) p1 fun b s2 ρ2 H2 y e2 r2 v2 p2 => hg.useS r2 (re.ext (e1.trans e2)) p2 fun c s3 ρ3 H3 z e3 r3 v3 p3 => by
    unfold dptK at p3
    split at p3
    · rename_i n kvs k em ek
      obtain ⟨q, kv, rfl, hq, h1, h2⟩ := getDT_is r3 (rv_ext e3 v2) em
      cases keysL_is v3 ek
      split at p3
      · rename_i hl
        refine ⟨by rw [List.length_map]; exact hl.2, fun t nt => ?_⟩
        have sm := same_upd (o := .tup (k.map kV)) nt
        have r4 := r3.same sm
        have e4 : Ext ρ3 ρ3 H3 (upd H3 t (.tup (k.map kV))) := Ext.same sm
        have hv := rv_ext (e2.trans (e3.trans e4)) v1
        obtain ⟨e5, r5⟩ := r4.put (o := .dT (putA kvs k a)) (u := .dT (putK kv k x)) hq fun H' e' h' => ⟨_, h', rkv_ext e' (putA_is hv (rkv_ext e4 h2))⟩
        exact ⟨q, _, rfl, DPut.t (sm _ _ h1) upd_same (by rw [kv_len h2]; exact hl.1), p3 ρ3 _ σ (e4.trans e5) r5 (re.ext (e1.trans (e2.trans (e3.trans (e4.trans e5)))))⟩
      · exact p3.elim
    · exact p3.elim
end

/-! ### mirrors: {k: v, ..} -/
section
variable {w : World} {W : WishX}
abbrev MP := AEnv → Sto → Res (List (Key × A))
def RP (K : PySem.W.Frag) (w : World) (W : WishX) (trs : List (TE × TE)) (f : MP) : Prop := ∀ ρ H st σ env Q, Rel K w ρ H st → Renv K H ρ σ env → Post K w ρ H (f env st) (fun kvs _ ρ' H' => ∀ kv, Rkv K H' ρ' kv kvs → Q (kv.map fun q => (kV q.1, q.2)) H') (W · · σ ·) → tPairs trs σ H Q
def mpNil : MP := fun _ st => .ok [] st
theorem rp_nil : RP K w W [] mpNil := fun ρ H st σ env Q rel re p => p ρ H (Ext.refl _ _) rel [] .nil
def pcK (r : MP) (env : AEnv) (y : A) (k : Option Key) (s : Sto) : Res (List (Key × A)) := match k with
  | some k => (r env s).bind fun kvs s1 => .ok ((k, y) :: kvs) s1
  | none => .no
def mpCons (f g : ME) (r : MP) : MP := fun env st => (f env st).bind fun x s1 => (g env s1).bind fun y s2 => pcK r env y (keyA x) s2
theorem rp_cons {tk tv : TE} {trs : List (TE × TE)} {f g : ME} {r : MP} (hf : RE K w W tk f) (hg : RE K w W tv g) (hr : RP K w W trs r) : RP K w W ((tk, tv) :: trs) (mpCons f g r) := fun ρ H st σ env Q rel re p =>
  hf.use rel re p fun a s1 ρ1 H1 x e1 r1 v1 p1 => hg.use r1 (re.ext e1) p1 fun b s2 ρ2 H2 y e2 r2 v2 p2 => by
    unfold pcK at p2
    split at p2
    · rename_i k ek
      cases key_is v1 ek
      refine hr ρ2 H2 s2 σ env _ r2 (re.ext (e1.trans e2)) ?_
      cases e : r env s2 with
      | ok kvs s3 =>
        rw [e] at p2
        intro ρ3 H3 e3 r3 kv hkv
        exact p2 ρ3 H3 e3 r3 ((k, y) :: kv) (.cons ⟨rfl, rv_ext e3 v2⟩ hkv)
      | ex c d s3 => rw [e] at p2; exact p2
      | no => rw [e] at p2; exact p2
    · exact p2.elim
def mergeA (kvs more : List (Key × A)) : List (Key × A) := more.foldl (fun acc kv => putA acc kv.1 kv.2) kvs
theorem mergeA_is {H : Hp} {ρ : List Addr} : ∀ {more : List (Key × V)} {moreA : List (Key × A)} {kv : List (Key × V)} {kvs : List (Key × A)}, Rkv K H ρ more moreA → Rkv K H ρ kv kvs → Rkv K H ρ (mergeK kv more) (mergeA kvs moreA)
  | _, _, _, _, .nil, h => h
  | (k1, v1) :: more, (k2, a2) :: moreA, kv, kvs, .cons h hs, g => by
    obtain ⟨e1, e2⟩ := h
    cases (e1 : k1 = k2)
    show Rkv K H ρ (mergeK (putK kv k1 v1) more) (mergeA (putA kvs k1 a2) moreA)
    exact mergeA_is hs (putA_is e2 g)
def dsK (n : Nat) (kvs : List (Key × A)) (s : Sto) : Res A := match s[n]? with
  | some (.dK []) => if kvs.length ≤ 15 then .ok (.ref n) (s.set n (.dK (mergeA [] kvs))) else .no
  | _ => .no
def mDisp (f : MP) : ME := fun env st => (f env (st ++ [.dK []])).bind fun kvs s => dsK st.length kvs s
theorem re_disp {trs : List (TE × TE)} {f : MP} (hf : RP K w W trs f) : RE K w W (tDisp trs) (mDisp f) := fun ρ H st σ env Q rel re p t nt => by
  obtain ⟨e1, r1⟩ := rel.new (o := .dK []) (u := .dK []) nt fun H' e' h' => ⟨[], h', .nil⟩
  have hD := rel.last t
  have p : Post K w ρ H ((f env (st ++ [.dK []])).bind fun kvs s => dsK st.length kvs s) _ _ := p
  refine hf (ρ ++ [t]) _ _ σ env _ r1 (re.ext e1) ?_
  cases e : f env (st ++ [.dK []]) with
  | no => rw [e] at p; exact p
  | ex c d s1 =>
    rw [e] at p
    exact fun ρ1 H1 dx e2 r2 hd => p ρ1 H1 dx (e1.trans e2) r2 hd
  | ok kvs s1 =>
    rw [e] at p
    intro ρ2 H2 e2 r2 kv hkv
    have p : Post K w ρ H (dsK st.length kvs s1) _ _ := p
    unfold dsK at p
    split at p
    · rename_i es
      obtain ⟨kv0, h1, h2⟩ := r2.get (e2.get hD) es
      cases h2
      split at p
      · rename_i hl
        obtain ⟨e3, r3⟩ := r2.put (o := .dK (mergeA [] kvs)) (u := .dK (mergeK [] kv)) (e2.get hD) fun H' e' h' => ⟨_, h', rkv_ext e' (mergeA_is hkv .nil)⟩
        exact ⟨h1, kv, rfl, by rw [kv_len hkv]; exact hl, p.giveAt (e1.trans (e2.trans e3)) r3 (.ref (e3.get (e2.get hD)))⟩
      · exact p.elim
    · exact p.elim
end

/-! ### mirrors: what the dicts' operations give -/
section
variable {env : AEnv} {st s : Sto} {a b : A} {i : Int} {x : Str} {n : Nat} {kvs : List (Key × A)} {tvs : List (List Key × A)} {k : Key} {ks : List Key} {xs : List A} {f g h : ME}
theorem ev_dnew : mDNew env st = newO (.dK []) st := rfl
theorem ev_dnewT : mDNewT env st = newO (.dT []) st := rfl
theorem ev_dgetE : mDGet f g env st = (f env st).bind fun x s1 => (g env s1).bind fun y s2 => dgK (getD s2 x) (keyA y) s2 := rfl
theorem ev_getD : getD st (.ref n) = gD n st[n]? := rfl
theorem ev_gD : gD n (some (.dK kvs)) = some (n, kvs) := rfl
theorem ev_keyI : keyA (.int i) = some (.inl i) := rfl
theorem ev_keyS : keyA (.str x) = some (.inr x) := rfl
theorem ev_dgK : dgK (some (n, kvs)) (some k) s = lift (valA kvs k) s := rfl
theorem ev_dinE {c : Bool} : mDIn c f g env st = (f env st).bind fun y s1 => (g env s1).bind fun x s2 => diK c (getD s2 x) (keyA y) s2 := rfl
theorem ev_diK {c : Bool} : diK c (some (n, kvs)) (some k) s = .ok (.bl ((valA kvs k).isSome != c)) s := rfl
theorem ev_dputE : sDPutM f g h env st = (h env st).thenS env fun v s1 => (f env s1).thenS env fun x s2 => (g env s2).thenS env fun y s3 => dpK (getD s3 x) (keyA y) v env s3 := rfl
theorem ev_dpK : dpK (some (n, kvs)) (some k) a env s = if kvs.length < sizeLine then .fl (.nx env) (s.set n (.dK (putA kvs k a))) else .no := rfl
theorem ev_dget2E : mDGet2 f g h env st = (f env st).bind fun x s1 => if isDA s1 x = true then (g env s1).bind fun y s2 => (h env s2).bind fun z s3 => dg2K (getD s3 x) (keyA y) z s3 else .no := rfl
theorem ev_isDA : isDA st (.ref n) = (gD n st[n]?).isSome := rfl
theorem ev_isSome {α : Type} {c : α} : (some c).isSome = true := rfl
theorem ev_isNone {α : Type} : (none : Option α).isSome = false := rfl
theorem ev_dg2K : dg2K (some (n, kvs)) (some k) a s = .ok ((valA kvs k).getD a) s := rfl
theorem ev_dpop2E : mDPop2 f g h env st = (f env st).bind fun x s1 => if isDA s1 x = true then (g env s1).bind fun y s2 => (h env s2).bind fun z s3 => dp2K (getD s3 x) (keyA y) z s3 else .no := rfl
def dp3 (o : Option A) (n : Nat) (kvs : List (Key × A)) (k : Key) (z : A) (s : Sto) : Res A := match o with
  | some v => .ok v (s.set n (.dK (dropA kvs k)))
  | none => .ok z s
theorem ev_dp2K : dp2K (some (n, kvs)) (some k) a s = dp3 (valA kvs k) n kvs k a s := by
  unfold dp2K dp3
  rfl
theorem ev_dp3S : dp3 (some b) n kvs k a s = .ok b (s.set n (.dK (dropA kvs k))) := rfl
theorem ev_dp3N : dp3 none n kvs k a s = .ok a s := rfl
theorem ev_sortedE : oSorted [a] st = srO (getL st a) (getD st a) st := rfl
theorem ev_srO1 {d : Option (Nat × List (Key × A))} : srO (some xs) d st = srK (strsOf xs) (intsOf xs) st := rfl
theorem ev_srO2 : srO none (some (n, kvs)) st = srK (keyS kvs) (keyI kvs) st := rfl
theorem ev_gLd : gL (some (.dK kvs)) = none := rfl
theorem ev_srKS {ss : List Str} {oi : Option (List Int)} : srK (some ss) oi st = if ss.length < 64 then newO (.lst ((sortS ss).map A.str)) st else .no := rfl
theorem ev_srKI {ns : List Int} : srK none (some ns) st = if ns.length < 64 then newO (.lst ((sortI ns).map A.int)) st else .no := rfl
theorem ev_gDT : getDT st (.ref n) = gT n st[n]? := rfl
theorem ev_gT : gT n (some (.dT tvs)) = some (n, tvs) := rfl
theorem ev_tinE {c : Bool} : mTIn c f g env st = (f env st).bind fun y s1 => (g env s1).bind fun x s2 => tiKK c (getDT s2 x) (keysA y) s2 := rfl
theorem ev_tiKK {c : Bool} : tiKK c (some (n, tvs)) (some ks) s = .ok (.bl ((valA tvs ks).isSome != c)) s := rfl
theorem ev_keysA : keysA (.tup xs) = keysL xs := rfl
theorem ev_keysN : keysL [] = some [] := rfl
theorem ev_keysC : keysL (a :: xs) = (keyA a).bind fun k => (keysL xs).map (k :: ·) := rfl
theorem ev_dputTE {m : MA} : sDPutT f m h env st = (h env st).thenS env fun v s1 => (f env s1).thenS env fun x s2 => (m env s2).thenS env fun ys s3 => dptK (getDT s3 x) (keysL ys) v env s3 := rfl
theorem ev_dptK : dptK (some (n, tvs)) (some ks) a env s = if tvs.length < sizeLine ∧ ks.length ≤ sizeLine then .fl (.nx env) (s.set n (.dT (putA tvs ks a))) else .no := rfl
theorem ev_dispE {m : MP} : mDisp m env st = (m env (st ++ [.dK []])).bind fun kvs s => dsK st.length kvs s := rfl
theorem ev_mpN : mpNil env st = .ok [] st := rfl
theorem ev_mpC {m : MP} : mpCons f g m env st = (f env st).bind fun x s1 => (g env s1).bind fun y s2 => pcK m env y (keyA x) s2 := rfl
theorem ev_pcK {m : MP} : pcK m env a (some k) s = (m env s).bind fun kvs s1 => .ok ((k, a) :: kvs) s1 := rfl
def dsK2 (o : Option AO) (n : Nat) (kvs : List (Key × A)) (s : Sto) : Res A := match o with
  | some (.dK []) => if kvs.length ≤ 15 then .ok (.ref n) (s.set n (.dK (mergeA [] kvs))) else .no
  | _ => .no
theorem ev_dsK : dsK n kvs s = dsK2 s[n]? n kvs s := rfl
theorem ev_dsK2 : dsK2 (some (.dK [])) n kvs s = if kvs.length ≤ 15 then .ok (.ref n) (s.set n (.dK (mergeA [] kvs))) else .no := rfl
theorem ev_lc2E {mi mi1 : MI} {m m1 : MG} {tt tt1 : MT} {vs vs1 : List Nat} : mLc2 mi m tt mi1 m1 tt1 f vs vs1 env st = (mi env st).bind fun xo s => lc2L s.length xo.2 m tt mi1 m1 tt1 f (wipeA env vs) vs1 xo.1 (s ++ [.lst []]) := rfl
end

/-! ### mirrors: what is never run, texts taken apart, f-strings, starred items, every second item -/
section
variable {X : Cx} {w : World} {W : WishX}
/-! what is never run -/
theorem pe_imp {e : Expr} : PE X e (fun _ _ _ => False) := ⟨fun _ _ _ _ _ _ z => z.elim⟩
theorem ps_imp {e : Stmt} : PS X e (fun _ _ _ => False) := ⟨fun _ _ _ _ _ _ z => z.elim⟩
def mImp : ME := fun _ _ => .no
def sImp : MS := fun _ _ => .no
theorem re_imp : RE K w W (fun _ _ _ => False) mImp := fun ρ H st σ env Q rel re p => p
theorem rs_imp : RS K w W (fun _ _ _ => False) sImp := fun ρ H st σ env D rel re p => p
theorem ev_imp {env : AEnv} {st : Sto} : mImp env st = .no := rfl
theorem ev_simp {env : AEnv} {st : Sto} : sImp env st = .no := rfl
/-! split -/
def splG (z y : A) (s : Sto) : Res A := match z, y with
  | .str a, .str b => if (b.length == 0) = false ∧ a.length + 2 ≤ sizeLine then newO (.lst ((Txt.split a b).map A.str)) s else .no
  | _, _ => .no
def splF (g : ME) (env : AEnv) (z : A) (s1 : Sto) : Res A := match z with
  | .str a => (g env s1).bind fun y s => splG (.str a) y s
  | _ => .no
def mSplit (f g : ME) : ME := fun env st => (f env st).bind (splF g env)
theorem rvs_strs {ρ : List Addr} {H : Hp} : ∀ {ys : List Str}, Rvs K H ρ (ys.map V.str) (ys.map A.str)
  | [] => .nil
  | y :: ys => .cons (.str y) rvs_strs
theorem re_split {t u : TE} {f g : ME} (hf : RE K w W t f) (hg : RE K w W u g) : RE K w W (tM1 (fun x xs H Q => ∃ a b, x = .str a ∧ xs = [.str b] ∧ (b.length == 0) = false ∧ a.length + 2 ≤ sizeLine ∧ rNewStrs (Txt.split a b) H Q) t u) (mSplit f g) := fun ρ H st σ env Q rel re p =>
  hf.use rel re p fun z s1 ρ1 H1 x e1 r1 v1 p1 => by
    unfold splF at p1
    split at p1
    · rename_i c
      cases v1
      refine ⟨⟨_, rfl⟩, hg.use r1 (re.ext e1) p1 fun a s2 ρ2 H2 y e2 r2 v2 p2 => ?_⟩
      unfold splG at p2
      split at p2
      · rename_i c1 b h1
        cases h1
        cases v2
        split at p2
        · rename_i hc
          exact ⟨_, _, rfl, rfl, hc.1, hc.2, fun q nq => post_newL r2 rvs_strs p2 q nq⟩
        · exact p2.elim
      · exact p2.elim
    · exact p1.elim
/-- join inside a comprehension: the frame by its name -/
theorem pe_joinK {K : PySem.W.Frag} {o e : Expr} {to te : TE} {apos pos : Pos} (ho : PE X o to) (he : PE X e te) (hK : X.K = K := by rfl) (hs : starEach [e] X.env = [(false, eval e X.env)] := by rfl) (hbase : attributeBase o "join" X.env (eval o X.env) = eval o X.env := by rfl) (hline : (apos.endLine == pos.line) = true := by rfl) :
    PE X (.Call (.Attribute o "join" apos) [e] [] pos) (tM1 (fun x xs H Q => ∃ a p, ∃ ys : List Str, x = .str a ∧ xs = [.ref p] ∧ (SqL K H p (ys.map V.str) ∨ SqT K H p (ys.map V.str)) ∧ (ys.map (·.length)).sum + ys.length * a.length ≤ 16777216 ∧ Q (.str (Txt.join a ys)) H) to te) := by
  subst hK
  exact pe_join ho he hs hbase hline
/-! f-strings -/
def fmtK (a : A) (s : Sto) : Res A := match a with
  | .str y => if y.length ≤ sizeLine then .ok (.str y) s else .no
  | .int i => if i.natAbs.log2 < 1920 then .ok (.str (toString i)) s else .no
  | _ => .no
def mFmt (f : ME) : ME := fun env st => (f env st).bind fmtK
theorem re_fmt {t : TE} {f : ME} (hf : RE K w W t f) : RE K w W (tFmt t) (mFmt f) := fun ρ H st σ env Q rel re p =>
  hf.use rel re p fun z s1 ρ1 H1 x e1 r1 v1 p1 => by
    unfold fmtK at p1
    split at p1
    · cases v1
      split at p1
      · rename_i h
        exact .inl ⟨_, rfl, h, p1.give r1 (.str _)⟩
      · exact p1.elim
    · cases v1
      split at p1
      · rename_i h
        exact .inr ⟨_, rfl, h, p1.give r1 (.str _)⟩
      · exact p1.elim
    · exact p1.elim
inductive RJ (K : PySem.W.Frag) (w : World) (W : WishX) : List TE → List ME → Prop where
  | nil : RJ K w W [] []
  | cons {t : TE} {f : ME} {ts : List TE} {fs : List ME} (h : RE K w W t f) (r : RJ K w W ts fs) : RJ K w W (t :: ts) (f :: fs)
def addK (acc : Str) (a : A) (k : Str → Sto → Res A) (s : Sto) : Res A := match a with
  | .str y => if (acc ++ y).length ≤ sizeLine then k (acc ++ y) s else .no
  | _ => .no
def mJs (env : AEnv) : List ME → Str → Sto → Res A
  | [], acc, st => .ok (.str acc) st
  | f :: fs, acc, st => (f env st).bind fun a s => addK acc a (mJs env fs) s
def mJoined (fs : List ME) : ME := fun env st => mJs env fs Str.empty st
theorem rj_run {ts : List TE} {fs : List ME} (h : RJ K w W ts fs) : ∀ (ρ : List Addr) (H : Hp) (st : Sto) (σ : L2.St) (env : AEnv) (Q : VK) (acc : Str), Rel K w ρ H st → Renv K H ρ σ env →
    Post K w ρ H (mJs env fs acc st) (fun a _ ρ' H' => ∀ v, Rv K H' ρ' v a → Q v H') (W · · σ ·) → tJs ts acc σ H fun out H1 => Q (.str out) H1 := by
  induction h with
  | nil => exact fun ρ H st σ env Q acc rel re p => p.give rel (.str _)
  | cons h r ih =>
    intro ρ H st σ env Q acc rel re p
    refine h.use rel re p fun a s1 ρ1 H1 x e1 r1 v1 p1 => ?_
    unfold addK at p1
    split at p1
    · cases v1
      split at p1
      · rename_i hl
        exact ⟨_, rfl, hl, ih ρ1 H1 s1 σ env Q _ r1 (re.ext e1) p1⟩
      · exact p1.elim
    · exact p1.elim
theorem re_joined {ts : List TE} {fs : List ME} (h : RJ K w W ts fs) : RE K w W (fun σ H Q => tJs ts Str.empty σ H fun out H1 => Q (.str out) H1) (mJoined fs) := fun ρ H st σ env Q rel re p => rj_run h ρ H st σ env Q Str.empty rel re p
/-! starred items -/
def starK (o : Option (List A)) (g : MA) (env : AEnv) (s : Sto) : Res (List A) := match o with
  | some xs => (g env s).bind fun ys s2 => .ok (xs ++ ys) s2
  | none => .no
def mStar (f : ME) (g : MA) : MA := fun env st => (f env st).bind fun x s => starK (getS s x) g env s
theorem ra_star {t : TE} {u : TA} {f : ME} {g : MA} (hf : RE K w W t f) (hg : RA K w W u g) : RA K w W (StX.tStar K t u) (mStar f g) := fun ρ H st σ env Q rel re p =>
  hf.use rel re p fun a s1 ρ1 H1 x e1 r1 v1 p1 => by
    unfold starK at p1
    split at p1
    · rename_i xs e
      obtain ⟨q, vs, rfl, h1, h2⟩ := getS_sq r1 v1 e
      refine ⟨q, vs, rfl, h1.symm, hg.use r1 (re.ext e1) p1 fun as s2 ρ2 H2 ys e2 r2 v2 p2 => ?_⟩
      exact p2 ρ2 H2 (Ext.refl _ _) r2 _ ((rvs_ext e2 h2).append v2)
    · exact p1.elim
/-! every second of eight items -/
def pick2 {α : Type} (xs : List α) (lo : Option Int) : Option (List α) := match xs, lo with
  | [a, _, c, _, e, _, g, _], none => some [a, c, e, g]
  | [_, b, _, d, _, f, _, h], some 1 => some [b, d, f, h]
  | _, _ => none
def tEach2 (K : PySem.W.Frag) (te : TE) (tl : TO) : TE := fun σ H Q => te σ H fun x H1 => tl σ H1 fun lo H2 => ∃ a xs ys, x = .ref a ∧ SqL K H2 a xs ∧ pick2 xs lo = some ys ∧ ∀ p, H2 p = none → Q (.ref p) (upd H2 p (.lst ys))
theorem pick2_is {vs : List V} {lo : Option Int} {ys : List V} {its : List Value} (r : Vals vs its) (e : pick2 vs lo = some ys) : ys.length = 4 ∧ ∃ its', (slicePick its.toArray lo none (some 2)) = its'.toArray ∧ Vals ys its' := by
  unfold pick2 at e
  split at e
  · cases e
    cases r with | cons r0 r => cases r with | cons r1 r => cases r with | cons r2 r => cases r with | cons r3 r => cases r with | cons r4 r => cases r with | cons r5 r => cases r with | cons r6 r => cases r with | cons r7 r =>
      cases r
      refine ⟨rfl, _, ?_, .cons r0 (.cons r2 (.cons r4 (.cons r6 .nil)))⟩
      have q : sliceRange (sliceBounds none none (some 2) 8).1 (sliceBounds none none (some 2) 8).2.1 (sliceBounds none none (some 2) 8).2.2 = [0, 2, 4, 6] := by decide
      unfold slicePick
      rw [show (List.toArray [_, _, _, _, _, _, _, _] : Array Value).size = 8 from rfl, q]
      rfl
  · cases e
    cases r with | cons r0 r => cases r with | cons r1 r => cases r with | cons r2 r => cases r with | cons r3 r => cases r with | cons r4 r => cases r with | cons r5 r => cases r with | cons r6 r => cases r with | cons r7 r =>
      cases r
      refine ⟨rfl, _, ?_, .cons r1 (.cons r3 (.cons r5 (.cons r7 .nil)))⟩
      have q : sliceRange (sliceBounds (some 1) none (some 2) 8).1 (sliceBounds (some 1) none (some 2) 8).2.1 (sliceBounds (some 1) none (some 2) 8).2.2 = [1, 3, 5, 7] := by decide
      unfold slicePick
      rw [show (List.toArray [_, _, _, _, _, _, _, _] : Array Value).size = 8 from rfl, q]
      rfl
  · cases e
theorem pe_each2 {e : Expr} {lo : Option Expr} {te : TE} {tl : TO} {k : Nat} {p1 p3 pos : Pos} (he : PE X e te) (hl : PO X lo tl)
    (hops : ∀ a b, subscripted (.Slice lo none (some (.Constant (.int 2) k p1)) p3) false (.ref a) (.ref b) = operate [.ref a, .ref b] (getItem (.ref a) (.ref b)) := by intro _ _; with_unfolding_all rfl) : PE X (.Subscript e (.Slice lo none (some (.Constant (.int 2) k p1)) p3) pos) (tEach2 X.K te tl) := by
  have two : PO X (some (.Constant (.int 2) k p1)) (tPart (tC (.int 2))) := po_some pe_int
  constructor
  intro pins s σ H Q I h
  apply Subscript_
  refine thn (he.run pins s σ H _ I h) ?_
  rintro v s1 ⟨x, H1, I1, r1, q1⟩
  apply wpAny_Slice
  refine thn (hl.run pins s1 σ H1 _ I1 q1) ?_
  rintro vl s2 ⟨l, H2, I2, pl, a, xs, ys, rfl, hx, hp, q⟩
  cases r1
  refine thn (po_none.run pins s2 σ H2 (fun o H3 => o = none ∧ H3 = H2) I2 ⟨rfl, rfl⟩) ?_
  rintro vu s3 ⟨u, _, I3, pu, rfl, rfl⟩
  refine thn (two.run pins s3 σ _ (fun o H4 => o = some 2 ∧ H4 = _) I3 ⟨2, rfl, rfl, rfl⟩) ?_
  rintro vs s4 ⟨o, _, I4, ps, rfl, rfl⟩
  have I5 := I4.kept (h' := s4.heap.push { cls := .type "slice", data := .fields #[vl, vu, vs] }) (t' := s4.toks) fun b ob q => Heap.get?_push_of_some _ q
  obtain ⟨its, r, ht, hz⟩ := I5.list hx
  have hlen := r.length
  obtain ⟨h4, its', e, r'⟩ := pick2_is r hp
  show wpAny (model X.prog X.w) X.A (subscriptTail _ _ (.ref a) (.ref s4.heap.objs.size)) (EP X pins σ Q) X.xe _
  refine tail_any (ops := [.ref a, .ref s4.heap.objs.size]) ht.isList.typeIs (PySem.slot_list_getitem.lookup) ?_ (hops _ _)
  refine wpAny_getItem_list_slice ht.isList (Heap.IsSliceOf.new _ vl vu vs) pl pu ps (by decide) ?_ (by rw [List.size_toArray]; omega)
  rw [e]
  refine ⟨.ref _, _, I5.laid (t' := s4.toks) (o := .lst ys) (fun b ob q => Heap.get?_push_of_some _ q) (Nat.le_refl _) ?_, rfl, q _ (I5.hok.fresh (Nat.le_refl _))⟩
  exact ⟨by rw [h4]; decide, _, 0, r', Heap.get?_push_size _ rfl⟩
theorem pick2_rv {ρ : List Addr} {H : Hp} {lo : Option Int} {vs : List V} {xs ys : List A} (r : Rvs K H ρ vs xs) (e : pick2 xs lo = some ys) : ∃ us, pick2 vs lo = some us ∧ Rvs K H ρ us ys := by
  unfold pick2 at e
  split at e
  · cases e
    cases r with | cons r0 r => cases r with | cons r1 r => cases r with | cons r2 r => cases r with | cons r3 r => cases r with | cons r4 r => cases r with | cons r5 r => cases r with | cons r6 r => cases r with | cons r7 r =>
      cases r
      exact ⟨_, rfl, .cons r0 (.cons r2 (.cons r4 (.cons r6 .nil)))⟩
  · cases e
    cases r with | cons r0 r => cases r with | cons r1 r => cases r with | cons r2 r => cases r with | cons r3 r => cases r with | cons r4 r => cases r with | cons r5 r => cases r with | cons r6 r => cases r with | cons r7 r =>
      cases r
      exact ⟨_, rfl, .cons r1 (.cons r3 (.cons r5 (.cons r7 .nil)))⟩
  · cases e
def each2K (o : Option (List A)) (lo : Option Int) (s : Sto) : Res A := match o with
  | some xs => match pick2 xs lo with
    | some ys => newO (.lst ys) s
    | none => .no
  | none => .no
def mEach2 (f : ME) (l : MO) : ME := fun env st => (f env st).bind fun x s1 => (l env s1).bind fun lo s2 => each2K (getL s2 x) lo s2
theorem re_each2 {t : TE} {tl : TO} {f : ME} {l : MO} (hf : RE K w W t f) (hl : RO K w W tl l) : RE K w W (tEach2 K t tl) (mEach2 f l) := fun ρ H st σ env Q rel re p =>
  hf.use rel re p fun a s1 ρ1 H1 x e1 r1 v1 p1 => hl.use r1 (re.ext e1) p1 fun lo s2 ρ2 H2 e2 r2 p2 => by
    unfold each2K at p2
    split at p2
    · rename_i xs e
      obtain ⟨q, vs, rfl, h1, h2⟩ := getL_sq r2 (rv_ext e2 v1) e
      split at p2
      · rename_i ys e3
        obtain ⟨us, e4, h3⟩ := pick2_rv h2 e3
        exact ⟨q, vs, us, rfl, h1, e4, fun z nz => post_newL r2 h3 p2 z nz⟩
      · exact p2.elim
    · exact p2.elim
/-! names set from a list -/
def unlK (o : Option (List A)) (g : MGs) (env : AEnv) (s : Sto) : RF := match o with
  | some xs => asgO (g xs env) s
  | none => .no
def sUnl (f : ME) (g : MGs) : MS := fun env st => (f env st).thenS env fun a s => unlK (getL s a) g env s
theorem rs_unl {t : TE} {gs : TGs} {f : ME} {ms : MGs} {vs : List Nat} {n : Nat} (hf : RE K w W t f) (hl : ∀ as env e, ms as env = some e → as.length = n) (hg : RGns K gs ms vs) : RS K w W (tAsg t (gUnl K n gs)) (sUnl f ms) := fun ρ H st σ env D rel re p =>
  hf.useS rel re p fun a s1 ρ1 H1 x e1 r1 v1 p1 => by
    unfold unlK at p1
    split at p1
    · rename_i xs e
      obtain ⟨q, us, rfl, h1, h2⟩ := getL_sq r1 v1 e
      cases em : ms xs env with
      | none => rw [em] at p1; exact p1.elim
      | some e2 =>
        rw [em] at p1
        refine ⟨q, us, rfl, h1, by rw [h2.length]; exact hl _ _ _ em, hg H1 ρ1 σ env us xs _ (re.ext e1) h2 ?_⟩
        rw [em]
        exact fun σ' re' _ => p1 ρ1 H1 σ' (Ext.refl _ _) r1 re'
    · exact p1.elim
/-! int of a text, str of a text -/
def oIntS : List A → Sto → Res A := fun as st => match as with
  | [.str z] => if z.length ≤ 640 then (match PySem.intText? z with
    | some n => .ok (.int n) st
    | none => .no) else .no
  | _ => .no
def rIntS : RL := fun xs H Q => ∃ a n, xs = [.str a] ∧ PySem.intText? a = some n ∧ a.length ≤ 640 ∧ Q (.int n) H
theorem rl_intS : RLok K w rIntS oIntS := fun ρ H st vs as Q X rel ra p => by
  unfold oIntS at p
  split at p
  · split at p
    · rename_i hl
      split at p
      · rename_i n e
        cases ra with | cons ra r =>
          cases r
          cases ra
          exact ⟨_, n, rfl, e, hl, p.give rel (.int _)⟩
      · exact p.elim
    · exact p.elim
  · exact p.elim
def rStrY : RL := lOr rStrX (fun xs H Q => ∃ a, xs = [.str a] ∧ Q (.str a) H)
theorem call_strY : CallR X (.type "str") rStrY := CallR.or call_strX SkE.call_str_str
def oStrY : List A → Sto → Res A := fun as st => match as with
  | [.str z] => .ok (.str z) st
  | as => oStrX as st
theorem rl_strY : RLok K w rStrY oStrY := fun ρ H st vs as Q X rel ra p => by
  unfold oStrY at p
  split at p
  · cases ra with | cons ra r =>
      cases r
      cases ra
      exact .inr ⟨_, rfl, p.give rel (.str _)⟩
  · exact .inl (rl_strX ρ H st vs _ Q X rel ra p)
end
section
variable {a b : A} {env : AEnv} {st s : Sto} {f g : ME} {h : MA} {l : MO} {z y : Str} {i : Int} {xs ys : List A} {fs : List ME} {k : Str → Sto → Res A} {lo : Option Int}
theorem ev_split : mSplit f g env st = (f env st).bind (splF g env) := rfl
theorem ev_splF : splF g env (.str z) st = (g env st).bind fun y s => splG (.str z) y s := rfl
theorem ev_splG : splG (.str z) (.str y) s = if (y.length == 0) = false ∧ z.length + 2 ≤ sizeLine then newO (.lst ((Txt.split z y).map A.str)) s else .no := rfl
theorem ev_fmt : mFmt f env st = (f env st).bind fmtK := rfl
theorem ev_fmtS : fmtK (.str z) s = if z.length ≤ sizeLine then .ok (.str z) s else .no := rfl
theorem ev_fmtI : fmtK (.int i) s = if i.natAbs.log2 < 1920 then .ok (.str (toString i)) s else .no := rfl
theorem ev_addK : addK z (.str y) k s = if (z ++ y).length ≤ sizeLine then k (z ++ y) s else .no := rfl
theorem ev_js0 : mJs env [] z st = .ok (.str z) st := rfl
theorem ev_js1 : mJs env (f :: fs) z st = (f env st).bind fun a s => addK z a (mJs env fs) s := rfl
theorem ev_joined : mJoined fs env st = mJs env fs Str.empty st := rfl
theorem ev_star : mStar f h env st = (f env st).bind fun x s => starK (getS s x) h env s := rfl
theorem ev_starK : starK (some xs) h env s = (h env s).bind fun ys s2 => .ok (xs ++ ys) s2 := rfl
theorem ev_each2 : mEach2 f l env st = (f env st).bind fun x s1 => (l env s1).bind fun lo s2 => each2K (getL s2 x) lo s2 := rfl
theorem ev_each2K : each2K (some xs) lo s = match pick2 xs lo with
    | some ys => newO (.lst ys) s
    | none => .no := rfl
theorem ev_unl {gs : MGs} : sUnl f gs env st = (f env st).thenS env fun a s => unlK (getL s a) gs env s := rfl
theorem ev_unlK {gs : MGs} : unlK (some xs) gs env s = asgO (gs xs env) s := rfl
theorem ev_intS : oIntS [.str z] s = if z.length ≤ 640 then (match PySem.intText? z with
    | some n => .ok (.int n) s
    | none => .no) else .no := rfl
theorem ev_strYS : oStrY [.str z] s = .ok (.str z) s := rfl
theorem ev_strYI : oStrY [.int i] s = if i.natAbs.log2 < 1920 then .ok (.str (toString i)) s else .no := rfl
end

/-! ### mirrors: instances, their fields and methods -/
section
variable {w : World} {W : WishX}
def gI (C : Addr) (n : Nat) (o : Option AO) : Option (Nat × List (Str × A)) := match o with
  | some (.ins C' fs) => if C' = C then some (n, fs) else none
  | _ => none
def getI (C : Addr) (st : Sto) : A → Option (Nat × List (Str × A))
  | .ref n => gI C n st[n]?
  | _ => none
theorem getI_is {C : Addr} {ρ : List Addr} {H : Hp} {st : Sto} {v : V} {a : A} {n : Nat} {fs : List (Str × A)} (rel : Rel K w ρ H st) (hv : Rv K H ρ v a) (e : getI C st a = some (n, fs)) : a = .ref n ∧ ∃ p dx fv, v = .ref p ∧ ρ[n]? = some p ∧ H p = some (.ins C dx fv) ∧ Rkv K H ρ fv fs := by
  cases hv with
  | @ref m p hp =>
    have e : gI C m st[m]? = some (n, fs) := e
    unfold gI at e
    split at e
    · rename_i C' fs' e1
      split at e
      · rename_i hC
        cases e
        subst hC
        obtain ⟨dx, fv, h1, h2⟩ := rel.get hp e1
        exact ⟨rfl, p, dx, fv, rfl, hp, h1, h2⟩
      · cases e
    · cases e
  | _ => cases e
theorem look_is {H : Hp} {ρ : List Addr} {f : Str} : ∀ {fv : List (Str × V)} {fs : List (Str × A)}, Rkv K H ρ fv fs → (fs.lookup f = none → fv.lookup f = none) ∧ ∀ a, fs.lookup f = some a → ∃ v, fv.lookup f = some v ∧ Rv K H ρ v a
  | [], [], .nil => ⟨fun _ => rfl, fun a e => by cases e⟩
  | (g, v) :: fv, (g', a) :: fs, .cons h hs => by
    obtain ⟨e1, e2⟩ := h
    have e1 : g = g' := e1
    subst e1
    have ih := look_is (f := f) hs
    by_cases hf : f = g
    · subst hf
      refine ⟨fun e => by simp [List.lookup_cons] at e, fun b e => ?_⟩
      have e : some a = some b := by simpa [List.lookup_cons] using e
      cases e
      exact ⟨v, by simp [List.lookup_cons], e2⟩
    · have hb : (f == g) = false := by simpa using hf
      refine ⟨fun e => ?_, fun b e => ?_⟩
      · rw [List.lookup_cons, hb] at e
        rw [List.lookup_cons, hb]
        exact ih.1 e
      · rw [List.lookup_cons, hb] at e
        rw [List.lookup_cons, hb]
        exact ih.2 b e
def putFA (f : Str) (v : A) : List (Str × A) → List (Str × A)
  | [] => [(f, v)]
  | (g, x) :: r => if g = f then (g, v) :: r else (g, x) :: putFA f v r
theorem putF_is {H : Hp} {ρ : List Addr} {f : Str} {v : V} {a : A} (r : Rv K H ρ v a) : ∀ {fv : List (Str × V)} {fs : List (Str × A)}, Rkv K H ρ fv fs → Rkv K H ρ (putF f v fv) (putFA f a fs)
  | [], [], .nil => .cons ⟨rfl, r⟩ .nil
  | (g, x) :: fv, (g', y) :: fs, .cons h hs => by
    obtain ⟨e1, e2⟩ := h
    have e1 : g = g' := e1
    subst e1
    unfold putF putFA
    split
    · exact .cons ⟨rfl, r⟩ hs
    · exact .cons ⟨rfl, e2⟩ (putF_is r hs)
/-- o.f -/
def fdK (o : Option (Nat × List (Str × A))) (f : Str) (s : Sto) : Res A := match o with
  | some (_, fs) => lift (fs.lookup f) s
  | none => .no
def mFld (C : Addr) (f : Str) (o : ME) : ME := fun env st => (o env st).bind fun a s => fdK (getI C s a) f s
theorem re_fld {C : Addr} {f : Str} {ta : TE} {o : ME} (hc : Cls K C) (hn : NoAttr K C f) (ho : RE K w W ta o) : RE K w W (tFld K ta f) (mFld C f o) := fun ρ H st σ env Q rel re p =>
  ho.use rel re p fun a s1 ρ1 H1 x e1 r1 v1 p1 => by
    unfold fdK at p1
    split at p1
    · rename_i n fs eg
      obtain ⟨rfl, q, dx, fv, rfl, h1, h2, h3⟩ := getI_is r1 v1 eg
      cases el : fs.lookup f with
      | none => rw [el] at p1; exact p1.elim
      | some b =>
        rw [el] at p1
        obtain ⟨v, ev, rv⟩ := (look_is h3).2 b el
        exact ⟨q, C, dx, fv, v, rfl, h2, hc, hn, ev, p1.give r1 rv⟩
    · exact p1.elim
/-- o.f = e -/
def fpK (C : Addr) (f : Str) (y : A) (o : Option (Nat × List (Str × A))) (env : AEnv) (s : Sto) : RF := match o with
  | some (n, fs) => if fs.length < 1000 then .fl (.nx env) (s.set n (.ins C (putFA f y fs))) else .no
  | none => .no
def sFldM (C : Addr) (f : Str) (o e : ME) : MS := fun env st => (e env st).thenS env fun y s1 => (o env s1).thenS env fun x s2 => fpK C f y (getI C s2 x) env s2
theorem rs_fld {C : Addr} {f : Str} {ta tv : TE} {o e : ME} (hc : Cls K C) (hn : NoAttr K C f) (ho : RE K w W ta o) (he : RE K w W tv e) : RS K w W (sFld K ta tv f) (sFldM C f o e) := fun ρ H st σ env D rel re p =>
  he.useS rel re p fun y s1 ρ1 H1 v e1 r1 v1 p1 => ho.useS r1 (re.ext e1) p1 fun x s2 ρ2 H2 u e2 r2 v2 p2 => by
    unfold fpK at p2
    split at p2
    · rename_i n fs eg
      obtain ⟨rfl, q, dx, fv, rfl, h1, h2, h3⟩ := getI_is r2 v2 eg
      split at p2
      · rename_i hl
        have rv := rv_ext e2 v1
        obtain ⟨e3, r3⟩ := r2.put (o := .ins C (putFA f y fs)) (u := .ins C dx (putF f v fv)) h1 fun H' e' hh => ⟨dx, _, hh, rkv_ext e' (putF_is rv h3)⟩
        exact ⟨q, C, dx, fv, rfl, h2, hc, hn, by rw [rkv_len h3]; exact hl, p2 ρ2 _ σ e3 r3 (re.ext (e1.trans (e2.trans e3)))⟩
      · exact p2.elim
    · exact p2.elim
/-- o.m(..), which lets nothing out -/
def miK (fs : Option (Nat × List (Str × A))) (m : Str) (k : Res A) : Res A := match fs with
  | some (_, fs) => if fs.lookup m = none then k else .no
  | none => .no
def mMt (C : Addr) (m : Str) (n : Nat) (mf : List A → Sto → Res A) (o : ME) (f : MA) : ME := fun env st => (o env st).bind fun x s1 => miK (getI C s1 x) m ((f env s1).bind fun as s2 => if as.length = n then noX (mf (x :: as) s2) else .no)
theorem re_mt {C : Addr} {m : Str} {n : Nat} {mf : List A → Sto → Res A} {ta : TE} {t : TA} {o : ME} {f : MA} (ho : RE K w W ta o) (hf : RA K w W t f) : RE K w W (tMeth C m (spN K w (n + 1) mf) [] E0 ta t) (mMt C m n mf o f) := fun ρ H st σ env Q rel re p =>
  ho.use rel re p fun x s1 ρ1 H1 v e1 r1 v1 p1 => by
    unfold miK at p1
    split at p1
    · rename_i k fs eg
      split at p1
      · rename_i hl
        obtain ⟨rfl, q, dx, fv, rfl, h1, h2, h3⟩ := getI_is r1 v1 eg
        refine ⟨q, dx, fv, rfl, h2, (look_is h3).1 hl, ?_⟩
        refine hf.use r1 (re.ext e1) p1 fun as s2 ρ2 H2 vs e2 r2 v2 p2 => ?_
        split at p2
        · rename_i hn
          exact ⟨ρ2, s2, _, by rw [List.append_nil, List.length_cons, v2.length, hn], r2, by rw [List.append_nil]; exact .cons (rv_ext e2 v1) v2, noX_any p2⟩
        · exact p2.elim
      · exact p1.elim
    · exact p1.elim
/-- C(..): a new instance, then its __init__ -/
def mkK (n : Nat) (v : A) (s : Sto) : Res A := match v with
  | .non => .ok (.ref n) s
  | _ => .no
def mMk (C : Addr) (n : Nat) (mf : List A → Sto → Res A) (f : MA) : ME := fun env st => (f env st).bind fun as s => if as.length = n then (noX (mf (.ref s.length :: as) (s ++ [.ins C []]))).bind fun v s2 => mkK s.length v s2 else .no
theorem re_mk {C : Addr} {n : Nat} {mf : List A → Sto → Res A} {t : TA} {f : MA} (hf : RA K w W t f) : RE K w W (tMake C (spN K w (n + 1) mf) [] E0 t) (mMk C n mf f) := fun ρ H st σ env Q rel re p =>
  hf.use rel re p fun as s1 ρ1 H1 vs e1 r1 v1 p1 x dx nx ndx ne => by
    split at p1
    · rename_i hn
      have sd : Same H1 (upd H1 dx (.own x)) := same_upd ndx
      have nx' : upd H1 dx (.own x) x = none := by rw [upd_ne (fun z => ne z.symm)]; exact nx
      have rd := r1.same sd
      obtain ⟨e2, r2⟩ := rd.new (o := .ins C []) (u := .ins C dx []) nx' fun H' e' hh => ⟨dx, [], hh, .nil⟩
      have ex : Ext ρ1 (ρ1 ++ [x]) H1 (upd (upd H1 dx (.own x)) x (.ins C dx [])) := (Ext.same sd).trans e2
      refine ⟨ρ1 ++ [x], s1 ++ [.ins C []], .ref s1.length :: as, by rw [List.append_nil, List.length_cons, v1.length, hn], r2, ?_, ?_⟩
      · rw [List.append_nil]
        exact .cons (.ref (r1.last x)) (rvs_ext ex v1)
      · cases er : noX (mf (.ref s1.length :: as) (s1 ++ [.ins C []])) with
        | ok v s2 =>
          rw [er] at p1
          show Post K w _ _ (noX (mf (.ref s1.length :: as) (s1 ++ [.ins C []]))) _ _
          rw [er]
          intro ρ' H' e' r' u ru
          unfold mkK at p1
          simp only [Res.bind] at p1
          split at p1
          · cases ru
            refine ⟨rfl, p1 ρ' H' (ex.trans e') r' _ (.ref ?_)⟩
            exact e'.get (r1.last x)
          · exact p1.elim
        | ex c d s2 =>
          rw [er] at p1
          have : noX (mf (.ref s1.length :: as) (s1 ++ [.ins C []])) ≠ .ex c d s2 := by
            cases mf (.ref s1.length :: as) (s1 ++ [.ins C []]) <;> simp [noX]
          exact absurd er this
        | no => rw [er] at p1; exact p1.elim
    · exact p1.elim
end
section
variable {env : AEnv} {st s : Sto} {a b : A} {n : Nat} {C : Addr} {f m : Str} {fs : List (Str × A)} {o e : ME} {g : MA} {mf : List A → Sto → Res A} {k : Res A}
theorem ev_fldE : mFld C f o env st = (o env st).bind fun a s => fdK (getI C s a) f s := rfl
theorem ev_getI : getI C st (.ref n) = gI C n st[n]? := rfl
theorem ev_gI : gI C n (some (.ins C fs)) = some (n, fs) := by
  unfold gI
  simp
theorem ev_fdK : fdK (some (n, fs)) f s = lift (fs.lookup f) s := rfl
theorem ev_fldS : sFldM C f o e env st = (e env st).thenS env fun y s1 => (o env s1).thenS env fun x s2 => fpK C f y (getI C s2 x) env s2 := rfl
theorem ev_fpK : fpK C f a (some (n, fs)) env s = if fs.length < 1000 then .fl (.nx env) (s.set n (.ins C (putFA f a fs))) else .no := rfl
theorem ev_mtE : mMt C m n mf o g env st = (o env st).bind fun x s1 => miK (getI C s1 x) m ((g env s1).bind fun as s2 => if as.length = n then noX (mf (x :: as) s2) else .no) := rfl
theorem ev_miK : miK (some (n, fs)) m k = if fs.lookup m = none then k else .no := rfl
theorem ev_mkE : mMk C n mf g env st = (g env st).bind fun as s => if as.length = n then (noX (mf (.ref s.length :: as) (s ++ [.ins C []]))).bind fun v s2 => mkK s.length v s2 else .no := rfl
theorem ev_mkK : mkK n .non s = .ok (.ref n) s := rfl
end

/-! ### a list made where an exception is handled -/
section
variable {X : Cx}
abbrev hbk (X : Cx) (s : Shared) (H : Hp) (sc : Scope) (ce : Env) (fp : List Addr) : Cx := (X.blk s H sc ce fp).tr X.pn fun _ _ => False
theorem hbk_in {pins : List (Addr × Obj)} {σ τ : L2.St} {H : Hp} {s s' : Shared} {sc : Scope} {ce : Env} {fp : List Addr} (I : Inv X pins σ H s) (J : Inv (X.blk s H sc ce fp) [] τ H s') (hl : s.heap.objs.size ≤ ce.locals)
    (kp : ∀ b o, s.heap.get? b = some o → s'.heap.get? b = some o) : Inv (hbk X s H sc ce fp) [] τ H s' := by
  refine ⟨J.ok.toTry _ _, J.os, J.bare, J.base, J.loc, J.cell, J.free, J.freeC, fun p hp => ?_, J.hok, J.len⟩
  have hp' : p ∈ X.pn := by simpa using hp
  obtain ⟨g, f, nl, nf, nc⟩ := I.pin p (List.mem_append_left _ hp')
  refine ⟨kp _ _ g, f, Nat.ne_of_lt (Nat.lt_of_lt_of_le (Heap.lt_size g) hl), fun z => ?_, nc⟩
  exact (List.mem_cons.mp (I.stkSub p.1 z)).elim nl nf
theorem pe_lcH {el tg it : Expr} {cs : List Expr} {sc : Scope} {own : List (Str × Nat)} {pos : Pos} {wi : TI} {g : TG} {tt : TT} {te : TE} (hot : L2H.HotC X) (nd : X.N.Nodup) (hi : L2H.PIH X tg it wi) (bo : BlkOk X.N X.env.scope sc own)
    (hg : ∀ (s : Shared) (H : Hp) (C : Addr) (cl : List (Str × Addr)) (fp : List Addr), PG (hbk X s H sc (compEnvC sc cl C X.env) fp) tg g)
    (ht : ∀ (s : Shared) (H : Hp) (C : Addr) (cl : List (Str × Addr)) (fp : List Addr), PTs (hbk X s H sc (compEnvC sc cl C X.env) fp) cs tt)
    (he : ∀ (s : Shared) (H : Hp) (C : Addr) (cl : List (Str × Addr)) (fp : List Addr), PE (hbk X s H sc (compEnvC sc cl C X.env) fp) el te)
    (hs : ∀ x, foldedSetIterable it X.env x = pure x := by intro _; rfl) :
    PE X (.ListComp el [⟨tg, it, cs, 0⟩] sc pos) (tLc wi g tt te (own.map (·.2))) := by
  refine ⟨fun pins s0 σ H Q I h => ?_⟩
  rw [eval_ListComp]
  have fre : ∀ y ∈ sc.names, y.2 = .free → ∃ c, X.env.cells.lookup y.1 = some c := fun y hy e => (bo.free y hy e).elim (fun k => I.ok.has _ (.inl k)) fun k => I.ok.has _ (.inr k)
  refine wpAny_comprehension_free rfl hs (closure_ok fre) bo.kind (fun y hy e => by rw [bo.uniq y hy, e]) ?_
  refine thn (hi.run pins s0 σ H _ I h) fun xv s1 hx => thn hx fun iv s2 h2 => ?_
  obtain ⟨a, fp, tn, J, H2, ea, I2, T, t2, f2, q⟩ := h2
  subst ea
  refine wpAny_newObj_type (newEnv_comp ?_) (by show 0 ≤ sizeLine; decide)
  generalize eL : s2.heap.objs.size = L
  have nL : H2 L = none := I2.hok.fresh (Nat.le_of_eq eL)
  obtain ⟨W, ⟨m0, w0⟩, turn⟩ := q L nL
  generalize e3 : ({ s2 with heap := s2.heap.push { cls := .type "list", data := .seq ([] : List Value).toArray } } : Shared) = s3
  have hp3 : s3.heap = s2.heap.push { cls := .type "list", data := .seq ([] : List Value).toArray } := by rw [← e3]
  have I3 : Inv X pins σ (upd H2 L (.lst [])) s3 := by
    rw [← e3]
    refine I2.laid (t' := s2.toks) (fun b o e => Heap.get?_push_of_some _ e) (Nat.le_of_eq eL) ⟨Nat.zero_le _, [], 0, .nil, ?_⟩
    rw [← eL]; exact Heap.get?_push_size _ rfl
  have lt2 : ∀ b ∈ fp, b < s2.heap.objs.size := fun b m => by
    obtain ⟨o, e, _⟩ := T.obj _ _ t2 b m
    exact Heap.lt_size e
  have f3 : ∀ b ∈ fp, FpOk X pins (upd H2 L (.lst [])) b ∧ b < s3.heap.objs.size := fun b m => by
    have l := lt2 b m
    refine ⟨⟨?_, (f2 b m).2⟩, by rw [hp3, Heap.size_push]; exact Nat.lt_succ_of_lt l⟩
    rw [upd_ne (by rw [← eL]; exact Nat.ne_of_lt l)]; exact (f2 b m).1
  have t3 : tn 0 s3.heap := T.keep _ _ _ t2 fun b _ o e => by rw [hp3]; exact Heap.get?_push_of_some _ e
  have B := block_start I3 bo nd f3
  have pg := hg s3 (upd H2 L (.lst [])) s3.heap.objs.size (cellsFrom (s3.heap.objs.size + 1) sc.names (cloFrom X.env.cells sc.names [])) fp
  have pt := ht s3 (upd H2 L (.lst [])) s3.heap.objs.size (cellsFrom (s3.heap.objs.size + 1) sc.names (cloFrom X.env.cells sc.names [])) fp
  have pe := he s3 (upd H2 L (.lst [])) s3.heap.objs.size (cellsFrom (s3.heap.objs.size + 1) sc.names (cloFrom X.env.cells sc.names [])) fp
  have nfp : ∀ b ∈ fp, (upd H2 L (.lst [])) b = none := fun b m => (f3 b m).1.1
  have I4 := hbk_in I3 B (Nat.le_refl _) fun b o e => pushCells_keeps _ _ _ _ (Heap.get?_push_of_some _ e)
  show codeAny _ _ (.compStart (.ListComp el [⟨tg, it, cs, 0⟩] sc pos) 0 (.ref a) (.ref L) (compEnvC sc (cellsFrom (s3.heap.objs.size + 1) sc.names (cloFrom X.env.cells sc.names [])) s3.heap.objs.size X.env)) (compPost (model X.prog X.w) X.A X.xe none (EP X pins σ Q) (.ref L) s3.heap.objs.size) { s3 with heap := pushCells (s3.heap.push { cls := .type "dict", data := .dict #[] }) sc.names }
  generalize eG : compEnvC sc (cellsFrom (s3.heap.objs.size + 1) sc.names (cloFrom X.env.cells sc.names [])) s3.heap.objs.size X.env = ce at I4 pg pt pe ⊢
  have cl : ce.locals = s3.heap.objs.size := by subst eG; rfl
  generalize eH : upd H2 L (.lst []) = H3 at I3 I4 pg pt pe w0 nfp f3
  generalize e4 : ({ s3 with heap := pushCells (s3.heap.push { cls := .type "dict", data := .dict #[] }) sc.names } : Shared) = s4 at I4 ⊢
  have t4 : tn 0 s4.heap := T.keep _ _ _ t3 fun b _ o e => by rw [← e4]; exact pushCells_keeps _ _ _ _ (Heap.get?_push_of_some _ e)
  have hotB : L2H.HotC (hbk X s3 H3 sc ce fp) := hot
  have stat : ∀ {τ : L2.St} {H' : Hp} {s' : Shared}, Inv (hbk X s3 H3 sc ce fp) [] τ H' s' → (∀ b ∈ fp, H' b = none) → ∀ b ∈ fp, FpOk (hbk X s3 H3 sc ce fp) [] H' b := fun {τ H' s'} I' hn b m =>
    ⟨hn b m, (I'.ok.exf b m).1, I'.ok.exfs b m, .inl m, fun x c e => (I'.ok.exf b m).2 x c e, fun p hp => (f3 b m).1.2.2.2.2.2 p (List.mem_append_left _ (by simpa using hp))⟩
  have loop : codeAny (model X.prog X.w) X.A (.compLoop (.ListComp el [⟨tg, it, cs, 0⟩] sc pos) 0 (.ref a) (.ref L) ce) (compPost (model X.prog X.w) X.A X.xe none (EP X pins σ Q) (.ref L) s3.heap.objs.size) s4 := by
    refine compLoop_any (fun n s' => ∃ i H', Inv (hbk X s3 H3 sc ce fp) [] (wipe σ (own.map (·.2))) H' s' ∧ tn i s'.heap ∧ (∀ b ∈ fp, H' b = none) ∧ W i n H') ?_ m0 ⟨0, H3, I4, t4, nfp, w0⟩
    rintro n s5 ⟨i, H5, I5, t5, n5, w5⟩
    rcases turn i n H5 w5 with ⟨stop, qq⟩ | ⟨go, Nx, hNx, step⟩
    · refine thnF (T.done (hbk X s3 H3 sc ce fp) rfl rfl rfl hotB i [] s5 _ H5 (fun _ _ => False) I5 (stat I5 n5) t5 stop) fun r s6 ⟨hr, I6⟩ => ?_
      subst hr
      have I7 : Inv X pins σ H5 s6 := I3.call' (ch := fp) I6.os I6.base I6.hok I6.bare fun b m => ⟨(f3 b m).1.2.2.2.1, (f3 b m).1.2.1, (f3 b m).1.2.2.2.2.1, (f3 b m).1.2.2.2.2.2⟩
      have nC : H5 s3.heap.objs.size = none := by
        have z : H5 ce.locals = none := I6.free
        rwa [cl] at z
      obtain ⟨m, hn, _⟩ := I6.loc
      have hn' : s6.heap.Ns ce.locals m := hn
      rw [cl] at hn'
      obtain ⟨g0, g1, g2, g3, g4, g5⟩ := I3.fpOk (Nat.le_refl _) nC
      exact ⟨m, hn', fun h'' sb => ⟨.ref L, H5, I7.turned (t' := s6.toks) (fun b o ne e => (sb.2 b ne).trans e) g0 g1 g3 g4 g5, rfl, qq⟩⟩
    · refine thnF (T.item (hbk X s3 H3 sc ce fp) rfl rfl rfl hotB i [] s5 _ H5 (fun _ _ => False) I5 (stat I5 n5) t5 go) fun r s6 ⟨u, hr, h6⟩ => ?_
      subst hr
      refine thnF h6 fun _ s7 ⟨x, H7, I7, r7, y7, t7, n7⟩ => ?_
      refine thnF (pg.run _ s7 _ H7 x u _ (I7.pinned (stat I7 n7) (T.obj _ _ t7)) r7 (step x H7 y7)) fun _ s8 ⟨σ8, H8, I8, hw8, q8⟩ => ?_
      refine thnF (pt.run _ s8 σ8 H8 _ I8 q8) fun b s9 ⟨H9, I9, q9⟩ => ?_
      have fin : ∀ {s' : Shared} {H' : Hp}, Inv (hbk X s3 H3 sc ce fp) ([] ++ pinsAt fp s7.heap) σ8 H' s' → Nx H' →
          ∃ m, m < n ∧ ∃ i H', Inv (hbk X s3 H3 sc ce fp) [] (wipe σ (own.map (·.2))) H' s' ∧ tn i s'.heap ∧ (∀ b ∈ fp, H' b = none) ∧ W i m H' := fun {s' H'} I' nx => by
        obtain ⟨m', hm, w'⟩ := hNx H' nx
        have pin' : ∀ b ∈ fp, ∀ o, s7.heap.get? b = some o → s'.heap.get? b = some o ∧ H' b = none := fun b m o e => by
          obtain ⟨z1, z2, _⟩ := I'.pin (b, o) (List.mem_append_right _ (List.mem_append_right _ (mem_pinsAt m e)))
          exact ⟨z1, z2⟩
        have le : (wipe σ (own.map (·.2))).length = σ8.length := by rw [← hw8, wipe_length]
        refine ⟨m', hm, i + 1, H', (I'.unpinned (pins := [])).weak le (fun j v e => ?_), T.keep _ _ _ t7 fun b m o e => (pin' b m o e).1, fun b m => ?_, w'⟩
        · rw [← hw8] at e; exact (wipe_some e).1
        · obtain ⟨o, e, _⟩ := T.obj _ _ t7 b m
          exact (pin' b m o e).2
      cases b with
      | false =>
        simp only [Bool.false_eq_true, if_false] at q9 ⊢
        exact fin I9 q9
      | true =>
        simp only [if_true] at q9 ⊢
        refine thnF (pe.run _ s9 σ8 H9 _ I9 q9) fun z s10 ⟨yv, H10, I10, r10, acc, hD10, hz10, nx⟩ => ?_
        exact app_ok (X := hbk X s3 H3 sc ce fp) I10 hD10 hz10 r10 fun s11 I11 => fin I11 nx
  exact codeAny_compStart_list loop (T.self X.A 0 _ _ _ t4 loop)
end

/-! ### a def called where an exception of a known kind is handled -/
structure FnK (P : Program) (w : World) (K : PySem.W.Frag) (mg : Str → Option Value) (base : Heap) (Z : Obj → Prop) (k : Nat) (f : Addr) (fd : FuncData) (ps : List Str) (sp : Addr → Sp) : Prop where
  len : ∀ a vs H Q E, sp a vs H Q E → vs.length = ps.length
  run : ∀ (A : Around) (outer : List Env) (s : Shared) (H : Hp) (us : List Value) (vs : List V) (Q : VK) (E : XK) (a : Addr) (oe : Obj), L2H.RoomH k A → L2H.Hot1 A (a, oe) → Z oe → L2H.PinOk outer H s (a, oe) → Env0 P w K mg base A outer s H →
    BindsTo s fd ⟨us, []⟩ (ps.zip us) → Vals vs us → sp a vs H Q E → codeAny (model P w) A (.call (.ref f) ⟨us, []⟩) (CR CX0 outer P w H s Q E) s
theorem fnk_of {P : Program} {w : World} {K : PySem.W.Frag} {mg : Str → Option Value} {base : Heap} {x : Str} {st : Stmt} {f : Addr} {fd : FuncData} {N ps : List Str} {k : Nat} {Z : Obj → Prop} {sp : Addr → Sp} (F : Fun K x x st f fd) (S : FnScope N ps (defScope st))
    (len : ∀ a vs H Q E, sp a vs H Q E → vs.length = ps.length)
    (body : ∀ (cdv : Value) (A : Around) (outer : List Env) (s : Shared) (H : Hp) (vs : List V) (Q : VK) (E : XK) (a : Addr) (oe : Obj), L2H.Hot1 A (a, oe) → Z oe → L2H.RoomH k (A.deeper (envOfC x (defScope st) s.heap.objs.size f cdv)) → sp a vs H Q E →
      ∃ t, PSs (L2H.cxH CX0 P w K mg base N x (defScope st) f cdv A outer s H E (a, oe)).nox (defBody st) t ∧ t { nx := fun _ H' => Q .non H', rt := Q } (L2.start N vs) H) : FnK P w K mg base Z (k + 1) f fd ps sp := by
  obtain ⟨oc, od, kV, doc, pm, an, cdv, ct, osl, rfl, lk, hcd⟩ := F.ex
  refine ⟨len, fun A outer s H us vs Q E a oe hr hot hz pin e0 b r hsp => ?_⟩
  have old : ∀ b o, base.get? b = some o → s.heap.get? b = some o := fun b o e => (e0.bs b o e).1
  have KX := e0.mod.kin.keeps old
  have pk : ∀ y ∈ ps.zip us, (defScope st).names.lookup y.1 = some .local ∨ ((defScope st).names.lookup y.1 = some .cell ∧ ((cellsFrom (s.heap.objs.size + 1) (defScope st).names []).lookup y.1).isSome = true) := fun y hy =>
    (S.par y.1 (List.of_mem_zip (a := y.1) (b := y.2) hy).1).imp_right fun q => ⟨q, PySem.W.cellsFrom_some _ _ _ (.inl q)⟩
  refine codeAny_call_function hr.depth (KX _ _ lk) rfl S.co S.gen rfl (PySem.W.codeRec_of KX hcd) (b _ _ _ _ ?_)
  refine wpAny_newFunctionEnv_cells S.kind pk fun env ee s1 x1 => ?_
  subst ee
  refine ⟨(e0.mod.nolimit.keeps old).keeps x1.toInCall.keep, codeAny_func ?_⟩
  obtain ⟨t, ht, hq⟩ := body cdv A outer s H vs Q E a oe hot hz (hr.deeper _) hsp
  have J := L2H.inv_startH (CX := CX0) (E := E) S pin e0 (len _ _ _ _ _ hsp) r x1
  refine wpAny_mono (ht.nox.run [] s1 (L2.start N vs) H _ J hq) (fun fl s' hs => ?_) fun e s' z => z
  cases fl with
  | ret u =>
    obtain ⟨v, σ', H', I', rv, q⟩ := hs
    exact ⟨v, H', I'.os, I'.bare, I'.base, I'.hok, rv, q⟩
  | next =>
    obtain ⟨σ', H', I', q⟩ := hs
    exact ⟨V.non, H', I'.os, I'.bare, I'.base, I'.hok, rfl, q⟩
  | brk =>
    obtain ⟨_, _, _, q⟩ := hs
    exact q.elim
  | cont =>
    obtain ⟨_, _, _, q⟩ := hs
    exact q.elim
structure CalK (P : Program) (w : World) (K : PySem.W.Frag) (mg : Str → Option Value) (base : Heap) (Z : Obj → Prop) (k : Nat) (x : Str) (sp : Addr → Sp) : Prop where
  ex : ∃ (f : Addr) (fd : FuncData) (ps : List Str), FnK P w K mg base Z k f fd ps sp ∧ mg x = some (.ref f) ∧ PySem.W.keepIn K (.ref f) = true ∧ Binds K fd ps []
def tCallK (sp : Addr → Sp) (a : Addr) (t : TA) : TE := fun σ H Q => t σ H fun vs H1 => sp a vs H1 Q E0
section
variable {X : Cx} {k j n : Nat} {x : Str} {sp : Sp} {spk : Addr → Sp} {Z : Obj → Prop} {a D : Addr} {oe : Obj} {ks : List Str} {gV : List V → List V → List V} {q pos : Pos} {e : Expr} {es : List Expr} {kws : List Keyword} {t tk : TA}
theorem pe_cK (c : CalK X.prog X.w X.K X.mg X.base Z k x spk) (hr : L2H.RoomH j X.A) (hk : k ≤ j) (hot : L2H.Hot1 X.A (a, oe)) (hz : Z oe) (hp : (a, oe) ∈ X.pn) (hg : Gl X x) (ha : PA X (e :: es) t)
    (hdb : (x == ("__debug__" : Str)) = false := by decide) (he : starEach (e :: es) X.env = (false, eval e X.env) :: starEach es X.env := by rfl) (hpl : (backTo pos (starEach es X.env)).any (·.1) = false := by rfl) :
    PE X (.Call (.Name x q) (e :: es) [] pos) (tCallK spk a t) := by
  obtain ⟨f, fd, ps, F, hm, kp, b⟩ := c.ex
  refine ⟨fun pins s σ H Q I h => ?_⟩
  refine wpAny_Call_Name_kw (ld_glob I hg hm ?_ hdb)
  refine PySem.W.callWith_K (h₀ := X.base) I.ok.mod.kin kp (thn (ha.run pos pins s σ H _ I h) fun us s1 ⟨vs, H1, I1, r, q1⟩ => ⟨I1.kIn, ?_⟩) he hpl
  have le : us.length = ps.length := by rw [← r.length]; exact F.len _ _ _ _ _ q1
  have b1 := b s1 us I1.kIn (by rw [List.append_nil]; exact le)
  rw [List.append_nil] at b1
  obtain ⟨p1, p2, p3, p4, p5⟩ := I1.pin (a, oe) (List.mem_append_left _ hp)
  have pin : L2H.PinOk X.stack H1 s1 (a, oe) := ⟨p1, p2, fun m => (List.mem_cons.mp (I1.stkSub a m)).elim p3 p4, p5⟩
  refine wpAny_call (codeAny_mono (F.run X.A X.stack s1 H1 us vs Q E0 a oe ⟨by have := hr.dp; omega, by have := hr.un; omega⟩ hot hz pin I1.env0 b1 r q1) fun rr s' hq => ?_)
  cases rr with
  | error e => exact (pass0 (X := X) pins σ H1 s1 e s' I1 hq)
  | ok fl =>
    cases fl with
    | ret u => exact I1.after hq
    | next => exact False.elim hq
    | brk => exact False.elim hq
    | cont => exact False.elim hq
/-- isinstance of the exception that is handled -/
theorem call_isK (C : ExcC X.K D) (hp : (a, oe) ∈ X.pn) (hz : Zc (.ref D) none oe) (hf : ∃ vs, oe.data = .fields vs) : CallR X (.builtin "isinstance") (rIsE X.K D a) := by
  intro pins s σ H xs us Q I r h
  obtain ⟨c, cv, b, rfl, hcv, e, q⟩ := h
  cases r with
  | cons rx rr =>
    cases rr with
    | cons rt rr =>
      cases rr
      cases rx
      obtain rfl := hcv _ rt
      have g := (I.pin (a, oe) (List.mem_append_left _ hp)).1
      obtain ⟨vs, hv⟩ := hf
      have J : PySem.W.InstAt s.heap a oe D none := by
        cases oe
        obtain ⟨z1, z2⟩ := hz
        dsimp only at z1 z2 hv
        subst z1 z2 hv
        exact ⟨g, rfl, rfl, trivial⟩
      exact PySem.W.kia_one (PySem.W.handS_kitx_exc C.hg C.hk C.hs C.hd C.ha C.hn C.ht C.hm) I.kIn J e (fun z => nomatch z) fun tk => ⟨.bl b, H, I.kept (t' := tk) fun _ _ z => z, rfl, q⟩
theorem pss_when {c : Prop} {body : List Stmt} {ts : TS} (h : c → PSs X body ts) : PSs X body (fun D σ H => c ∧ ts D σ H) := ⟨fun pins s σ H D I hh => (h hh.1).run pins s σ H D I hh.2⟩
theorem takesN0 : L2N.Takes X (fun _ _ _ _ => False) := fun _ _ x => by
  obtain ⟨_, _, _, _, _, _, _, _, _, _, _, _, _, _, _, _, z⟩ := x
  exact z.elim
end
/-- a def that may refuse, called by keywords -/
structure CalX (P : Program) (w : World) (K : PySem.W.Frag) (mg : Str → Option Value) (base : Heap) (k : Nat) (x : Str) (sp : Sp) (n : Nat) (ks : List Str) (gV : List V → List V → List V) : Prop where
  ex : ∃ (f : Addr) (fd : FuncData) (ps : List Str) (g : List Value → List Value → List Value), FnOk P w K mg base (L2N.CX P w) k f fd ps sp ∧ mg x = some (.ref f) ∧ PySem.W.keepIn K (.ref f) = true ∧ KBn K fd ps n ks g gV
def tCallX (n m : Nat) (sp : Sp) (gV : List V → List V → List V) (W : WX) (t tk : TA) : TE := fun σ H Q => t σ H fun vs H1 => tk σ H1 fun zs H2 => vs.length = n ∧ zs.length = m ∧ sp (gV vs zs) H2 Q (WE W σ)
section
variable {X : Cx} {k j n : Nat} {x : Str} {sp : Sp} {W : WX} {ks : List Str} {gV : List V → List V → List V} {p pos : Pos} {e : Expr} {es : List Expr} {kws : List Keyword} {t tk : TA}
theorem run_x {f : Addr} {fd : FuncData} {ps : List Str} {g : List Value → List Value → List Value} {pins : List (Addr × Obj)} {σ : L2.St} {H : Hp} {s : Shared} {Q : VK} {us ws : List Value} {vs zs : List V} (F : FnOk X.prog X.w X.K X.mg X.base (L2N.CX X.prog X.w) k f fd ps sp) (hr : Room k X.A)
    (b : KBn X.K fd ps n ks g gV) (ht : L2N.Takes X W) (I : Inv X pins σ H s) (r : Vals vs us) (rz : Vals zs ws) (l1 : vs.length = n) (l2 : zs.length = ks.length) (h : sp (gV vs zs) H Q (WE W σ)) :
    wpAny (model X.prog X.w) X.A (call (.ref f) us (ks.zip ws)) (EP X pins σ Q) X.xe s := by
  refine wpAny_call (codeAny_mono (F.run X.A X.stack s H ⟨us, ks.zip ws⟩ (g us ws) (gV vs zs) Q (WE W σ) hr I.env0 (b.to s us ws I.kIn (r.length.symm.trans l1) (rz.length.symm.trans l2)) (b.rel r rz) h) fun rr s' hq => ?_)
  cases rr with
  | error e => exact L2N.passAt ht σ pins H s e s' I hq
  | ok fl =>
    cases fl with
    | ret u => exact I.after hq
    | next => exact False.elim hq
    | brk => exact False.elim hq
    | cont => exact False.elim hq
theorem pe_cx (c : CalX X.prog X.w X.K X.mg X.base k x sp n ks gV) (hr : Room j X.A) (hk : k ≤ j) (hg : Gl X x) (ht : L2N.Takes X W) (ha : PA X (e :: es) t) (hkw : PK X kws tk)
    (hall : (backToKw pos (keywordEach kws X.env)).all (·.1.isSome) = true := by rfl) (hks : (backToKw pos (keywordEach kws X.env)).filterMap (·.1) = ks := by rfl)
    (hdb : (x == ("__debug__" : Str)) = false := by decide) (he : starEach (e :: es) X.env = (false, eval e X.env) :: starEach es X.env := by rfl)
    (hpl : ((backTo pos (starEach (e :: es) X.env)).any (·.1) || (backToKw pos (keywordEach kws X.env)).any (·.1.isNone)) = false := by rfl) :
    PE X (.Call (.Name x p) (e :: es) kws pos) (tCallX n ks.length sp gV W t tk) := by
  obtain ⟨f, fd, ps, g, F, hm, kp, b⟩ := c.ex
  refine ⟨fun pins s σ H Q I h => wpAny_Call_Name_kw (ld_glob I hg hm ?_ hdb)⟩
  refine PySem.W.callWith_KW (h₀ := X.base) I.ok.mod.kin kp hall (thn (ha.run pos pins s σ H _ I h) fun us s1 ⟨vs, H1, I1, r, q⟩ => ?_) hpl he
  refine thn (hkw.run pos pins s1 σ H1 _ I1 q) fun ws s2 ⟨zs, H2, I2, rz, l1, l2, q2⟩ => ⟨I2.kIn, ?_⟩
  rw [hks]
  exact run_x F (hr.mono hk) b ht I2 r rz l1 l2 q2
theorem pe_cx0 (c : CalX X.prog X.w X.K X.mg X.base k x sp 0 ks gV) (hr : Room j X.A) (hk : k ≤ j) (hg : Gl X x) (ht : L2N.Takes X W) (hkw : PK X kws tk)
    (hall : (backToKw pos (keywordEach kws X.env)).all (·.1.isSome) = true := by rfl) (hks : (backToKw pos (keywordEach kws X.env)).filterMap (·.1) = ks := by rfl)
    (hdb : (x == ("__debug__" : Str)) = false := by decide)
    (hpl : ((backTo pos (starEach [] X.env)).any (·.1) || (backToKw pos (keywordEach kws X.env)).any (·.1.isNone)) = false := by rfl) :
    PE X (.Call (.Name x p) [] kws pos) (tCallX 0 ks.length sp gV W tNil tk) := by
  obtain ⟨f, fd, ps, g, F, hm, kp, b⟩ := c.ex
  refine ⟨fun pins s σ H Q I h => wpAny_Call_Name_kw (ld_glob I hg hm ?_ hdb)⟩
  refine PySem.W.callWith_KW0 (h₀ := X.base) I.ok.mod.kin kp hall ?_ hpl
  refine thn (hkw.run pos pins s σ H _ I h) fun ws s2 ⟨zs, H2, I2, rz, l1, l2, q2⟩ => ⟨I2.kIn, ?_⟩
  rw [hks]
  exact run_x (us := []) (vs := []) F (hr.mono hk) b ht I2 .nil rz rfl l2 q2
end

/-! ### exceptions with an own __init__ -/
section
variable {X : Cx} {x : Str} {B C D fI a : Addr} {mc : Value} {oe : Obj} {d : Option Addr} {e : Expr} {es : List Expr} {ta : TA} {p p1 p2 pos : Pos}
/-- B.__init__(self, ..), B an own class that has the one of ValueError -/
theorem pe_oinit {pl : Sem Bool} (hg : Gl X x) (hm : X.mg x = some (.ref B)) (rd : PySem.W.readsIn X.K B mc = true) (ga : PySem.W.specialIn X.K (.ref B) "__getattribute__" = some (some (.builtin "type.__getattribute__")))
    (vi : PySem.W.findCls X.K (.ref B) mc "__init__" = some (.val (.builtin "ValueError.__init__"))) (ha : PA X (e :: es) ta) (hdb : (x == ("__debug__" : Str)) = false := by decide)
    (hc : eval (.Call (.Attribute (.Name x p1) "__init__" p2) (e :: es) [] pos) X.env = (do
      let ov ← eval (.Name x p1) X.env
      standAt p2.atName
      let (f, first) ← holding [ov] (getMethod ov "__init__" pl)
      callWith pos f first (backTo pos (starEach (e :: es) X.env)) (backToKw pos (keywordEach [] X.env))) := by rfl)
    (he : starEach (e :: es) X.env = (false, eval e X.env) :: starEach es X.env := by rfl) (hpl : (backTo pos (starEach es X.env)).any (·.1) = false := by rfl) :
    PE X (.Call (.Attribute (.Name x p1) "__init__" p2) (e :: es) [] pos) (tVeI X.K ta) := by
  refine ⟨fun pins s σ H Q I h => PySem.W.methodCall_KW (ld_glob I hg hm ?_ hdb) hc⟩
  refine PySem.W.method_cls I.kIn ga (PySem.W.cls_value I.kIn rd vi (by decide +kernel) ?_)
  show wpAny _ _ (callWith pos (Value.builtin "ValueError.__init__") [] (backTo pos (starEach (e :: es) X.env)) []) _ _ _
  refine PyProof.Rows.callWith_method1 (thn (ha.run pos pins _ σ H _ (I.tok _) h) fun us s1 ⟨vs, H1, I1, r1, b, C, ws, ev, hl, T, ea, q⟩ => ?_) he hpl
  subst ev
  cases r1 with
  | @cons _ u0 _ ur ra rw' =>
    obtain rfl : u0 = Value.ref b := ra
    exact oinit_ok T I1 ea (by rw [← Paired.length rw', sizeLine_eq]; omega) fun s' J => ⟨.non, H1, J, rfl, q⟩
/-- C(e, ..) to be raised where no exception is handled -/
theorem pmkN_oex {CX : CXT} {k : Nat} {fd : FuncData} {ps : List Str} {sp : Sp} {ds : List Value} {dvs : List V} (T : OexC X.K C) (iC : PySem.W.findIn X.K (.ref C) "__init__" = some (some (.ref fI))) (tI : PySem.W.typeIn X.K (.ref fI) = some (.type "function"))
    (F1 : FnOk X.prog X.w X.K X.mg X.base CX k fI fd ps sp) (hr : Room (k + 1) X.A) (hb : Binds X.K fd ps ds) (hd : Vals dvs ds) (hx : Passes CX X (fun _ _ _ => False)) (hg : Gl X x) (hm : X.mg x = some (.ref C)) (ha : PA X (e :: es) ta)
    (hdb : (x == ("__debug__" : Str)) = false := by decide) (he : starEach (e :: es) X.env = (false, eval e X.env) :: starEach es X.env := by rfl) (hpl : (backTo pos (starEach es X.env)).any (·.1) = false := by rfl) :
    L2N.PMk X (.Call (.Name x p) (e :: es) [] pos) (tMkO C sp dvs ta) := by
  intro pins s σ H Q I h
  obtain ⟨nm, q, N, bs, bm, sn, sub, ab, col, dd, k0, k1, k2, k3, k5, hC, hbm⟩ := T.cls
  refine wpAny_Call_Name_kw (ld_glob I hg hm ?_ hdb)
  refine PySem.W.callWith_K (h₀ := X.base) I.ok.mod.kin T.kC (thn (ha.run pos pins s σ H _ I h) fun us s1 ⟨vs, H1, I1, r1, hz, q1⟩ => ⟨I1.kIn, ?_⟩) he hpl
  show wpAny _ _ (call (.ref C) us) _ _ _
  obtain ⟨hp, g, dr, tk, os⟩ := s1
  have le : hp.objs.size ≤ hp.objs.size + 1 := Nat.le_succ _
  have hq := q1 (hp.objs.size + 1) (I1.hok.fresh le)
  have kk : ∀ b o, hp.get? b = some o → ((hp.push (PySem.W.kdv_tup us)).push (PySem.HandSPX.excO C hp.objs.size)).get? b = some o := fun b o z => Heap.get?_push_of_some _ (Heap.get?_push_of_some _ z)
  have at1 : ((hp.push (PySem.W.kdv_tup us)).push (PySem.HandSPX.excO C hp.objs.size)).get? (hp.objs.size + 1) = some (PySem.HandSPX.excO C hp.objs.size) := by heap_get
  have I2 := I1.laid (t' := tk) (a := hp.objs.size + 1) (o := exo (hp.objs.size + 1) C none) (h' := (hp.push (PySem.W.kdv_tup us)).push (PySem.HandSPX.excO C hp.objs.size)) kk le (exo_ok at1)
  have r2 : Vals (V.ref (hp.objs.size + 1) :: (vs ++ dvs)) (Value.ref (hp.objs.size + 1) :: (us ++ ds)) := .cons rfl (r1.append hd)
  have ln : (Value.ref (hp.objs.size + 1) :: us ++ ds).length = ps.length := (r2.length.symm.trans (F1.len _ _ _ _ hq))
  refine wpAny_call (PySem.HandSPX.call_own F.excBase_ValueError (fun Y => PySem.HandSPX.refsVE_contains Y bm hbm) (I1.kIn _ _ hC) (PySem.W.looks_findIn I1.kIn iC) (fun self => PySem.W.bind_fn I1.kIn self tI) (by rw [← Paired.length r1, sizeLine_eq]; omega)
    (codeAny_mono (F1.run _ X.stack _ _ ⟨Value.ref (hp.objs.size + 1) :: us, []⟩ (Value.ref (hp.objs.size + 1) :: (us ++ ds)) _ _ (fun _ _ _ => False) (hr.make C us []) (I2.env0.make C us []) (hb _ (Value.ref (hp.objs.size + 1) :: us) I2.kIn ln) r2 hq) fun r s' hq' => ?_))
  cases r with
  | error er => exact hx pins σ _ _ er s' I2 hq'
  | ok fl =>
    cases fl with
    | ret u =>
      obtain ⟨v, H2, os2, bare2, un2, hok2, rv, ev, dx, fs, ea, ed, hd1, q2⟩ := hq'
      subst ev
      obtain ⟨h2, g2, d2, t2, os'⟩ := s'
      obtain ⟨t0, G, J, kG, ge, hoe, na⟩ := mk_end0 (d2 := d2) (t2 := t2) I1 le kk un2 hok2 os2 bare2 ea ed hd1
      exact ⟨rv, _, _, _, ⟨G, g2, d2, t2, os'⟩, _, .ref C, some dx, rfl, J, kG, ge, hoe, ⟨rfl, rfl, fun vs z => by cases z; rfl⟩, rfl, rfl, na, rfl, bare2, raises_own T.exC T.tyC, q2⟩
    | next => exact False.elim hq'
    | brk => exact False.elim hq'
    | cont => exact False.elim hq'
/-- isinstance of the exception that is handled, one with fields -/
def rIsD (K : PySem.W.Frag) (D a dx : Addr) : List V → Hp → VK → Prop := fun xs H Q => ∃ (c : V) (cv : Value) (b : Bool) (fs : List (Str × V)), xs = [.ref a, c] ∧ H dx = some (.xd fs) ∧ (∀ u, RelV c u → u = cv) ∧ PySem.W.kitOne K (.ref D) cv = some b ∧ Q (.bl b) H
theorem call_isD {dx : Addr} (C : ExcC X.K D) (hp : (a, oe) ∈ X.pn) (hz : Zc (.ref D) (some dx) oe) (hf : ∃ vs, oe.data = .fields vs) : CallR X (.builtin "isinstance") (rIsD X.K D a dx) := by
  intro pins s σ H xs us Q I r h
  obtain ⟨c, cv, b, fs, rfl, hdx, hcv, z, q⟩ := h
  cases r with
  | cons rx rr =>
    cases rr with
    | cons rt rr =>
      cases rr
      cases rx
      obtain rfl := hcv _ rt
      have g := (I.pin (a, oe) (List.mem_append_left _ hp)).1
      obtain ⟨vs, hv⟩ := hf
      obtain ⟨mA, hns, _⟩ := (I.hok dx _ hdx : ObjOk X.prog X.w H s.heap dx (.xd fs))
      obtain ⟨od, ho, _⟩ := lookIn_ns hns
      have J : PySem.W.InstAt s.heap a oe D (some od) := ⟨g, hz.1, by unfold PySem.W.notCls; rw [hv] <;> rfl, by rw [hz.2]; exact ho⟩
      obtain ⟨cd, hc, _⟩ := PySem.W.any_some C.hd
      exact PySem.W.kia_one (PySem.W.kitx_exc (by rw [hc]; rfl) C.hg C.hk C.hs C.ha C.hn C.ht C.hm) I.kIn J z (fun y => nomatch y) fun tk => ⟨.bl b, H, I.kept (t' := tk) fun _ _ y => y, rfl, q⟩
end

/-! ### exceptions held as values -/
def IsX (H : Hp) (a C : Addr) : Prop := H a = some (ExO (.ref C) a) ∨ ∃ (dx : Addr) (fs : List (Str × V)), H a = some (exo a C (some dx)) ∧ H dx = some (exd dx fs)
def rIsV (K : PySem.W.Frag) : List V → Hp → VK → Prop := fun xs H Q => ∃ (a D : Addr) (c : V) (cv : Value) (b : Bool), xs = [.ref a, c] ∧ ExcC K D ∧ IsX H a D ∧ (∀ u, RelV c u → u = cv) ∧ PySem.W.kitOne K (.ref D) cv = some b ∧ Q (.bl b) H
def tFld (K : PySem.W.Frag) (n : Str) (te : TE) : TE := fun σ H Q => te σ H fun x H1 => ∃ (a C dx : Addr) (fs : List (Str × V)) (v : V), x = .ref a ∧ XfC K C ∧ PySem.W.findIn K (.ref C) n = some none ∧ H1 a = some (exo a C (some dx)) ∧ H1 dx = some (exd dx fs) ∧ fs.lookup n = some v ∧ Q v H1
def tMkV (C : Addr) (sp : Sp) (dvs : List V) (ta : TA) : TE := fun σ H Q => ta σ H fun vs H1 => vs.length ≤ 1000 ∧ ∀ a, H1 a = none → sp (.ref a :: (vs ++ dvs)) (upd H1 a (exo a C none)) (fun v H2 => v = .non ∧ Q (.ref a) H2) (fun _ _ _ => False)
section
variable {X : Cx} {x n : Str} {C fI : Addr} {e : Expr} {es : List Expr} {ta : TA} {te : TE} {p pos : Pos}
theorem call_isV : CallR X (.builtin "isinstance") (rIsV X.K) := by
  intro pins s σ H xs us Q I r h
  obtain ⟨a, D, c, cv, b, rfl, C, hx, hcv, z, q⟩ := h
  cases r with
  | cons rx rr =>
    cases rr with
    | cons rt rr =>
      cases rr
      cases rx
      have ec := hcv _ rt
      rw [ec]
      obtain ⟨cd, hc, _⟩ := PySem.W.any_some C.hd
      have fin : ∀ {oe : Obj} {od : Option Obj}, PySem.W.InstAt s.heap a oe D od → wpAny (model X.prog X.w) X.A (call (.builtin "isinstance") [.ref a, cv]) (EP X pins σ Q) X.xe s := fun J =>
        PySem.W.kia_one (PySem.W.kitx_exc (by rw [hc]; rfl) C.hg C.hk C.hs C.ha C.hn C.ht C.hm) I.kIn J z (fun y => nomatch y) fun tk => ⟨.bl b, H, I.kept (t' := tk) fun _ _ y => y, rfl, q⟩
      rcases hx with hx | ⟨dx, fs, hx, hdx⟩
      · obtain ⟨⟨oe, vs, g, hz, hv, _⟩, _⟩ := (I.hok a _ hx : ObjOk X.prog X.w H s.heap a (ExO (.ref D) a))
        exact fin (od := none) ⟨g, hz.1, by unfold PySem.W.notCls; rw [hv] <;> rfl, by rw [hz.2]; trivial⟩
      · obtain ⟨t1, g⟩ := exo_at I.hok hx
        obtain ⟨mA, hns, _⟩ := exd_at I.hok hdx
        obtain ⟨od, ho, _⟩ := lookIn_ns hns
        exact fin (od := some od) ⟨g, rfl, rfl, ho⟩
theorem pe_fld (he : PE X e te) (hb : attributeBase e n X.env (eval e X.env) = eval e X.env := by rfl) : PE X (.Attribute e n pos) (tFld X.K n te) := by
  refine ⟨fun pins s σ H Q I h => attr_of hb (thn (he.run pins s σ H _ I h) fun u s1 hh => ?_)⟩
  obtain ⟨y, H1, I1, rx, a, C, dx, fs, v, rfl, T, hno, hx, hdx, l, q⟩ := hh
  obtain rfl : u = Value.ref a := rx
  obtain ⟨t1, g⟩ := exo_at I1.hok hx
  obtain ⟨mA, hns, hr⟩ := exd_at I1.hok hdx
  obtain ⟨od, ho, hl⟩ := lookIn_ns hns
  obtain ⟨w', hu, ru⟩ := RelO.some_of (v := v) (o := mA n) (by rw [← l]; exact hr n)
  have J : PySem.W.InstAt s1.heap a _ C (some od) := ⟨g, rfl, rfl, ho⟩
  exact HandSPX.exc_get I1.kIn J T.ga T.gg T.exC (PySem.W.findObj_own T.hdC hno rfl (by rw [hl, hu])) (handed_of ru) ⟨v, H1, I1.tok _, ru, q⟩
theorem pe_mkV {CX : CXT} {k : Nat} {fd : FuncData} {ps : List Str} {sp : Sp} {ds : List Value} {dvs : List V} (T : OexC X.K C) (iC : PySem.W.findIn X.K (.ref C) "__init__" = some (some (.ref fI))) (tI : PySem.W.typeIn X.K (.ref fI) = some (.type "function"))
    (F1 : FnOk X.prog X.w X.K X.mg X.base CX k fI fd ps sp) (hr : Room (k + 1) X.A) (hb : Binds X.K fd ps ds) (hd : Vals dvs ds) (hx : Passes CX X (fun _ _ _ => False)) (hg : Gl X x) (hm : X.mg x = some (.ref C)) (ha : PA X (e :: es) ta)
    (hdb : (x == ("__debug__" : Str)) = false := by decide) (he : starEach (e :: es) X.env = (false, eval e X.env) :: starEach es X.env := by rfl) (hpl : (backTo pos (starEach es X.env)).any (·.1) = false := by rfl) :
    PE X (.Call (.Name x p) (e :: es) [] pos) (tMkV C sp dvs ta) := by
  refine ⟨fun pins s σ H Q I h => ?_⟩
  obtain ⟨nm, q, N, bs, bm, sn, sub, ab, col, dd, k0, k1, k2, k3, k5, hC, hbm⟩ := T.cls
  refine wpAny_Call_Name_kw (ld_glob I hg hm ?_ hdb)
  refine PySem.W.callWith_K (h₀ := X.base) I.ok.mod.kin T.kC (thn (ha.run pos pins s σ H _ I h) fun us s1 ⟨vs, H1, I1, r1, hz, q1⟩ => ⟨I1.kIn, ?_⟩) he hpl
  show wpAny _ _ (call (.ref C) us) _ _ _
  obtain ⟨hp, g, dr, tk, os⟩ := s1
  have le : hp.objs.size ≤ hp.objs.size + 1 := Nat.le_succ _
  have hq := q1 (hp.objs.size + 1) (I1.hok.fresh le)
  have kk : ∀ b o, hp.get? b = some o → ((hp.push (PySem.W.kdv_tup us)).push (PySem.HandSPX.excO C hp.objs.size)).get? b = some o := fun b o z => Heap.get?_push_of_some _ (Heap.get?_push_of_some _ z)
  have at1 : ((hp.push (PySem.W.kdv_tup us)).push (PySem.HandSPX.excO C hp.objs.size)).get? (hp.objs.size + 1) = some (PySem.HandSPX.excO C hp.objs.size) := by heap_get
  have I2 := I1.laid (t' := tk) (a := hp.objs.size + 1) (o := exo (hp.objs.size + 1) C none) (h' := (hp.push (PySem.W.kdv_tup us)).push (PySem.HandSPX.excO C hp.objs.size)) kk le (exo_ok at1)
  have r2 : Vals (V.ref (hp.objs.size + 1) :: (vs ++ dvs)) (Value.ref (hp.objs.size + 1) :: (us ++ ds)) := .cons rfl (r1.append hd)
  have ln : (Value.ref (hp.objs.size + 1) :: us ++ ds).length = ps.length := (r2.length.symm.trans (F1.len _ _ _ _ hq))
  refine wpAny_call (PySem.HandSPX.call_own F.excBase_ValueError (fun Y => PySem.HandSPX.refsVE_contains Y bm hbm) (I1.kIn _ _ hC) (PySem.W.looks_findIn I1.kIn iC) (fun self => PySem.W.bind_fn I1.kIn self tI) (by rw [← Paired.length r1, sizeLine_eq]; omega)
    (codeAny_mono (F1.run _ X.stack _ _ ⟨Value.ref (hp.objs.size + 1) :: us, []⟩ (Value.ref (hp.objs.size + 1) :: (us ++ ds)) _ _ (fun _ _ _ => False) (hr.make C us []) (I2.env0.make C us []) (hb _ (Value.ref (hp.objs.size + 1) :: us) I2.kIn ln) r2 hq) fun r s' hq' => ?_))
  cases r with
  | error er => exact hx pins σ _ _ er s' I2 hq'
  | ok fl =>
    cases fl with
    | ret u =>
      obtain ⟨v, H2, J, rv, ev, q2⟩ := I2.after hq'
      subst ev
      exact ⟨rv, .ref (hp.objs.size + 1), H2, J, rfl, q2⟩
    | next => exact False.elim hq'
    | brk => exact False.elim hq'
    | cont => exact False.elim hq'
end

/-! ### the kinds of a refusal, whatever its class -/
def XdOk (d : Option Addr) (H : Hp) : Prop := ∀ dx, d = some dx → ∃ fs, H dx = some (.xd fs)
theorem XdOk.same {d : Option Addr} {H H' : Hp} (h : XdOk d H) (s : Same H H') : XdOk d H' := fun dx e => by
  obtain ⟨fs, z⟩ := h dx e
  exact ⟨fs, s _ _ z⟩
theorem IsX.same {a C : Addr} {H H' : Hp} (h : IsX H a C) (s : Same H H') : IsX H' a C := by
  rcases h with h | ⟨dx, fs, h1, h2⟩
  · exact .inl (s _ _ h)
  · exact .inr ⟨dx, fs, s _ _ h1, s _ _ h2⟩
def rIsU (K : PySem.W.Frag) (D a : Addr) (d : Option Addr) : List V → Hp → VK → Prop := fun xs H Q => ∃ (c : V) (cv : Value) (b : Bool), xs = [.ref a, c] ∧ XdOk d H ∧ (∀ u, RelV c u → u = cv) ∧ PySem.W.kitOne K (.ref D) cv = some b ∧ Q (.bl b) H
theorem call_isU {X : Cx} {D a : Addr} {oe : Obj} {d : Option Addr} (C : ExcC X.K D) (hp : (a, oe) ∈ X.pn) (hz : Zc (.ref D) d oe) (hf : ∃ vs, oe.data = .fields vs) : CallR X (.builtin "isinstance") (rIsU X.K D a d) := by
  intro pins s σ H xs us Q I r h
  obtain ⟨c, cv, b, e, hx, hcv, z, q⟩ := h
  cases d with
  | none => exact call_isK C hp hz hf pins s σ H xs us Q I r ⟨c, cv, b, e, hcv, z, q⟩
  | some dx =>
    obtain ⟨fs, hd⟩ := hx dx rfl
    exact call_isD C hp hz hf pins s σ H xs us Q I r ⟨c, cv, b, fs, e, hd, hcv, z, q⟩
structure Kd (K : PySem.W.Frag) (mg : Str → Option Value) (D : Addr) (b : Nat → Bool) : Prop where
  is_AskedError : ∃ C, mg "AskedError" = some (.ref C) ∧ PySem.W.kitOne K (.ref D) (.ref C) = some (b 0)
  is_ToldError : ∃ C, mg "ToldError" = some (.ref C) ∧ PySem.W.kitOne K (.ref D) (.ref C) = some (b 1)
  is_Busy : ∃ C, mg "Busy" = some (.ref C) ∧ PySem.W.kitOne K (.ref D) (.ref C) = some (b 2)
  is_Clean : ∃ C, mg "Clean" = some (.ref C) ∧ PySem.W.kitOne K (.ref D) (.ref C) = some (b 3)
  is_NoClient : ∃ C, mg "NoClient" = some (.ref C) ∧ PySem.W.kitOne K (.ref D) (.ref C) = some (b 4)
  is_NoFile : ∃ C, mg "NoFile" = some (.ref C) ∧ PySem.W.kitOne K (.ref D) (.ref C) = some (b 5)
  is_NoLease : ∃ C, mg "NoLease" = some (.ref C) ∧ PySem.W.kitOne K (.ref D) (.ref C) = some (b 6)
  is_NoList : ∃ C, mg "NoList" = some (.ref C) ∧ PySem.W.kitOne K (.ref D) (.ref C) = some (b 7)
  is_NoMessage : ∃ C, mg "NoMessage" = some (.ref C) ∧ PySem.W.kitOne K (.ref D) (.ref C) = some (b 8)
  is_NoPage : ∃ C, mg "NoPage" = some (.ref C) ∧ PySem.W.kitOne K (.ref D) (.ref C) = some (b 9)
  is_NoRow : ∃ C, mg "NoRow" = some (.ref C) ∧ PySem.W.kitOne K (.ref D) (.ref C) = some (b 10)
  is_NoSetup : ∃ C, mg "NoSetup" = some (.ref C) ∧ PySem.W.kitOne K (.ref D) (.ref C) = some (b 11)
  is_NoText : ∃ C, mg "NoText" = some (.ref C) ∧ PySem.W.kitOne K (.ref D) (.ref C) = some (b 12)
  is_NoTicks : ∃ C, mg "NoTicks" = some (.ref C) ∧ PySem.W.kitOne K (.ref D) (.ref C) = some (b 13)
  is_NothingLeft : ∃ C, mg "NothingLeft" = some (.ref C) ∧ PySem.W.kitOne K (.ref D) (.ref C) = some (b 14)
  is_NotWaiting : ∃ C, mg "NotWaiting" = some (.ref C) ∧ PySem.W.kitOne K (.ref D) (.ref C) = some (b 15)
  is_NoValue : ∃ C, mg "NoValue" = some (.ref C) ∧ PySem.W.kitOne K (.ref D) (.ref C) = some (b 16)
  is_TooDeep : ∃ C, mg "TooDeep" = some (.ref C) ∧ PySem.W.kitOne K (.ref D) (.ref C) = some (b 17)
  is_TooMany : ∃ C, mg "TooMany" = some (.ref C) ∧ PySem.W.kitOne K (.ref D) (.ref C) = some (b 18)
  veq : PySem.W.kitOne K (.ref D) (.type "ValueError") = some (b 19)
  isc : ExcC K D
abbrev Zd (D : Addr) (d : Option Addr) : Obj → Prop := fun o => Zc (.ref D) d o ∧ ∃ vs, o.data = .fields vs
def kWs : List Str := ["asked ", "told ", "Busy", "Clean", "NoClient", "NoFile", "NoLease", "NoList", "NoMessage", "NoPage", "NoRow", "NoSetup", "NoText", "NoTicks", "NothingLeft", "NotWaiting", "NoValue", "TooDeep", "TooMany", "+"]
def kPk (b : Nat → Bool) (i : Nat) : List Str := ((List.range i).filter b).map fun j => kWs.getD j ""
def kStr (b : Nat → Bool) : Str := Txt.join (Str.ofString "") (kPk b 20)
theorem kPk_yes {b : Nat → Bool} {i : Nat} (h : b i = true) : kPk b (i + 1) = kPk b i ++ [kWs.getD i ""] := by
  unfold kPk
  rw [List.range_succ, List.filter_append, List.map_append]
  simp [h]
theorem kPk_no {b : Nat → Bool} {i : Nat} (h : b i = false) : kPk b (i + 1) = kPk b i := by
  unfold kPk
  rw [List.range_succ, List.filter_append, List.map_append]
  simp [h]
theorem kPk_len {b : Nat → Bool} {i : Nat} : (kPk b i).length ≤ i := by
  unfold kPk
  rw [List.length_map]
  exact Nat.le_trans (List.length_filter_le _ _) (by rw [List.length_range]; exact Nat.le_refl _)
theorem sum_le : ∀ {ys : List Str}, (∀ y ∈ ys, y.length ≤ 20) → (ys.map (·.length)).sum ≤ 20 * ys.length
  | [], _ => Nat.zero_le _
  | y :: ys, h => by
    have h1 := h y (List.mem_cons_self ..)
    have h2 := sum_le fun z hz => h z (List.mem_cons_of_mem _ hz)
    rw [List.map_cons, List.sum_cons, List.length_cons]
    omega
theorem kW_len (j : Nat) : (kWs.getD j "").length ≤ 20 := by
  by_cases h : j < 20
  · revert j
    decide +kernel
  · rw [List.getD_eq_getElem?_getD, List.getElem?_eq_none (by show 20 ≤ j; omega)]
    decide
theorem kBound {b : Nat → Bool} : ((kPk b 20).map (·.length)).sum + (kPk b 20).length * (Str.ofString "").length ≤ 16777216 := by
  have h1 := kPk_len (b := b) (i := 20)
  have h2 := sum_le (ys := kPk b 20) fun y hy => by
    obtain ⟨j, _, rfl⟩ := List.mem_map.mp hy
    exact kW_len j
  have h3 : (Str.ofString "").length = 0 := by decide
  rw [h3]
  omega
theorem kW_at : ∀ i, i < 20 → (kWs.map V.str)[i]? = some (.str (kWs.getD i "")) := by
  intro i hi
  have l : i < kWs.length := hi
  rw [List.getElem?_map, List.getElem?_eq_getElem l, List.getD_eq_getElem?_getD, List.getElem?_eq_getElem l]
  rfl
theorem kB_at {b : Nat → Bool} {i : Nat} (hi : i < 20) : ((List.range 20).map fun j => V.bl (b j))[i]? = some (.bl (b i)) := by
  rw [List.getElem?_map, List.getElem?_range hi]
  rfl
abbrev s__law_kinds : Stmt := topS 55
theorem sc__law_kinds : FnScope ["e", "some", "words", "k"] ["e"] (defScope s__law_kinds) := ⟨rfl, rfl, rfl, by decide +kernel, rfl, by decide +kernel, by decide +kernel⟩

def spKinds (d : Option Addr) (b : Nat → Bool) (a : Addr) : Sp := fun vs H Q _ => vs = [.ref a] ∧ XdOk d H ∧ ∀ H', Same H H' → Q (.str (kStr b)) H'
theorem ok_kindsD {f : Addr} {fd : FuncData} (F : Fun K "_law_kinds" "_law_kinds" s__law_kinds f fd) (gm : mg "_law_kinds" = some (.ref f)) (N : Fre K mg) {D : Addr} {d : Option Addr} {bb : Nat → Bool} (L : Kd K mg D bb) : CalK P w K mg base (Zd D d) 1 "_law_kinds" (spKinds d bb) := by
  obtain ⟨C_AskedError, gc_AskedError, i_AskedError⟩ := L.is_AskedError
  obtain ⟨C_ToldError, gc_ToldError, i_ToldError⟩ := L.is_ToldError
  obtain ⟨C_Busy, gc_Busy, i_Busy⟩ := L.is_Busy
  obtain ⟨C_Clean, gc_Clean, i_Clean⟩ := L.is_Clean
  obtain ⟨C_NoClient, gc_NoClient, i_NoClient⟩ := L.is_NoClient
  obtain ⟨C_NoFile, gc_NoFile, i_NoFile⟩ := L.is_NoFile
  obtain ⟨C_NoLease, gc_NoLease, i_NoLease⟩ := L.is_NoLease
  obtain ⟨C_NoList, gc_NoList, i_NoList⟩ := L.is_NoList
  obtain ⟨C_NoMessage, gc_NoMessage, i_NoMessage⟩ := L.is_NoMessage
  obtain ⟨C_NoPage, gc_NoPage, i_NoPage⟩ := L.is_NoPage
  obtain ⟨C_NoRow, gc_NoRow, i_NoRow⟩ := L.is_NoRow
  obtain ⟨C_NoSetup, gc_NoSetup, i_NoSetup⟩ := L.is_NoSetup
  obtain ⟨C_NoText, gc_NoText, i_NoText⟩ := L.is_NoText
  obtain ⟨C_NoTicks, gc_NoTicks, i_NoTicks⟩ := L.is_NoTicks
  obtain ⟨C_NothingLeft, gc_NothingLeft, i_NothingLeft⟩ := L.is_NothingLeft
  obtain ⟨C_NotWaiting, gc_NotWaiting, i_NotWaiting⟩ := L.is_NotWaiting
  obtain ⟨C_NoValue, gc_NoValue, i_NoValue⟩ := L.is_NoValue
  obtain ⟨C_TooDeep, gc_TooDeep, i_TooDeep⟩ := L.is_TooDeep
  obtain ⟨C_TooMany, gc_TooMany, i_TooMany⟩ := L.is_TooMany
  refine ⟨f, fd, _, fnk_of (Z := Zd D d) F sc__law_kinds (fun a vs H Q E h => ?_) (fun cdv A outer s H vs Q E a oe hot1 hz hr h => ?_), gm, F.kp, (F.binds (ps := ["e"]) fun _ _ _ _ _ _ us hl => match us, hl with | [_], _ => rfl)⟩
  · obtain ⟨rfl, _⟩ := h
    rfl
  · obtain ⟨rfl, hX, q⟩ := h
    refine ⟨_, (pss_cons (ps_set (i := 1) sc__law_kinds.nd rfl (.inr rfl) (pe_lst (pa_cons (pe_callB (call_isU L.isc List.mem_cons_self hz.1 hz.2) (by rfl) N.isinstance (by decide +kernel) (pa_cons (pv 0) (pa_cons (pe_glob (v := .ref C_AskedError) rfl gc_AskedError rfl) pa_nil))) (pa_cons (pe_callB (call_isU L.isc List.mem_cons_self hz.1 hz.2) (by rfl) N.isinstance (by decide +kernel) (pa_cons (pv 0) (pa_cons (pe_glob (v := .ref C_ToldError) rfl gc_ToldError rfl) pa_nil))) (pa_cons (pe_callB (call_isU L.isc List.mem_cons_self hz.1 hz.2) (by rfl) N.isinstance (by decide +kernel) (pa_cons (pv 0) (pa_cons (pe_glob (v := .ref C_Busy) rfl gc_Busy rfl) pa_nil))) (pa_cons (pe_callB (call_isU L.isc List.mem_cons_self hz.1 hz.2) (by rfl) N.isinstance (by decide +kernel) (pa_cons (pv 0) (pa_cons (pe_glob (v := .ref C_Clean) rfl gc_Clean rfl) pa_nil))) pa_nil))))))
 (pss_cons (ps_set (i := 1) sc__law_kinds.nd rfl (.inr rfl) (pe_op op_cat (pv 1) (pe_lst (pa_cons (pe_callB (call_isU L.isc List.mem_cons_self hz.1 hz.2) (by rfl) N.isinstance (by decide +kernel) (pa_cons (pv 0) (pa_cons (pe_glob (v := .ref C_NoClient) rfl gc_NoClient rfl) pa_nil))) (pa_cons (pe_callB (call_isU L.isc List.mem_cons_self hz.1 hz.2) (by rfl) N.isinstance (by decide +kernel) (pa_cons (pv 0) (pa_cons (pe_glob (v := .ref C_NoFile) rfl gc_NoFile rfl) pa_nil))) (pa_cons (pe_callB (call_isU L.isc List.mem_cons_self hz.1 hz.2) (by rfl) N.isinstance (by decide +kernel) (pa_cons (pv 0) (pa_cons (pe_glob (v := .ref C_NoLease) rfl gc_NoLease rfl) pa_nil))) (pa_cons (pe_callB (call_isU L.isc List.mem_cons_self hz.1 hz.2) (by rfl) N.isinstance (by decide +kernel) (pa_cons (pv 0) (pa_cons (pe_glob (v := .ref C_NoList) rfl gc_NoList rfl) pa_nil))) pa_nil)))))))
 (pss_cons (ps_set (i := 1) sc__law_kinds.nd rfl (.inr rfl) (pe_op op_cat (pv 1) (pe_lst (pa_cons (pe_callB (call_isU L.isc List.mem_cons_self hz.1 hz.2) (by rfl) N.isinstance (by decide +kernel) (pa_cons (pv 0) (pa_cons (pe_glob (v := .ref C_NoMessage) rfl gc_NoMessage rfl) pa_nil))) (pa_cons (pe_callB (call_isU L.isc List.mem_cons_self hz.1 hz.2) (by rfl) N.isinstance (by decide +kernel) (pa_cons (pv 0) (pa_cons (pe_glob (v := .ref C_NoPage) rfl gc_NoPage rfl) pa_nil))) (pa_cons (pe_callB (call_isU L.isc List.mem_cons_self hz.1 hz.2) (by rfl) N.isinstance (by decide +kernel) (pa_cons (pv 0) (pa_cons (pe_glob (v := .ref C_NoRow) rfl gc_NoRow rfl) pa_nil))) (pa_cons (pe_callB (call_isU L.isc List.mem_cons_self hz.1 hz.2) (by rfl) N.isinstance (by decide +kernel) (pa_cons (pv 0) (pa_cons (pe_glob (v := .ref C_NoSetup) rfl gc_NoSetup rfl) pa_nil))) pa_nil)))))))
 (pss_cons (ps_set (i := 1) sc__law_kinds.nd rfl (.inr rfl) (pe_op op_cat (pv 1) (pe_lst (pa_cons (pe_callB (call_isU L.isc List.mem_cons_self hz.1 hz.2) (by rfl) N.isinstance (by decide +kernel) (pa_cons (pv 0) (pa_cons (pe_glob (v := .ref C_NoText) rfl gc_NoText rfl) pa_nil))) (pa_cons (pe_callB (call_isU L.isc List.mem_cons_self hz.1 hz.2) (by rfl) N.isinstance (by decide +kernel) (pa_cons (pv 0) (pa_cons (pe_glob (v := .ref C_NoTicks) rfl gc_NoTicks rfl) pa_nil))) (pa_cons (pe_callB (call_isU L.isc List.mem_cons_self hz.1 hz.2) (by rfl) N.isinstance (by decide +kernel) (pa_cons (pv 0) (pa_cons (pe_glob (v := .ref C_NothingLeft) rfl gc_NothingLeft rfl) pa_nil))) (pa_cons (pe_callB (call_isU L.isc List.mem_cons_self hz.1 hz.2) (by rfl) N.isinstance (by decide +kernel) (pa_cons (pv 0) (pa_cons (pe_glob (v := .ref C_NotWaiting) rfl gc_NotWaiting rfl) pa_nil))) pa_nil)))))))
 (pss_cons (ps_set (i := 1) sc__law_kinds.nd rfl (.inr rfl) (pe_op op_cat (pv 1) (pe_lst (pa_cons (pe_callB (call_isU L.isc List.mem_cons_self hz.1 hz.2) (by rfl) N.isinstance (by decide +kernel) (pa_cons (pv 0) (pa_cons (pe_glob (v := .ref C_NoValue) rfl gc_NoValue rfl) pa_nil))) (pa_cons (pe_callB (call_isU L.isc List.mem_cons_self hz.1 hz.2) (by rfl) N.isinstance (by decide +kernel) (pa_cons (pv 0) (pa_cons (pe_glob (v := .ref C_TooDeep) rfl gc_TooDeep rfl) pa_nil))) (pa_cons (pe_callB (call_isU L.isc List.mem_cons_self hz.1 hz.2) (by rfl) N.isinstance (by decide +kernel) (pa_cons (pv 0) (pa_cons (pe_glob (v := .ref C_TooMany) rfl gc_TooMany rfl) pa_nil))) (pa_cons (pe_callB (call_isU L.isc List.mem_cons_self hz.1 hz.2) (by rfl) N.isinstance (by decide +kernel) (pa_cons (pv 0) (pa_cons (pe_bltn (v := .ty "ValueError") (u := .type "ValueError") rfl N.ValueError (by decide +kernel) rfl) pa_nil))) pa_nil)))))))
 (pss_cons (ps_set (i := 2) sc__law_kinds.nd rfl (.inr rfl) (pe_lst (pa_cons pe_str (pa_cons pe_str (pa_cons pe_str (pa_cons pe_str (pa_cons pe_str (pa_cons pe_str (pa_cons pe_str (pa_cons pe_str (pa_cons pe_str (pa_cons pe_str pa_nil))))))))))))
 (pss_cons (ps_set (i := 2) sc__law_kinds.nd rfl (.inr rfl) (pe_op op_cat (pv 2) (pe_lst (pa_cons pe_str (pa_cons pe_str (pa_cons pe_str (pa_cons pe_str (pa_cons pe_str (pa_cons pe_str (pa_cons pe_str (pa_cons pe_str pa_nil)))))))))))
 (pss_cons (ps_set (i := 2) sc__law_kinds.nd rfl (.inr rfl) (pe_op op_cat (pv 2) (pe_lst (pa_cons pe_str (pa_cons pe_str pa_nil)))))
 (pss_one (ps_ret (pe_join pe_str (pe_lcH (own := [("k", 3)]) (g := gName 3) ⟨(a, oe), hot1, List.mem_cons_self⟩ sc__law_kinds.nd (L2H.pi_range1H (by rfl) N.range (pa_cons pe_int pa_nil)) (blkOk_by (N := ["e", "some", "words", "k"]) (sc := defScope s__law_kinds) (by decide +kernel)) (fun _ _ _ _ _ => pg_name (i := 3) sc__law_kinds.nd rfl (Or.inl rfl)) (fun _ _ _ _ _ => pts_one (pt_val (pe_ix (show IxR _ (rIxL K) from ix_list) (pv 1) (pv 3) (fun _ _ => rfl)))) (fun _ _ _ _ _ => (pe_ix (show IxR _ (rIxL K) from ix_list) (pv 2) (pv 3) (fun _ _ => rfl))))))))))))))), ?_⟩
    refine ⟨_, rfl, _, _, _, rfl, hX, fun _ z => z, i_AskedError, _, rfl, _, _, _, rfl, hX, fun _ z => z, i_ToldError, _, rfl, _, _, _, rfl, hX, fun _ z => z, i_Busy, _, rfl, _, _, _, rfl, hX, fun _ z => z, i_Clean, (by show 4 ≤ sizeLine; decide), fun L1 nL1 => ?_⟩
    have mH1 : Same H (upd H L1 (.lst [.bl (bb 0), .bl (bb 1), .bl (bb 2), .bl (bb 3)])) := same_upd nL1
    have uH1 : upd H L1 (.lst [.bl (bb 0), .bl (bb 1), .bl (bb 2), .bl (bb 3)]) L1 = some (.lst [.bl (bb 0), .bl (bb 1), .bl (bb 2), .bl (bb 3)]) := upd_same
    revert mH1 uH1
    generalize upd H L1 (.lst [.bl (bb 0), .bl (bb 1), .bl (bb 2), .bl (bb 3)]) = H1
    intro mH1 uH1
    have sH1 := mH1
    refine ⟨_, rfl, _, rfl, _, _, _, rfl, (hX.same sH1), fun _ z => z, i_NoClient, _, rfl, _, _, _, rfl, (hX.same sH1), fun _ z => z, i_NoFile, _, rfl, _, _, _, rfl, (hX.same sH1), fun _ z => z, i_NoLease, _, rfl, _, _, _, rfl, (hX.same sH1), fun _ z => z, i_NoList, (by show 4 ≤ sizeLine; decide), fun R2 nR2 => ?_⟩
    have mH2 : Same H1 (upd H1 R2 (.lst [.bl (bb 4), .bl (bb 5), .bl (bb 6), .bl (bb 7)])) := same_upd nR2
    have uH2 : upd H1 R2 (.lst [.bl (bb 4), .bl (bb 5), .bl (bb 6), .bl (bb 7)]) R2 = some (.lst [.bl (bb 4), .bl (bb 5), .bl (bb 6), .bl (bb 7)]) := upd_same
    revert mH2 uH2
    generalize upd H1 R2 (.lst [.bl (bb 4), .bl (bb 5), .bl (bb 6), .bl (bb 7)]) = H2
    intro mH2 uH2
    have sH2 := sH1.trans mH2
    refine ⟨L1, R2, _, _, rfl, rfl, mH2 _ _ uH1, uH2, (by show 8 ≤ sizeLine; decide), fun L2 nL2 => ?_⟩
    have mH3 : Same H2 (upd H2 L2 (.lst ([.bl (bb 0), .bl (bb 1), .bl (bb 2), .bl (bb 3)] ++ [.bl (bb 4), .bl (bb 5), .bl (bb 6), .bl (bb 7)]))) := same_upd nL2
    have uH3 : upd H2 L2 (.lst ([.bl (bb 0), .bl (bb 1), .bl (bb 2), .bl (bb 3)] ++ [.bl (bb 4), .bl (bb 5), .bl (bb 6), .bl (bb 7)])) L2 = some (.lst [.bl (bb 0), .bl (bb 1), .bl (bb 2), .bl (bb 3), .bl (bb 4), .bl (bb 5), .bl (bb 6), .bl (bb 7)]) := upd_same
    revert mH3 uH3
    generalize upd H2 L2 (.lst ([.bl (bb 0), .bl (bb 1), .bl (bb 2), .bl (bb 3)] ++ [.bl (bb 4), .bl (bb 5), .bl (bb 6), .bl (bb 7)])) = H3
    intro mH3 uH3
    have sH3 := sH2.trans mH3
    refine ⟨_, rfl, _, rfl, _, _, _, rfl, (hX.same sH3), fun _ z => z, i_NoMessage, _, rfl, _, _, _, rfl, (hX.same sH3), fun _ z => z, i_NoPage, _, rfl, _, _, _, rfl, (hX.same sH3), fun _ z => z, i_NoRow, _, rfl, _, _, _, rfl, (hX.same sH3), fun _ z => z, i_NoSetup, (by show 4 ≤ sizeLine; decide), fun R3 nR3 => ?_⟩
    have mH4 : Same H3 (upd H3 R3 (.lst [.bl (bb 8), .bl (bb 9), .bl (bb 10), .bl (bb 11)])) := same_upd nR3
    have uH4 : upd H3 R3 (.lst [.bl (bb 8), .bl (bb 9), .bl (bb 10), .bl (bb 11)]) R3 = some (.lst [.bl (bb 8), .bl (bb 9), .bl (bb 10), .bl (bb 11)]) := upd_same
    revert mH4 uH4
    generalize upd H3 R3 (.lst [.bl (bb 8), .bl (bb 9), .bl (bb 10), .bl (bb 11)]) = H4
    intro mH4 uH4
    have sH4 := sH3.trans mH4
    refine ⟨L2, R3, _, _, rfl, rfl, mH4 _ _ uH3, uH4, (by show 12 ≤ sizeLine; decide), fun L3 nL3 => ?_⟩
    have mH5 : Same H4 (upd H4 L3 (.lst ([.bl (bb 0), .bl (bb 1), .bl (bb 2), .bl (bb 3), .bl (bb 4), .bl (bb 5), .bl (bb 6), .bl (bb 7)] ++ [.bl (bb 8), .bl (bb 9), .bl (bb 10), .bl (bb 11)]))) := same_upd nL3
    have uH5 : upd H4 L3 (.lst ([.bl (bb 0), .bl (bb 1), .bl (bb 2), .bl (bb 3), .bl (bb 4), .bl (bb 5), .bl (bb 6), .bl (bb 7)] ++ [.bl (bb 8), .bl (bb 9), .bl (bb 10), .bl (bb 11)])) L3 = some (.lst [.bl (bb 0), .bl (bb 1), .bl (bb 2), .bl (bb 3), .bl (bb 4), .bl (bb 5), .bl (bb 6), .bl (bb 7), .bl (bb 8), .bl (bb 9), .bl (bb 10), .bl (bb 11)]) := upd_same
    revert mH5 uH5
    generalize upd H4 L3 (.lst ([.bl (bb 0), .bl (bb 1), .bl (bb 2), .bl (bb 3), .bl (bb 4), .bl (bb 5), .bl (bb 6), .bl (bb 7)] ++ [.bl (bb 8), .bl (bb 9), .bl (bb 10), .bl (bb 11)])) = H5
    intro mH5 uH5
    have sH5 := sH4.trans mH5
    refine ⟨_, rfl, _, rfl, _, _, _, rfl, (hX.same sH5), fun _ z => z, i_NoText, _, rfl, _, _, _, rfl, (hX.same sH5), fun _ z => z, i_NoTicks, _, rfl, _, _, _, rfl, (hX.same sH5), fun _ z => z, i_NothingLeft, _, rfl, _, _, _, rfl, (hX.same sH5), fun _ z => z, i_NotWaiting, (by show 4 ≤ sizeLine; decide), fun R4 nR4 => ?_⟩
    have mH6 : Same H5 (upd H5 R4 (.lst [.bl (bb 12), .bl (bb 13), .bl (bb 14), .bl (bb 15)])) := same_upd nR4
    have uH6 : upd H5 R4 (.lst [.bl (bb 12), .bl (bb 13), .bl (bb 14), .bl (bb 15)]) R4 = some (.lst [.bl (bb 12), .bl (bb 13), .bl (bb 14), .bl (bb 15)]) := upd_same
    revert mH6 uH6
    generalize upd H5 R4 (.lst [.bl (bb 12), .bl (bb 13), .bl (bb 14), .bl (bb 15)]) = H6
    intro mH6 uH6
    have sH6 := sH5.trans mH6
    refine ⟨L3, R4, _, _, rfl, rfl, mH6 _ _ uH5, uH6, (by show 16 ≤ sizeLine; decide), fun L4 nL4 => ?_⟩
    have mH7 : Same H6 (upd H6 L4 (.lst ([.bl (bb 0), .bl (bb 1), .bl (bb 2), .bl (bb 3), .bl (bb 4), .bl (bb 5), .bl (bb 6), .bl (bb 7), .bl (bb 8), .bl (bb 9), .bl (bb 10), .bl (bb 11)] ++ [.bl (bb 12), .bl (bb 13), .bl (bb 14), .bl (bb 15)]))) := same_upd nL4
    have uH7 : upd H6 L4 (.lst ([.bl (bb 0), .bl (bb 1), .bl (bb 2), .bl (bb 3), .bl (bb 4), .bl (bb 5), .bl (bb 6), .bl (bb 7), .bl (bb 8), .bl (bb 9), .bl (bb 10), .bl (bb 11)] ++ [.bl (bb 12), .bl (bb 13), .bl (bb 14), .bl (bb 15)])) L4 = some (.lst [.bl (bb 0), .bl (bb 1), .bl (bb 2), .bl (bb 3), .bl (bb 4), .bl (bb 5), .bl (bb 6), .bl (bb 7), .bl (bb 8), .bl (bb 9), .bl (bb 10), .bl (bb 11), .bl (bb 12), .bl (bb 13), .bl (bb 14), .bl (bb 15)]) := upd_same
    revert mH7 uH7
    generalize upd H6 L4 (.lst ([.bl (bb 0), .bl (bb 1), .bl (bb 2), .bl (bb 3), .bl (bb 4), .bl (bb 5), .bl (bb 6), .bl (bb 7), .bl (bb 8), .bl (bb 9), .bl (bb 10), .bl (bb 11)] ++ [.bl (bb 12), .bl (bb 13), .bl (bb 14), .bl (bb 15)])) = H7
    intro mH7 uH7
    have sH7 := sH6.trans mH7
    refine ⟨_, rfl, _, rfl, _, _, _, rfl, (hX.same sH7), fun _ z => z, i_NoValue, _, rfl, _, _, _, rfl, (hX.same sH7), fun _ z => z, i_TooDeep, _, rfl, _, _, _, rfl, (hX.same sH7), fun _ z => z, i_TooMany, _, rfl, _, _, _, rfl, (hX.same sH7), fun _ z => z, L.veq, (by show 4 ≤ sizeLine; decide), fun R5 nR5 => ?_⟩
    have mH8 : Same H7 (upd H7 R5 (.lst [.bl (bb 16), .bl (bb 17), .bl (bb 18), .bl (bb 19)])) := same_upd nR5
    have uH8 : upd H7 R5 (.lst [.bl (bb 16), .bl (bb 17), .bl (bb 18), .bl (bb 19)]) R5 = some (.lst [.bl (bb 16), .bl (bb 17), .bl (bb 18), .bl (bb 19)]) := upd_same
    revert mH8 uH8
    generalize upd H7 R5 (.lst [.bl (bb 16), .bl (bb 17), .bl (bb 18), .bl (bb 19)]) = H8
    intro mH8 uH8
    have sH8 := sH7.trans mH8
    refine ⟨L4, R5, _, _, rfl, rfl, mH8 _ _ uH7, uH8, (by show 20 ≤ sizeLine; decide), fun L5 nL5 => ?_⟩
    have mH9 : Same H8 (upd H8 L5 (.lst ([.bl (bb 0), .bl (bb 1), .bl (bb 2), .bl (bb 3), .bl (bb 4), .bl (bb 5), .bl (bb 6), .bl (bb 7), .bl (bb 8), .bl (bb 9), .bl (bb 10), .bl (bb 11), .bl (bb 12), .bl (bb 13), .bl (bb 14), .bl (bb 15)] ++ [.bl (bb 16), .bl (bb 17), .bl (bb 18), .bl (bb 19)]))) := same_upd nL5
    have uH9 : upd H8 L5 (.lst ([.bl (bb 0), .bl (bb 1), .bl (bb 2), .bl (bb 3), .bl (bb 4), .bl (bb 5), .bl (bb 6), .bl (bb 7), .bl (bb 8), .bl (bb 9), .bl (bb 10), .bl (bb 11), .bl (bb 12), .bl (bb 13), .bl (bb 14), .bl (bb 15)] ++ [.bl (bb 16), .bl (bb 17), .bl (bb 18), .bl (bb 19)])) L5 = some (.lst [.bl (bb 0), .bl (bb 1), .bl (bb 2), .bl (bb 3), .bl (bb 4), .bl (bb 5), .bl (bb 6), .bl (bb 7), .bl (bb 8), .bl (bb 9), .bl (bb 10), .bl (bb 11), .bl (bb 12), .bl (bb 13), .bl (bb 14), .bl (bb 15), .bl (bb 16), .bl (bb 17), .bl (bb 18), .bl (bb 19)]) := upd_same
    revert mH9 uH9
    generalize upd H8 L5 (.lst ([.bl (bb 0), .bl (bb 1), .bl (bb 2), .bl (bb 3), .bl (bb 4), .bl (bb 5), .bl (bb 6), .bl (bb 7), .bl (bb 8), .bl (bb 9), .bl (bb 10), .bl (bb 11), .bl (bb 12), .bl (bb 13), .bl (bb 14), .bl (bb 15)] ++ [.bl (bb 16), .bl (bb 17), .bl (bb 18), .bl (bb 19)])) = H9
    intro mH9 uH9
    have sH9 := sH8.trans mH9
    refine ⟨(by show 10 ≤ sizeLine; decide), fun L6 nL6 => ?_⟩
    have mH10 : Same H9 (upd H9 L6 (.lst [.str "asked ", .str "told ", .str "Busy", .str "Clean", .str "NoClient", .str "NoFile", .str "NoLease", .str "NoList", .str "NoMessage", .str "NoPage"])) := same_upd nL6
    have uH10 : upd H9 L6 (.lst [.str "asked ", .str "told ", .str "Busy", .str "Clean", .str "NoClient", .str "NoFile", .str "NoLease", .str "NoList", .str "NoMessage", .str "NoPage"]) L6 = some (.lst [.str "asked ", .str "told ", .str "Busy", .str "Clean", .str "NoClient", .str "NoFile", .str "NoLease", .str "NoList", .str "NoMessage", .str "NoPage"]) := upd_same
    revert mH10 uH10
    generalize upd H9 L6 (.lst [.str "asked ", .str "told ", .str "Busy", .str "Clean", .str "NoClient", .str "NoFile", .str "NoLease", .str "NoList", .str "NoMessage", .str "NoPage"]) = H10
    intro mH10 uH10
    have sH10 := sH9.trans mH10
    refine ⟨_, rfl, (by show 8 ≤ sizeLine; decide), fun R7 nR7 => ?_⟩
    have mH11 : Same H10 (upd H10 R7 (.lst [.str "NoRow", .str "NoSetup", .str "NoText", .str "NoTicks", .str "NothingLeft", .str "NotWaiting", .str "NoValue", .str "TooDeep"])) := same_upd nR7
    have uH11 : upd H10 R7 (.lst [.str "NoRow", .str "NoSetup", .str "NoText", .str "NoTicks", .str "NothingLeft", .str "NotWaiting", .str "NoValue", .str "TooDeep"]) R7 = some (.lst [.str "NoRow", .str "NoSetup", .str "NoText", .str "NoTicks", .str "NothingLeft", .str "NotWaiting", .str "NoValue", .str "TooDeep"]) := upd_same
    revert mH11 uH11
    generalize upd H10 R7 (.lst [.str "NoRow", .str "NoSetup", .str "NoText", .str "NoTicks", .str "NothingLeft", .str "NotWaiting", .str "NoValue", .str "TooDeep"]) = H11
    intro mH11 uH11
    have sH11 := sH10.trans mH11
    refine ⟨L6, R7, _, _, rfl, rfl, mH11 _ _ uH10, uH11, (by show 18 ≤ sizeLine; decide), fun L7 nL7 => ?_⟩
    have mH12 : Same H11 (upd H11 L7 (.lst ([.str "asked ", .str "told ", .str "Busy", .str "Clean", .str "NoClient", .str "NoFile", .str "NoLease", .str "NoList", .str "NoMessage", .str "NoPage"] ++ [.str "NoRow", .str "NoSetup", .str "NoText", .str "NoTicks", .str "NothingLeft", .str "NotWaiting", .str "NoValue", .str "TooDeep"]))) := same_upd nL7
    have uH12 : upd H11 L7 (.lst ([.str "asked ", .str "told ", .str "Busy", .str "Clean", .str "NoClient", .str "NoFile", .str "NoLease", .str "NoList", .str "NoMessage", .str "NoPage"] ++ [.str "NoRow", .str "NoSetup", .str "NoText", .str "NoTicks", .str "NothingLeft", .str "NotWaiting", .str "NoValue", .str "TooDeep"])) L7 = some (.lst [.str "asked ", .str "told ", .str "Busy", .str "Clean", .str "NoClient", .str "NoFile", .str "NoLease", .str "NoList", .str "NoMessage", .str "NoPage", .str "NoRow", .str "NoSetup", .str "NoText", .str "NoTicks", .str "NothingLeft", .str "NotWaiting", .str "NoValue", .str "TooDeep"]) := upd_same
    revert mH12 uH12
    generalize upd H11 L7 (.lst ([.str "asked ", .str "told ", .str "Busy", .str "Clean", .str "NoClient", .str "NoFile", .str "NoLease", .str "NoList", .str "NoMessage", .str "NoPage"] ++ [.str "NoRow", .str "NoSetup", .str "NoText", .str "NoTicks", .str "NothingLeft", .str "NotWaiting", .str "NoValue", .str "TooDeep"])) = H12
    intro mH12 uH12
    have sH12 := sH11.trans mH12
    refine ⟨_, rfl, (by show 2 ≤ sizeLine; decide), fun R8 nR8 => ?_⟩
    have mH13 : Same H12 (upd H12 R8 (.lst [.str "TooMany", .str "+"])) := same_upd nR8
    have uH13 : upd H12 R8 (.lst [.str "TooMany", .str "+"]) R8 = some (.lst [.str "TooMany", .str "+"]) := upd_same
    revert mH13 uH13
    generalize upd H12 R8 (.lst [.str "TooMany", .str "+"]) = H13
    intro mH13 uH13
    have sH13 := sH12.trans mH13
    refine ⟨L7, R8, _, _, rfl, rfl, mH13 _ _ uH12, uH13, (by show 20 ≤ sizeLine; decide), fun L8 nL8 => ?_⟩
    have mH14 : Same H13 (upd H13 L8 (.lst ([.str "asked ", .str "told ", .str "Busy", .str "Clean", .str "NoClient", .str "NoFile", .str "NoLease", .str "NoList", .str "NoMessage", .str "NoPage", .str "NoRow", .str "NoSetup", .str "NoText", .str "NoTicks", .str "NothingLeft", .str "NotWaiting", .str "NoValue", .str "TooDeep"] ++ [.str "TooMany", .str "+"]))) := same_upd nL8
    have uH14 : upd H13 L8 (.lst ([.str "asked ", .str "told ", .str "Busy", .str "Clean", .str "NoClient", .str "NoFile", .str "NoLease", .str "NoList", .str "NoMessage", .str "NoPage", .str "NoRow", .str "NoSetup", .str "NoText", .str "NoTicks", .str "NothingLeft", .str "NotWaiting", .str "NoValue", .str "TooDeep"] ++ [.str "TooMany", .str "+"])) L8 = some (.lst [.str "asked ", .str "told ", .str "Busy", .str "Clean", .str "NoClient", .str "NoFile", .str "NoLease", .str "NoList", .str "NoMessage", .str "NoPage", .str "NoRow", .str "NoSetup", .str "NoText", .str "NoTicks", .str "NothingLeft", .str "NotWaiting", .str "NoValue", .str "TooDeep", .str "TooMany", .str "+"]) := upd_same
    revert mH14 uH14
    generalize upd H13 L8 (.lst ([.str "asked ", .str "told ", .str "Busy", .str "Clean", .str "NoClient", .str "NoFile", .str "NoLease", .str "NoList", .str "NoMessage", .str "NoPage", .str "NoRow", .str "NoSetup", .str "NoText", .str "NoTicks", .str "NothingLeft", .str "NotWaiting", .str "NoValue", .str "TooDeep"] ++ [.str "TooMany", .str "+"])) = H14
    intro mH14 uH14
    have sH14 := sH13.trans mH14
    have hs : H14 L5 = some (.lst ((List.range 20).map fun j => V.bl (bb j))) := (mH14 _ _ (mH13 _ _ (mH12 _ _ (mH11 _ _ (mH10 _ _ uH9)))))
    have hw : H14 L8 = some (.lst (kWs.map V.str)) := uH14
    have sm0 := sH14
    refine ⟨⟨_, rfl⟩, 20, rfl, by decide, by decide, fun D1 nD => lc_it walk_range (fun i H4 => Same H14 H4 ∧ H4 D1 = some (.lst ((kPk bb i).map V.str))) ⟨same_upd nD, upd_same⟩ (fun _ _ _ _ => trivial) ?_ ?_⟩
    · rintro i v H4 H5 hi ⟨s4, hD⟩ ⟨rfl, hv⟩
      subst hv
      have hi20 : i < 20 := hi
      have e1 : atI ((List.range 20).map fun j => V.bl (bb j)) (0 + (i : Int)) = some (.bl (bb i)) := by
        rw [Int.zero_add]
        exact atI_nat (kB_at hi20)
      refine ⟨rfl, _, rfl, _, rfl, L5, _, _, .bl (bb i), rfl, rfl, SqL.of (s4 _ _ hs), e1, bb i, rfl, ?_⟩
      cases hb : bb i with
      | true =>
        refine iteT ?_
        have e2 : atI (kWs.map V.str) (0 + (i : Int)) = some (.str (kWs.getD i "")) := by
          rw [Int.zero_add]
          exact atI_nat (kW_at i hi20)
        refine ⟨_, rfl, _, rfl, L8, _, _, _, rfl, rfl, SqL.of (s4 _ _ hw), e2, _, hD, ?_, fun b o e => ?_, ?_⟩
        · rw [List.length_map]
          exact small1000 (by have := kPk_len (b := bb) (i := i); omega)
        · rw [upd_ne (ne_of_none e nD)]
          exact s4 _ _ e
        · rw [upd_same, kPk_yes hb, List.map_append]
          rfl
      | false =>
        refine iteF ⟨s4, ?_⟩
        rw [kPk_no hb]
        exact hD
    · rintro H4 ⟨s4, hD⟩
      have hD' : H4 D1 = some (.lst ((kPk bb 20).map V.str)) := hD
      refine ⟨Str.ofString "", D1, _, rfl, rfl, .inl (SqL.of hD'), ?_, ?_⟩
      · exact kBound
      · exact q H4 (sm0.trans s4)

/-! ### the own __init__ of the exceptions -/
def clsS (i : Nat) : Stmt := match topS i with
  | .ClassDef (body := b) .. => b.getD 0 (.Pass ⟨0, 0, 0, 0⟩)
  | _ => .Pass ⟨0, 0, 0, 0⟩
def spInit (K : PySem.W.Frag) (C : Addr) (f : Str) : Sp := fun vs H Q _ => ∃ (a : Addr) (y : V), vs = [.ref a, y] ∧ H a = some (exo a C none) ∧ ∀ dx, H dx = none → dx ≠ a → Q .non (upd (upd H dx (exd dx [(f, y)])) a (exo a C (some dx)))
structure Bs (K : PySem.W.Frag) (mg : Str → Option Value) (x : Str) (B : Addr) : Prop where
  gl : mg x = some (.ref B)
  rd : PySem.W.readsIn K B (.type "type") = true
  ga : PySem.W.specialIn K (.ref B) "__getattribute__" = some (some (.builtin "type.__getattribute__"))
  vi : PySem.W.findCls K (.ref B) (.type "type") "__init__" = some (.val (.builtin "ValueError.__init__"))

abbrev s_NoText : Stmt := clsS 5
theorem sc_NoText : FnScope ["self", "line"] ["self", "line"] (defScope s_NoText) := ⟨rfl, rfl, rfl, by decide +kernel, rfl, by decide +kernel, by decide +kernel⟩
theorem init_NoText {f C B : Addr} {fd : FuncData} (F : FunD K "__init__" "NoText.__init__" (defArgs s_NoText) (defBody s_NoText) (defScope s_NoText) [V.non] [] f fd) (T : OexC K C) (no : PySem.W.findIn K (.ref C) "line" = some none) (b : Bs K mg "ToldError" B) : FnOk P w K mg base CX0 1 f fd ["self", "line"] (spInit K C "line") := by
  refine F.ok sc_NoText (fun vs H Q E h => ?_) (fun cdv A outer s H vs Q E hr h => ?_)
  · obtain ⟨a, y, rfl, _⟩ := h
    rfl
  · obtain ⟨a, y, rfl, ha, q⟩ := h
    refine ⟨_, (pss_cons (ps_expr (pe_oinit rfl b.gl b.rd b.ga b.vi (pa_cons (pv 0) (pa_cons pe_str pa_nil)))) (pss_one (ps_ost (pv 0) (pv 1)))), ?_⟩
    exact ⟨_, rfl, a, C, _, rfl, by decide, T, ha, _, rfl, _, rfl, a, C, rfl, T, no, .inl ⟨ha, fun dx n ne => q dx n ne⟩⟩
abbrev s_TooMany : Stmt := clsS 7
theorem sc_TooMany : FnScope ["self", "most"] ["self", "most"] (defScope s_TooMany) := ⟨rfl, rfl, rfl, by decide +kernel, rfl, by decide +kernel, by decide +kernel⟩
theorem init_TooMany {f C B : Addr} {fd : FuncData} (F : FunD K "__init__" "TooMany.__init__" (defArgs s_TooMany) (defBody s_TooMany) (defScope s_TooMany) ([] : List V) [] f fd) (T : OexC K C) (no : PySem.W.findIn K (.ref C) "most" = some none) (b : Bs K mg "ToldError" B) : FnOk P w K mg base CX0 1 f fd ["self", "most"] (spInit K C "most") := by
  refine F.ok sc_TooMany (fun vs H Q E h => ?_) (fun cdv A outer s H vs Q E hr h => ?_)
  · obtain ⟨a, y, rfl, _⟩ := h
    rfl
  · obtain ⟨a, y, rfl, ha, q⟩ := h
    refine ⟨_, (pss_cons (ps_expr (pe_oinit rfl b.gl b.rd b.ga b.vi (pa_cons (pv 0) (pa_cons pe_str pa_nil)))) (pss_one (ps_ost (pv 0) (pv 1)))), ?_⟩
    exact ⟨_, rfl, a, C, _, rfl, by decide, T, ha, _, rfl, _, rfl, a, C, rfl, T, no, .inl ⟨ha, fun dx n ne => q dx n ne⟩⟩
abbrev s_NoClient : Stmt := clsS 8
theorem sc_NoClient : FnScope ["self", "name"] ["self", "name"] (defScope s_NoClient) := ⟨rfl, rfl, rfl, by decide +kernel, rfl, by decide +kernel, by decide +kernel⟩
theorem init_NoClient {f C B : Addr} {fd : FuncData} (F : FunD K "__init__" "NoClient.__init__" (defArgs s_NoClient) (defBody s_NoClient) (defScope s_NoClient) ([] : List V) [] f fd) (T : OexC K C) (no : PySem.W.findIn K (.ref C) "name" = some none) (b : Bs K mg "AskedError" B) : FnOk P w K mg base CX0 1 f fd ["self", "name"] (spInit K C "name") := by
  refine F.ok sc_NoClient (fun vs H Q E h => ?_) (fun cdv A outer s H vs Q E hr h => ?_)
  · obtain ⟨a, y, rfl, _⟩ := h
    rfl
  · obtain ⟨a, y, rfl, ha, q⟩ := h
    refine ⟨_, (pss_cons (ps_expr (pe_oinit rfl b.gl b.rd b.ga b.vi (pa_cons (pv 0) (pa_cons pe_str pa_nil)))) (pss_one (ps_ost (pv 0) (pv 1)))), ?_⟩
    exact ⟨_, rfl, a, C, _, rfl, by decide, T, ha, _, rfl, _, rfl, a, C, rfl, T, no, .inl ⟨ha, fun dx n ne => q dx n ne⟩⟩
abbrev s_NoFile : Stmt := clsS 9
theorem sc_NoFile : FnScope ["self", "name"] ["self", "name"] (defScope s_NoFile) := ⟨rfl, rfl, rfl, by decide +kernel, rfl, by decide +kernel, by decide +kernel⟩
theorem init_NoFile {f C B : Addr} {fd : FuncData} (F : FunD K "__init__" "NoFile.__init__" (defArgs s_NoFile) (defBody s_NoFile) (defScope s_NoFile) ([] : List V) [] f fd) (T : OexC K C) (no : PySem.W.findIn K (.ref C) "name" = some none) (b : Bs K mg "AskedError" B) : FnOk P w K mg base CX0 1 f fd ["self", "name"] (spInit K C "name") := by
  refine F.ok sc_NoFile (fun vs H Q E h => ?_) (fun cdv A outer s H vs Q E hr h => ?_)
  · obtain ⟨a, y, rfl, _⟩ := h
    rfl
  · obtain ⟨a, y, rfl, ha, q⟩ := h
    refine ⟨_, (pss_cons (ps_expr (pe_oinit rfl b.gl b.rd b.ga b.vi (pa_cons (pv 0) (pa_cons pe_str pa_nil)))) (pss_one (ps_ost (pv 0) (pv 1)))), ?_⟩
    exact ⟨_, rfl, a, C, _, rfl, by decide, T, ha, _, rfl, _, rfl, a, C, rfl, T, no, .inl ⟨ha, fun dx n ne => q dx n ne⟩⟩
abbrev s_NoPage : Stmt := clsS 10
theorem sc_NoPage : FnScope ["self", "page"] ["self", "page"] (defScope s_NoPage) := ⟨rfl, rfl, rfl, by decide +kernel, rfl, by decide +kernel, by decide +kernel⟩
theorem init_NoPage {f C B : Addr} {fd : FuncData} (F : FunD K "__init__" "NoPage.__init__" (defArgs s_NoPage) (defBody s_NoPage) (defScope s_NoPage) ([] : List V) [] f fd) (T : OexC K C) (no : PySem.W.findIn K (.ref C) "page" = some none) (b : Bs K mg "AskedError" B) : FnOk P w K mg base CX0 1 f fd ["self", "page"] (spInit K C "page") := by
  refine F.ok sc_NoPage (fun vs H Q E h => ?_) (fun cdv A outer s H vs Q E hr h => ?_)
  · obtain ⟨a, y, rfl, _⟩ := h
    rfl
  · obtain ⟨a, y, rfl, ha, q⟩ := h
    refine ⟨_, (pss_cons (ps_expr (pe_oinit rfl b.gl b.rd b.ga b.vi (pa_cons (pv 0) (pa_cons pe_str pa_nil)))) (pss_one (ps_ost (pv 0) (pv 1)))), ?_⟩
    exact ⟨_, rfl, a, C, _, rfl, by decide, T, ha, _, rfl, _, rfl, a, C, rfl, T, no, .inl ⟨ha, fun dx n ne => q dx n ne⟩⟩
abbrev s_NoMessage : Stmt := clsS 13
theorem sc_NoMessage : FnScope ["self", "number"] ["self", "number"] (defScope s_NoMessage) := ⟨rfl, rfl, rfl, by decide +kernel, rfl, by decide +kernel, by decide +kernel⟩
theorem init_NoMessage {f C B : Addr} {fd : FuncData} (F : FunD K "__init__" "NoMessage.__init__" (defArgs s_NoMessage) (defBody s_NoMessage) (defScope s_NoMessage) ([] : List V) [] f fd) (T : OexC K C) (no : PySem.W.findIn K (.ref C) "number" = some none) (b : Bs K mg "AskedError" B) : FnOk P w K mg base CX0 1 f fd ["self", "number"] (spInit K C "number") := by
  refine F.ok sc_NoMessage (fun vs H Q E h => ?_) (fun cdv A outer s H vs Q E hr h => ?_)
  · obtain ⟨a, y, rfl, _⟩ := h
    rfl
  · obtain ⟨a, y, rfl, ha, q⟩ := h
    refine ⟨_, (pss_cons (ps_expr (pe_oinit rfl b.gl b.rd b.ga b.vi (pa_cons (pv 0) (pa_cons pe_str pa_nil)))) (pss_one (ps_ost (pv 0) (pv 1)))), ?_⟩
    exact ⟨_, rfl, a, C, _, rfl, by decide, T, ha, _, rfl, _, rfl, a, C, rfl, T, no, .inl ⟨ha, fun dx n ne => q dx n ne⟩⟩
abbrev s_Busy : Stmt := clsS 14
theorem sc_Busy : FnScope ["self", "name"] ["self", "name"] (defScope s_Busy) := ⟨rfl, rfl, rfl, by decide +kernel, rfl, by decide +kernel, by decide +kernel⟩
theorem init_Busy {f C B : Addr} {fd : FuncData} (F : FunD K "__init__" "Busy.__init__" (defArgs s_Busy) (defBody s_Busy) (defScope s_Busy) ([] : List V) [] f fd) (T : OexC K C) (no : PySem.W.findIn K (.ref C) "name" = some none) (b : Bs K mg "AskedError" B) : FnOk P w K mg base CX0 1 f fd ["self", "name"] (spInit K C "name") := by
  refine F.ok sc_Busy (fun vs H Q E h => ?_) (fun cdv A outer s H vs Q E hr h => ?_)
  · obtain ⟨a, y, rfl, _⟩ := h
    rfl
  · obtain ⟨a, y, rfl, ha, q⟩ := h
    refine ⟨_, (pss_cons (ps_expr (pe_oinit rfl b.gl b.rd b.ga b.vi (pa_cons (pv 0) (pa_cons pe_str pa_nil)))) (pss_one (ps_ost (pv 0) (pv 1)))), ?_⟩
    exact ⟨_, rfl, a, C, _, rfl, by decide, T, ha, _, rfl, _, rfl, a, C, rfl, T, no, .inl ⟨ha, fun dx n ne => q dx n ne⟩⟩
abbrev s_NotWaiting : Stmt := clsS 15
theorem sc_NotWaiting : FnScope ["self", "name"] ["self", "name"] (defScope s_NotWaiting) := ⟨rfl, rfl, rfl, by decide +kernel, rfl, by decide +kernel, by decide +kernel⟩
theorem init_NotWaiting {f C B : Addr} {fd : FuncData} (F : FunD K "__init__" "NotWaiting.__init__" (defArgs s_NotWaiting) (defBody s_NotWaiting) (defScope s_NotWaiting) ([] : List V) [] f fd) (T : OexC K C) (no : PySem.W.findIn K (.ref C) "name" = some none) (b : Bs K mg "AskedError" B) : FnOk P w K mg base CX0 1 f fd ["self", "name"] (spInit K C "name") := by
  refine F.ok sc_NotWaiting (fun vs H Q E h => ?_) (fun cdv A outer s H vs Q E hr h => ?_)
  · obtain ⟨a, y, rfl, _⟩ := h
    rfl
  · obtain ⟨a, y, rfl, ha, q⟩ := h
    refine ⟨_, (pss_cons (ps_expr (pe_oinit rfl b.gl b.rd b.ga b.vi (pa_cons (pv 0) (pa_cons pe_str pa_nil)))) (pss_one (ps_ost (pv 0) (pv 1)))), ?_⟩
    exact ⟨_, rfl, a, C, _, rfl, by decide, T, ha, _, rfl, _, rfl, a, C, rfl, T, no, .inl ⟨ha, fun dx n ne => q dx n ne⟩⟩
abbrev s_NoList : Stmt := clsS 19
theorem sc_NoList : FnScope ["self", "name"] ["self", "name"] (defScope s_NoList) := ⟨rfl, rfl, rfl, by decide +kernel, rfl, by decide +kernel, by decide +kernel⟩
theorem init_NoList {f C B : Addr} {fd : FuncData} (F : FunD K "__init__" "NoList.__init__" (defArgs s_NoList) (defBody s_NoList) (defScope s_NoList) ([] : List V) [] f fd) (T : OexC K C) (no : PySem.W.findIn K (.ref C) "name" = some none) (b : Bs K mg "AskedError" B) : FnOk P w K mg base CX0 1 f fd ["self", "name"] (spInit K C "name") := by
  refine F.ok sc_NoList (fun vs H Q E h => ?_) (fun cdv A outer s H vs Q E hr h => ?_)
  · obtain ⟨a, y, rfl, _⟩ := h
    rfl
  · obtain ⟨a, y, rfl, ha, q⟩ := h
    refine ⟨_, (pss_cons (ps_expr (pe_oinit rfl b.gl b.rd b.ga b.vi (pa_cons (pv 0) (pa_cons pe_str pa_nil)))) (pss_one (ps_ost (pv 0) (pv 1)))), ?_⟩
    exact ⟨_, rfl, a, C, _, rfl, by decide, T, ha, _, rfl, _, rfl, a, C, rfl, T, no, .inl ⟨ha, fun dx n ne => q dx n ne⟩⟩

/-! ### mirrors: refusals (classes by numbers; cl tells where they lie) -/
def trc (cl : Nat → Addr) : Value → Value
  | .ref c => .ref (cl c)
  | v => v
abbrev Wc (cl : Nat → Addr) (W : WX) : WishX := fun v d σ H => W (trc cl v) d σ H
def spX (K : PySem.W.Frag) (w : World) (cl : Nat → Addr) (n : Nat) (m : List A → Sto → Res A) : Sp := fun vs H Q E => ∃ ρ st as, vs.length = n ∧ Rel K w ρ H st ∧ Rvs K H ρ vs as ∧ Post K w ρ H (m as st) (fun a _ ρ' H' => ∀ v, Rv K H' ρ' v a → Q v H') (fun c d H' => E (trc cl c) d H')
/-- a def that may refuse -/
structure CalE (P : Program) (w : World) (K : PySem.W.Frag) (mg : Str → Option Value) (base : Heap) (k : Nat) (x : Str) (sp : Sp) : Prop where
  ex : ∃ (f : Addr) (fd : FuncData) (ps : List Str), FnOk P w K mg base (L2N.CX P w) k f fd ps sp ∧ mg x = some (.ref f) ∧ PySem.W.keepIn K (.ref f) = true ∧ Binds K fd ps []
section
variable {P : Program} {w : World} {K : PySem.W.Frag} {mg : Str → Option Value} {base : Heap} {cl : Nat → Addr}
theorem mkCalE {x : Str} {st : Stmt} {f : Addr} {fd : FuncData} {N ps : List Str} {k : Nat} {sp : Sp} (F : Fun K x x st f fd) (gm : mg x = some (.ref f)) (S : FnScope N ps (defScope st)) (b : Binds K fd ps []) (len : ∀ vs H Q E, sp vs H Q E → vs.length = ps.length)
    (hbody : ∀ (cdv : Value) (A : Around) (outer : List Env) (s : Shared) (H : Hp) (vs : List V) (Q : VK) (E : XK), Room k (A.deeper (envOfC x (defScope st) s.heap.objs.size f cdv)) → sp vs H Q E →
      ∃ t, PSs (cxOf (L2N.CX P w) P w K mg base N x (defScope st) f cdv A outer s H E) (defBody st) t ∧ t { nx := fun _ H' => Q .non H', rt := Q } (start N vs) H) : CalE P w K mg base (k + 1) x sp := by
  refine ⟨f, fd, ps, ?_, gm, F.kp, b⟩
  obtain ⟨oc, od, kV, doc, pm, an, cdv, ct, osl, rfl, lk, hcd⟩ := F.ex
  exact fn_of lk hcd S len fun A outer s H vs Q E hr hsp => hbody cdv A outer s H vs Q E hr hsp
/-- .. where it does not -/
theorem CalE.cal {k n : Nat} {x : Str} {m : List A → Sto → Res A} (c : CalE P w K mg base k x (spX K w cl n m)) : C8.Cal P w K mg base k x (spN K w n m) [] := by
  obtain ⟨f, fd, ps, F, hm, kp, b⟩ := c.ex
  have go : ∀ vs H Q E, spN K w n m vs H Q E → spX K w cl n m vs H Q (fun _ _ _ => False) := fun vs H Q E h => by
    obtain ⟨ρ, st, as, h1, h2, h3, h4⟩ := h
    refine ⟨ρ, st, as, h1, h2, h3, ?_⟩
    have h4 : Post K w ρ H (noX (m as st)) (fun a _ ρ' H' => ∀ v, Rv K H' ρ' v a → Q v H') (fun c d H' => E c d H') := h4
    cases e : m as st with
    | ok a s => rw [e] at h4; exact h4
    | ex c d s => rw [e] at h4; exact h4.elim
    | no => rw [e] at h4; exact h4
  refine ⟨f, fd, ps, [], ⟨fun vs H Q E h => F.len vs H Q _ (go vs H Q E h), fun A outer s H args us vs Q E hr e0 bt rv h => ?_⟩, hm, kp, b, .nil⟩
  refine codeAny_mono (F.run A outer s H args us vs Q _ hr e0 bt rv (go vs H Q E h)) fun r s' z => ?_
  cases r with
  | error e =>
    obtain ⟨_, _, _, _, _, _, _, _, _, _, _, _, z⟩ := z
    exact z.elim
  | ok fl => cases fl <;> exact z
end
section
variable {X : Cx} {w : World} {cl : Nat → Addr} {W : WX} {k j : Nat} {x : Str} {sp : Sp} {p pos : Pos} {e : Expr} {es : List Expr} {t : TA}
theorem pe_cE (c : CalE X.prog X.w X.K X.mg X.base k x sp) (hr : Room j X.A) (hk : k ≤ j) (tk : L2N.Takes X W) (hg : Gl X x) (ha : PA X (e :: es) t)
    (hdb : (x == ("__debug__" : Str)) = false := by decide) (he : starEach (e :: es) X.env = (false, eval e X.env) :: starEach es X.env := by rfl) (hpl : (backTo pos (starEach es X.env)).any (·.1) = false := by rfl) :
    PE X (.Call (.Name x p) (e :: es) [] pos) (tCallS sp (WE W) t) := by
  obtain ⟨f, fd, ps, F, hm, kp, b⟩ := c.ex
  exact pe_callS F (hr.mono hk) hg hm kp b (L2N.passAt tk) ha hdb he hpl
def mCallE (n : Nat) (m : List A → Sto → Res A) (f : MA) : ME := fun env st => (f env st).bind fun as s => if as.length = n then m as s else .no
theorem re_callE {n : Nat} {m : List A → Sto → Res A} {f : MA} (hf : RA K w (Wc cl W) t f) : RE K w (Wc cl W) (tCallS (spX K w cl n m) (WE W) t) (mCallE n m f) := fun ρ H st σ env Q rel re p =>
  hf.use rel re p fun as s1 ρ1 H1 vs e1 r1 v1 p1 => by
    split at p1
    · rename_i hl
      exact ⟨ρ1, s1, as, by rw [v1.length]; exact hl, r1, v1, p1⟩
    · exact p1.elim
theorem spX_body {N : List Str} {n : Nat} {b : MS} {t : TS} {vs : List V} {H : Hp} {Q : VK} {E : XK} (hb : RS K w (Wc cl fun c d _ H => E c d H) t b) (h : spX K w cl n (runB N.length b) vs H Q E) : t { nx := fun _ H' => Q .non H', rt := Q } (L2.start N vs) H := by
  obtain ⟨ρ, st, as, _, rel, rv, p⟩ := h
  refine hb ρ H st _ _ _ rel (renv_start rv) ?_
  unfold runB at p
  cases e : b (as.map some ++ List.replicate (N.length - as.length) none) st with
  | no => rw [e] at p; exact p
  | ex c d e2 s => rw [e] at p; exact fun ρ' H' σ' dx e' r' _ hd => p ρ' H' dx e' r' hd
  | fl f s =>
    rw [e] at p
    cases f with
    | nx e2 => exact fun ρ' H' σ' e' r' _ => p ρ' H' e' r' .non .non
    | rt a => exact fun ρ' H' v e' r' hv => p ρ' H' e' r' v hv
    | bk e2 => exact p.elim
    | ct e2 => exact p.elim
/-! raise -/
def sRaise0 (c : Nat) : MS := fun env st => .ex c none env st
theorem rs_raise0 {c : Nat} : RS K w (Wc cl W) (fun _ σ H => W (.ref (cl c)) none σ H) (sRaise0 c) := fun ρ H st σ env D rel re p => p ρ H σ none (Ext.refl _ _) rel re trivial
def sRaise1 (c : Nat) (f : Str) (e : ME) : MS := fun env st => (e env st).thenS env fun a s => .ex c (some s.length) env (s ++ [.xd [(f, a)]])
theorem heap_exo {H : Hp} {a dx : Addr} {o o1 o2 o3 : HO} (na : H a = none) (ne : dx ≠ a) : upd (del (upd (upd (upd H a o) dx o1) a o2) a) dx o3 = upd H dx o3 := by
  funext b
  by_cases h : b = dx
  · subst h
    rw [upd_same, upd_same]
  · rw [upd_ne h, upd_ne h]
    by_cases g : b = a
    · subst g
      rw [del_same, na]
    · rw [del_ne g, upd_ne g, upd_ne h, upd_ne g]
theorem rs_raise1 {c : Nat} {f : Str} {ta : TE} {e : ME} (he : RE K w (Wc cl W) ta e) : RS K w (Wc cl W) (fun _ σ H => tMkO (cl c) (spInit K (cl c) f) [] (tCons ta tNil) σ H fun cls d H' => W cls d σ H') (sRaise1 c f e) := fun ρ H st σ env D rel re p =>
  he.useS rel re p fun a s1 ρ1 H1 x e1 r1 v1 p1 => by
    refine ⟨Nat.le_of_ble_eq_true rfl, fun q nq => ⟨q, x, rfl, upd_same, fun dx nd ne => ⟨rfl, dx, _, upd_same, by rw [upd_ne ne, upd_same], ?_, ?_⟩⟩⟩
    · rw [upd_ne ne] at nd
      exact nd
    · rw [upd_ne ne] at nd
      rw [heap_exo nq ne]
      obtain ⟨e2, r2⟩ := r1.new (o := .xd [(f, a)]) (u := .xd [(f, x)]) nd fun H' e' h' => ⟨_, h', .cons ⟨rfl, rv_ext e' v1⟩ .nil⟩
      exact p1 _ _ σ (some dx) e2 r2 (re.ext (e1.trans e2)) (r1.last dx)
/-- .. by the default -/
def tMkO0 (C : Addr) (sp : Sp) (dvs : List V) : L2.St → Hp → XK → Prop := fun _ H Q => ∀ a, H a = none → sp (.ref a :: dvs) (upd H a (exo a C none))
  (fun v H2 => v = .non ∧ ∃ (d : Addr) (fs : List (Str × V)), H2 a = some (exo a C (some d)) ∧ H2 d = some (exd d fs) ∧ H d = none ∧ Q (.ref C) (some d) (upd (del H2 a) d (.xd fs))) (fun _ _ _ => False)
def sRaiseN (c : Nat) (f : Str) : MS := fun env st => .ex c (some st.length) env (st ++ [.xd [(f, .non)]])
theorem rs_raiseN {c : Nat} {f : Str} : RS K w (Wc cl W) (fun _ σ H => tMkO0 (cl c) (spInit K (cl c) f) [.non] σ H fun cls d H' => W cls d σ H') (sRaiseN c f) := fun ρ H st σ env D rel re p q nq =>
  ⟨q, .non, rfl, upd_same, fun dx nd ne => ⟨rfl, dx, _, upd_same, by rw [upd_ne ne, upd_same], by rw [upd_ne ne] at nd; exact nd, by
      rw [upd_ne ne] at nd
      rw [heap_exo nq ne]
      obtain ⟨e2, r2⟩ := rel.new (o := .xd [(f, .non)]) (u := .xd [(f, .non)]) nd fun H' e' h' => ⟨_, h', .cons ⟨rfl, .non⟩ .nil⟩
      exact p _ _ σ (some dx) e2 r2 (re.ext e2) (rel.last dx)⟩⟩
theorem pmkN_oex0 {C fI : Addr} {CX : CXT} {fd : FuncData} {ps : List Str} {ds : List Value} {dvs : List V} (T : OexC X.K C) (iC : PySem.W.findIn X.K (.ref C) "__init__" = some (some (.ref fI))) (tI : PySem.W.typeIn X.K (.ref fI) = some (.type "function"))
    (F1 : FnOk X.prog X.w X.K X.mg X.base CX k fI fd ps sp) (hr : Room (k + 1) X.A) (hb : Binds X.K fd ps ds) (hd : Vals dvs ds) (hx : Passes CX X (fun _ _ _ => False)) (hg : Gl X x) (hm : X.mg x = some (.ref C))
    (hdb : (x == ("__debug__" : Str)) = false := by decide) : L2N.PMk X (.Call (.Name x p) [] [] pos) (tMkO0 C sp dvs) := by
  intro pins s σ H Q I h
  obtain ⟨nm, q, N, bs, bm, sn, sub, ab, col, dd, k0, k1, k2, k3, k5, hC, hbm⟩ := T.cls
  refine wpAny_Call_Name_kw (ld_glob I hg hm ?_ hdb)
  have hkw : PK X [] tNil := pk_nil
  refine PySem.W.callWith_KW0 (h₀ := X.base) I.ok.mod.kin T.kC rfl ?_ rfl
  refine thn (hkw.run pos pins s σ H (fun zs H1 => zs = [] ∧ H1 = H) I ⟨rfl, rfl⟩) fun ws s1 ⟨zs, H1, I1, rz, ez, eH⟩ => ⟨I1.kIn, ?_⟩
  subst ez eH
  show wpAny _ _ (call (.ref C) []) _ _ _
  obtain ⟨hp, g1, dr, t1, os⟩ := s1
  have le : hp.objs.size ≤ hp.objs.size + 1 := Nat.le_succ _
  have hq := h (hp.objs.size + 1) (I1.hok.fresh le)
  have kk : ∀ b o, hp.get? b = some o → ((hp.push (PySem.W.kdv_tup [])).push (PySem.HandSPX.excO C hp.objs.size)).get? b = some o := fun b o z => Heap.get?_push_of_some _ (Heap.get?_push_of_some _ z)
  have at1 : ((hp.push (PySem.W.kdv_tup [])).push (PySem.HandSPX.excO C hp.objs.size)).get? (hp.objs.size + 1) = some (PySem.HandSPX.excO C hp.objs.size) := by heap_get
  have I2 := I1.laid (t' := t1) (a := hp.objs.size + 1) (o := exo (hp.objs.size + 1) C none) (h' := (hp.push (PySem.W.kdv_tup [])).push (PySem.HandSPX.excO C hp.objs.size)) kk le (exo_ok at1)
  have r2 : Vals (V.ref (hp.objs.size + 1) :: dvs) (Value.ref (hp.objs.size + 1) :: ds) := .cons rfl hd
  have ln : (Value.ref (hp.objs.size + 1) :: [] ++ ds).length = ps.length := (r2.length.symm.trans (F1.len _ _ _ _ hq))
  refine wpAny_call (PySem.HandSPX.call_own F.excBase_ValueError (fun Y => PySem.HandSPX.refsVE_contains Y bm hbm) (I1.kIn _ _ hC) (PySem.W.looks_findIn I1.kIn iC) (fun self => PySem.W.bind_fn I1.kIn self tI) (Nat.zero_le _)
    (codeAny_mono (F1.run _ X.stack _ _ ⟨[Value.ref (hp.objs.size + 1)], []⟩ (Value.ref (hp.objs.size + 1) :: ds) _ _ (fun _ _ _ => False) (hr.make C [] []) (I2.env0.make C [] []) (hb _ [Value.ref (hp.objs.size + 1)] I2.kIn ln) r2 hq) fun r s' hq' => ?_))
  cases r with
  | error er => exact hx pins σ _ _ er s' I2 hq'
  | ok fl =>
    cases fl with
    | ret u =>
      obtain ⟨v, H2, os2, bare2, un2, hok2, rv, ev, dx, fs, ea, ed, hd1, q2⟩ := hq'
      subst ev
      obtain ⟨h2, g2, d2, t2, os'⟩ := s'
      obtain ⟨t0, G, J, kG, ge, hoe, na⟩ := mk_end0 (d2 := d2) (t2 := t2) I1 le kk un2 hok2 os2 bare2 ea ed hd1
      exact ⟨rv, _, _, _, ⟨G, g2, d2, t2, os'⟩, _, .ref C, some dx, rfl, J, kG, ge, hoe, ⟨rfl, rfl, fun vs z => by cases z; rfl⟩, rfl, rfl, na, rfl, bare2, raises_own T.exC T.tyC, q2⟩
    | next => exact False.elim hq'
    | brk => exact False.elim hq'
    | cont => exact False.elim hq'
end
/-! try: the suite's slot i holds the exception -/
def unsF (i : Nat) : RF → RF
  | .fl (.nx e) s => .fl (.nx (e.set i none)) s
  | .fl (.bk e) s => .fl (.bk (e.set i none)) s
  | .fl (.ct e) s => .fl (.ct (e.set i none)) s
  | .fl (.rt a) s => .fl (.rt a) s
  | _ => .no
def excA (a : Addr) : Option Nat → Option Addr → A
  | some n, some d => .exc a d n
  | _, _ => .adr a
def hdK (i n : Nat) (sub : Nat → Bool) (h : Nat → Option Nat → MS) (c : Nat) (d : Option Nat) (e : AEnv) (s : Sto) : RF := if c < n then (if sub c = true then (if i < e.length then h c d e s else .no) else .ex c d e s) else .no
def tryK (k : Nat → Option Nat → AEnv → Sto → RF) (r : RF) : RF := match r with
  | .ex c d e s => k c d e s
  | r => r
def sTryAs (i n : Nat) (sub : Nat → Bool) (b : MS) (h : Nat → Option Nat → MS) : MS := fun env st => tryK (hdK i n sub h) (b env st)
section
variable {w : World} {cl : Nat → Addr} {Wout : WX}
theorem rd_exc {H : Hp} {ρ : List Addr} {d : Option Nat} {dx : Option Addr} {a : Addr} (h : RD ρ d dx) : Rv K H ρ (.ref a) (excA a d dx) := by
  cases d with
  | none =>
    cases dx with
    | none => exact .adr a
    | some x => exact h.elim
  | some n =>
    cases dx with
    | none => exact h.elim
    | some x => exact .exc h
theorem rs_tryAs {c0 : Value} {i n : Nat} {sub : Nat → Bool} {tb : WX → TS} {ts : Addr → Value → Option Addr → TS} {b : MS} {h : Nat → Option Nat → MS} {h' : Nat → Option Nat → Addr → Option Addr → MS}
    (hx : ∀ c, c < n → PySem.W.exmOne K (.ref (cl c)) c0 = some (sub c)) (hb : ∀ W : WX, RS K w (Wc cl W) (tb W) b)
    (hs : ∀ c d a dx, c < n → RS K w WF (ts a (.ref (cl c)) dx) (h' c d a dx))
    (hi : ∀ c d a dx e s, d.isSome = dx.isSome → i < e.length → unsF i (h' c d a dx (e.set i (some (excA a d dx))) s) = h c d e s) :
    RS K w (Wc cl Wout) (fun D σ H => tb (wAs K c0 i ts Wout D) D σ H) (sTryAs i n sub b h) := fun ρ H st σ env D rel re p => by
  refine hb _ ρ H st σ env D rel re ?_
  have p : PostS K w ρ H (tryK (hdK i n sub h) (b env st)) D (Wc cl Wout) := p
  cases e : b env st with
  | no => rw [e] at p; exact p
  | fl f s => rw [e] at p; cases f <;> exact p
  | ex c d e1 s1 =>
    rw [e] at p
    intro ρ1 H1 σ1 dx x1 r1 re1 hd
    have p : PostS K w ρ H (hdK i n sub h c d e1 s1) D (Wc cl Wout) := p
    unfold hdK at p
    split at p
    · rename_i hc
      refine ⟨sub c, hx c hc, fun hy a na => ?_, fun hn => ?_⟩
      · rw [if_pos hy] at p
        split at p
        · rename_i hl
          have hsh : d.isSome = dx.isSome := by
            cases d <;> cases dx <;> first | rfl | exact hd.elim
          rw [← hi c d a dx e1 s1 hsh hl] at p
          refine hs c d a dx hc ρ1 H1 s1 _ _ _ r1 (re1.set i (rd_exc hd)) ?_
          have p := PostS.ext p x1
          cases e2 : h' c d a dx (e1.set i (some (excA a d dx))) s1 with
          | no => rw [e2] at p; exact p
          | ex c2 d2 e3 s2 => rw [e2] at p; exact p.elim
          | fl f s2 =>
            rw [e2] at p
            cases f with
            | nx e3 => exact fun ρ2 H2 σ2 x2 r2 re2 => p ρ2 H2 _ x2 r2 (re2.off i)
            | bk e3 => exact fun ρ2 H2 σ2 x2 r2 re2 => p ρ2 H2 _ x2 r2 (re2.off i)
            | ct e3 => exact fun ρ2 H2 σ2 x2 r2 re2 => p ρ2 H2 _ x2 r2 (re2.off i)
            | rt a => exact p
        · exact p.elim
      · rw [if_neg (by rw [hn]; exact Bool.false_ne_true)] at p
        exact p ρ1 H1 σ1 dx x1 r1 re1 hd
    · exact p.elim
/-! what the suites say of the exception -/
def kiK (kw : Str) (a : Addr) (dx : Option Addr) (x : A) (s : Sto) : Res A := match x with
  | .adr b => if b = a ∧ dx = none then .ok (.str kw) s else .no
  | .exc b d n => if b = a ∧ dx = some d then (match s[n]? with
    | some (.xd _) => .ok (.str kw) s
    | _ => .no) else .no
  | _ => .no
def mKi (kw : Str) (a : Addr) (dx : Option Addr) (o : ME) : ME := fun env st => (o env st).bind (kiK kw a dx)
theorem re_ki {W : WishX} {bb : Nat → Bool} {a : Addr} {dx : Option Addr} {te : TE} {o : ME} (ho : RE K w W te o) : RE K w W (tCallK (spKinds dx bb) a (tCons te tNil)) (mKi (kStr bb) a dx o) := fun ρ H st σ env Q rel re p =>
  ho.use rel re p fun x s1 ρ1 H1 v e1 r1 v1 p1 => by
    unfold kiK at p1
    split at p1
    · cases v1
      split at p1
      · rename_i hc
        obtain ⟨rfl, rfl⟩ := hc
        exact ⟨rfl, (fun dd z => by cases z), fun H' sm => p1.giveAt (Ext.same sm) (r1.same sm) (.str _)⟩
      · exact p1.elim
    · rename_i b d n
      cases v1 with
      | exc hn =>
        split at p1
        · rename_i hc
          obtain ⟨rfl, rfl⟩ := hc
          split at p1
          · rename_i fs hs
            obtain ⟨fv, h1, h2⟩ := r1.get hn hs
            exact ⟨rfl, (fun dd z => by cases z; exact ⟨fv, h1⟩), fun H' sm => p1.giveAt (Ext.same sm) (r1.same sm) (.str _)⟩
          · exact p1.elim
        · exact p1.elim
    · exact p1.elim
def xfK (f : Str) (a : Addr) (dx : Option Addr) (x : A) (s : Sto) : Res A := match x with
  | .exc b d n => if b = a ∧ dx = some d then (match s[n]? with
    | some (.xd fs) => lift (fs.lookup f) s
    | _ => .no) else .no
  | _ => .no
def mXf (f : Str) (a : Addr) (dx : Option Addr) (o : ME) : ME := fun env st => (o env st).bind (xfK f a dx)
theorem re_xf {W : WishX} {f : Str} {a C : Addr} {dx : Option Addr} {te : TE} {o : ME} (ho : RE K w W te o) : RE K w W (tXf a (.ref C) dx C f te) (mXf f a dx o) := fun ρ H st σ env Q rel re p =>
  ho.use rel re p fun x s1 ρ1 H1 v e1 r1 v1 p1 => by
    unfold xfK at p1
    split at p1
    · rename_i b d n
      cases v1 with
      | exc hn =>
        split at p1
        · rename_i hc
          obtain ⟨rfl, rfl⟩ := hc
          split at p1
          · rename_i fs hs
            obtain ⟨fv, h1, h2⟩ := r1.get hn hs
            cases el : fs.lookup f with
            | none => rw [el] at p1; exact p1.elim
            | some y =>
              rw [el] at p1
              obtain ⟨u, eu, ru⟩ := (look_is h2).2 y el
              exact ⟨rfl, rfl, d, fv, u, rfl, h1, eu, p1.give r1 ru⟩
          · exact p1.elim
        · exact p1.elim
    · exact p1.elim
end
/-- k = _law_kinds(e); r = e.f -/
def xdL (d : Option Nat) (s : Sto) : Option (List (Str × A)) := match d with
  | none => some []
  | some n => match s[n]? with
    | some (.xd fs) => some fs
    | _ => none
def hK1 (i j : Nat) (kw : Nat → Str) (c : Nat) (d : Option Nat) : MS := fun e s => match xdL d s with
  | some _ => .fl (.nx ((e.set j (some (.str (kw c)))).set i none)) s
  | none => .no
def hK2 (i j k : Nat) (f : Str) (kw : Nat → Str) (c : Nat) (d : Option Nat) : MS := fun e s => match xdL d s with
  | some fs => match fs.lookup f with
    | some y => .fl (.nx (((e.set j (some (.str (kw c)))).set k (some y)).set i none)) s
    | none => .no
  | none => .no
theorem set_drop1 {α : Type} {l : List α} {i j : Nat} {x y z : α} (h : i ≠ j) : ((l.set i x).set j y).set i z = (l.set j y).set i z := by
  rw [List.set_comm x y h, List.set_set]
theorem set_drop2 {α : Type} {l : List α} {i j k : Nat} {x y v z : α} (h : i ≠ j) (g : i ≠ k) : (((l.set i x).set j y).set k v).set i z = ((l.set j y).set k v).set i z := by
  rw [List.set_comm x y h, set_drop1 g]
theorem hi_K1 {i j : Nat} {kw : Nat → Str} (hij : i ≠ j) (c : Nat) (d : Option Nat) (a : Addr) (dx : Option Addr) (e : AEnv) (s : Sto) (hsh : d.isSome = dx.isSome) (hl : i < e.length) :
    unsF i (sAsg (mKi (kw c) a dx (mVar i)) (mgName j) (e.set i (some (excA a d dx))) s) = hK1 i j kw c d e s := by
  have hg : ∀ x : A, (e.set i (some x))[i]? = some (some x) := fun x => List.getElem?_set_self hl
  cases d with
  | none =>
    cases dx with
    | some x => cases hsh
    | none =>
      simp only [sAsg, mKi, mVar, hg, Res.bind, kiK, excA, hK1, xdL, and_self, if_true, Res.thenS, mgName, unsF, set_drop1 hij]
  | some n =>
    cases dx with
    | none => cases hsh
    | some x =>
      simp only [sAsg, mKi, mVar, hg, Res.bind, kiK, excA, hK1, xdL, and_self, if_true]
      cases s[n]? with
      | none => rfl
      | some o => cases o <;> first | rfl | simp only [Res.thenS, mgName, unsF, set_drop1 hij]
theorem hi_K2 {i j k : Nat} {f : Str} {kw : Nat → Str} (hij : i ≠ j) (hik : i ≠ k) (c : Nat) (d : Option Nat) (a : Addr) (dx : Option Addr) (e : AEnv) (s : Sto) (hsh : d.isSome = dx.isSome) (hl : i < e.length) :
    unsF i (sSeq (sAsg (mKi (kw c) a dx (mVar i)) (mgName j)) (sAsg (mXf f a dx (mVar i)) (mgName k)) (e.set i (some (excA a d dx))) s) = hK2 i j k f kw c d e s := by
  have hg : ∀ x : A, (e.set i (some x))[i]? = some (some x) := fun x => List.getElem?_set_self hl
  have hg2 : ∀ x y : A, ((e.set i (some x)).set j (some y))[i]? = some (some x) := fun x y => by
    rw [List.getElem?_set_ne (fun z => hij z.symm)]
    exact hg x
  cases d with
  | none =>
    cases dx with
    | some x => cases hsh
    | none => simp only [sSeq, sAsg, mKi, mXf, mVar, hg, hg2, Res.bind, kiK, xfK, excA, hK2, xdL, and_self, if_true, Res.thenS, mgName, RF.next, unsF, List.lookup]
  | some n =>
    cases dx with
    | none => cases hsh
    | some x =>
      simp only [sSeq, sAsg, mKi, mXf, mVar, hg, Res.bind, kiK, excA, hK2, xdL, and_self, if_true]
      cases hs : s[n]? with
      | none => rfl
      | some o =>
        cases o with
        | xd fs =>
          simp only [Res.thenS, mgName, RF.next, sAsg, mXf, mVar, Res.bind, hg2, xfK, hs, and_self, if_true]
          cases fs.lookup f with
          | none => rfl
          | some y => simp only [lift, Res.thenS, unsF, set_drop2 hij hik]
        | _ => rfl
section
variable {X : Cx}
theorem pss_ex {α : Type} {body : List Stmt} {c : α → Prop} {ts : α → TS} (h : ∀ a, c a → PSs X body (ts a)) : PSs X body (fun D σ H => ∃ a, c a ∧ ts a D σ H) := ⟨fun pins s σ H D I ⟨a, hc, hh⟩ => (h a hc).run pins s σ H D I hh⟩
/-- the suite, by the class's number -/
theorem suite_cls {cl : Nat → Addr} {n : Nat} {cls : Value} {d : Option Addr} {oe : Obj} {a : Addr} {pn : List (Addr × Obj)} {body : List Stmt} {ts : Nat → TS} (zn : L2N.Zn cls d oe) (zf : ∃ vs, oe.data = .fields vs)
    (h : ∀ c, c < n → cls = .ref (cl c) → L2H.Hot1 (X.suite a ((a, oe) :: pn)).A (a, oe) → Zd (cl c) d oe → PSs (X.suite a ((a, oe) :: pn)) body (ts c)) : PSs (X.suite a ((a, oe) :: pn)) body (fun D σ H => ∃ c, (c < n ∧ cls = .ref (cl c)) ∧ ts c D σ H) := by
  refine pss_ex fun c ⟨hc, e⟩ => ?_
  subst e
  obtain ⟨vs, hv⟩ := zf
  exact h c hc rfl ⟨rfl, vs, hv, zn.2.2 vs hv⟩ ⟨zn.zc, vs, hv⟩
end
theorem rs_cls {w : World} {W : WishX} {n : Nat} {cl : Nat → Addr} {ts : Nat → TS} {c : Nat} {f : MS} (hc : c < n) (h : RS K w W (ts c) f) : RS K w W (fun D σ H => ∃ c', (c' < n ∧ Value.ref (cl c) = .ref (cl c')) ∧ ts c' D σ H) f := fun ρ H st σ env D rel re p => ⟨c, ⟨hc, rfl⟩, h ρ H st σ env D rel re p⟩
section
variable {n i j k c : Nat} {d : Option Nat} {sub : Nat → Bool} {b : MS} {h : Nat → Option Nat → MS} {env e : AEnv} {st s : Sto} {kw : Nat → Str} {f : Str} {fs : List (Str × A)} {m : List A → Sto → Res A} {g : MA} {o : ME}
theorem ev_callE : mCallE n m g env st = (g env st).bind fun as s => if as.length = n then m as s else .no := rfl
theorem ev_tryAs : sTryAs i n sub b h env st = tryK (hdK i n sub h) (b env st) := rfl
theorem ev_raise0 : sRaise0 c env st = .ex c none env st := rfl
theorem ev_raise1 : sRaise1 c f o env st = (o env st).thenS env fun a s => .ex c (some s.length) env (s ++ [.xd [(f, a)]]) := rfl
theorem ev_raiseN : sRaiseN c f env st = .ex c (some st.length) env (st ++ [.xd [(f, .non)]]) := rfl
end
theorem hd_yes {i n : Nat} {sub : Nat → Bool} {h : Nat → Option Nat → MS} {c : Nat} {d : Option Nat} {e : AEnv} {s : Sto} (h1 : c < n) (h2 : sub c = true) (h3 : i < e.length) : hdK i n sub h c d e s = h c d e s := by
  unfold hdK
  rw [if_pos h1, if_pos h2, if_pos h3]
theorem hd_no {i n : Nat} {sub : Nat → Bool} {h : Nat → Option Nat → MS} {c : Nat} {d : Option Nat} {e : AEnv} {s : Sto} (h1 : c < n) (h2 : sub c = false) : hdK i n sub h c d e s = .ex c d e s := by
  unfold hdK
  rw [if_pos h1, if_neg (by rw [h2]; exact Bool.false_ne_true)]
theorem hK2_is {i j k : Nat} {f : Str} {kw : Nat → Str} {c n : Nat} {e : AEnv} {s : Sto} {fs : List (Str × A)} {y : A} (h1 : s[n]? = some (.xd fs)) (h2 : fs.lookup f = some y) : hK2 i j k f kw c (some n) e s = .fl (.nx (((e.set j (some (.str (kw c)))).set k (some y)).set i none)) s := by
  unfold hK2 xdL
  simp only [h1, h2]
theorem hK1_is {i j : Nat} {kw : Nat → Str} {c n : Nat} {e : AEnv} {s : Sto} {fs : List (Str × A)} (h1 : s[n]? = some (.xd fs)) : hK1 i j kw c (some n) e s = .fl (.nx ((e.set j (some (.str (kw c)))).set i none)) s := by
  unfold hK1 xdL
  simp only [h1]
theorem hK1_no {i j : Nat} {kw : Nat → Str} {c : Nat} {e : AEnv} {s : Sto} : hK1 i j kw c none e s = .fl (.nx ((e.set j (some (.str (kw c)))).set i none)) s := rfl

/-! ### mirrors: refusals by their classes -/
structure XcI (P : Program) (w : World) (K : PySem.W.Frag) (mg : Str → Option Value) (base : Heap) (x f : Str) (C : Addr) (dvs : List V) : Prop where
  gl : mg x = some (.ref C)
  T : OexC K C
  fn : ∃ (fI : Addr) (fd : FuncData), PySem.W.findIn K (.ref C) "__init__" = some (some (.ref fI)) ∧ PySem.W.typeIn K (.ref fI) = some (.type "function") ∧ FnOk P w K mg base CX0 1 fI fd ["self", f] (spInit K C f) ∧
    Binds K fd ["self", f] [] ∧ (dvs ≠ [] → ∃ ds, Vals dvs ds ∧ Binds K fd ["self", f] ds)
structure XcN (K : PySem.W.Frag) (mg : Str → Option Value) (x : Str) (C : Addr) : Prop where
  gl : mg x = some (.ref C)
  kp : PySem.W.keepIn K (.ref C) = true
  exc : PySem.W.excIn K C [.type "ValueError", .type "Exception", .type "BaseException", .type "object"] "ValueError.__new__" = true
  sub : PySem.W.subIn K (.ref C) (.type "BaseException") = some true
  typ : PySem.W.typeIn K (.ref C) = some (.type "type")
def tRz (K : PySem.W.Frag) (C : Addr) (f : Str) (W : WX) (ta : TE) : TS := fun _ σ H => tMkO C (spInit K C f) [] (tCons ta tNil) σ H fun cls d H' => W cls d σ H'
def tRz0 (K : PySem.W.Frag) (C : Addr) (f : Str) (W : WX) : TS := fun _ σ H => tMkO0 C (spInit K C f) [.non] σ H fun cls d H' => W cls d σ H'
def tRzN (C : Addr) (W : WX) : TS := fun _ σ H => W (.ref C) none σ H
def tTryAs (K : PySem.W.Frag) (c : Value) (i : Nat) (ts : Addr → Value → Option Addr → TS) (Wout : WX) (tb : WX → TS) : TS := fun D σ H => tb (wAs K c i ts Wout D) D σ H
def tCls (cl : Nat → Addr) (n : Nat) (ts : Nat → TS) (cls : Value) : TS := fun D σ H => ∃ c, (c < n ∧ cls = .ref (cl c)) ∧ ts c D σ H
section
variable {X : Cx} {w : World} {cl : Nat → Addr} {W : WX} {x f : Str} {C : Addr} {dvs : List V} {e : Expr} {ta : TE} {p pos pos' : Pos}
theorem ps_rz {j : Nat} (L : XcI X.prog X.w X.K X.mg X.base x f C dvs) (hr : Room j X.A) (hj : 2 ≤ j) (hc : X.calm = true) (tk : L2N.Takes X W) (hg : Gl X x) (ha : PE X e ta) (hdb : (x == ("__debug__" : Str)) = false := by decide) (he : starEach [e] X.env = (false, eval e X.env) :: starEach [] X.env := by rfl) :
    PS X (.Raise (some (.Call (.Name x p) [e] [] pos)) none pos') (tRz X.K C f W ta) := by
  obtain ⟨fI, fd, h1, h2, h3, h4, _⟩ := L.fn
  exact L2N.ps_raise hc tk (pmkN_oex L.T h1 h2 h3 (hr.mono hj) h4 .nil pass0 hg L.gl (pa_cons ha pa_nil he) hdb he rfl)
theorem ps_rz0 {j : Nat} (L : XcI X.prog X.w X.K X.mg X.base x f C [.non]) (hr : Room j X.A) (hj : 2 ≤ j) (hc : X.calm = true) (tk : L2N.Takes X W) (hg : Gl X x) (hdb : (x == ("__debug__" : Str)) = false := by decide) :
    PS X (.Raise (some (.Call (.Name x p) [] [] pos)) none pos') (tRz0 X.K C f W) := by
  obtain ⟨fI, fd, h1, h2, h3, _, h4⟩ := L.fn
  obtain ⟨ds, h5, h6⟩ := h4 (by intro z; cases z)
  exact L2N.ps_raise hc tk (pmkN_oex0 L.T h1 h2 h3 (hr.mono hj) h6 h5 pass0 hg L.gl hdb)
theorem ps_rzN {m : Str} {i : Nat} {p2 : Pos} (L : XcN X.K X.mg x C) (hc : X.calm = true) (tk : L2N.Takes X W) (hg : Gl X x) (hdb : (x == ("__debug__" : Str)) = false := by decide) :
    PS X (.Raise (some (.Call (.Name x p) [.Constant (.str m) i p2] [] pos)) none pos') (tRzN C W) := L2N.ps_raise hc tk (L2N.pmk_own PySem.F.excBase_ValueError L.exc L.gl L.kp (raises_own L.sub L.typ) hg hdb)
theorem rs_rz {c : Nat} {m : ME} (he : RE K w (Wc cl W) ta m) : RS K w (Wc cl W) (tRz K (cl c) f W ta) (sRaise1 c f m) := rs_raise1 he
theorem rs_rz0 {c : Nat} : RS K w (Wc cl W) (tRz0 K (cl c) f W) (sRaiseN c f) := rs_raiseN
theorem rs_rzN {c : Nat} : RS K w (Wc cl W) (tRzN (cl c) W) (sRaise0 c) := rs_raise0
theorem ps_tryAs {n : Str} {c : Value} {i : Nat} {body suite : List Stmt} {b₀ : Stmt} {np : Pos} {tb : WX → TS} {ts : Addr → Value → Option Addr → TS} {Wout : WX} (hs : X.stack = X.env :: X.outer) (hf : X.env.frame = some X.env.locals) (hN : X.N.Nodup) (hi : X.N[i]? = some n) (hln : X.env.kindOf n = some .local) (hc : Names X x c) (tk : L2N.Takes X Wout)
    (hb : ∀ (W : WX) (pn : List (Addr × Obj)) (xe : Value → Shared → Prop), L2N.Takes (X.tr pn xe) W → PassesOwn (model X.prog X.w) X.A X.env xe → PSs (X.tr pn xe) body (tb W))
    (hsu : ∀ (a : Addr) (oe : Obj) (cls : Value) (d : Option Addr) (pn : List (Addr × Obj)), L2N.Zn cls d oe → (∃ vs, oe.data = .fields vs) → PSs (X.suite a ((a, oe) :: pn)) (b₀ :: suite) (ts a cls d)) :
    PS X (.Try body [.ExceptHandler (some (.Name x np)) (some n) (b₀ :: suite) pos'] [] [] pos) (tTryAs X.K c i ts Wout tb) := L2N.ps_try_as hs hf hN hi hln hc tk hb hsu
theorem suiteC {n : Nat} {cls : Value} {d : Option Addr} {oe : Obj} {a : Addr} {pn : List (Addr × Obj)} {body : List Stmt} {ts : Nat → TS} (zn : L2N.Zn cls d oe) (zf : ∃ vs, oe.data = .fields vs)
    (h : ∀ c, c < n → L2H.Hot1 (X.suite a ((a, oe) :: pn)).A (a, oe) → Zd (cl c) d oe → PSs (X.suite a ((a, oe) :: pn)) body (ts c)) : PSs (X.suite a ((a, oe) :: pn)) body (tCls cl n ts cls) := suite_cls zn zf fun c hc _ => h c hc
theorem rs_C {Wx : WishX} {n c : Nat} {ts : Nat → TS} {m : MS} (hc : c < n) (h : RS K w Wx (ts c) m) : RS K w Wx (tCls cl n ts (.ref (cl c))) m := rs_cls hc h
theorem rs_tryA {Wout : WX} {c0 : Value} {i n : Nat} {sub : Nat → Bool} {tb : WX → TS} {ts : Addr → Value → Option Addr → TS} {b : MS} {h : Nat → Option Nat → MS} {h' : Nat → Option Nat → Addr → Option Addr → MS}
    (hx : ∀ c, c < n → PySem.W.exmOne K (.ref (cl c)) c0 = some (sub c)) (hb : ∀ W : WX, RS K w (Wc cl W) (tb W) b)
    (hs : ∀ c d a dx, c < n → RS K w WF (ts a (.ref (cl c)) dx) (h' c d a dx))
    (hi : ∀ c d a dx e s, d.isSome = dx.isSome → i < e.length → unsF i (h' c d a dx (e.set i (some (excA a d dx))) s) = h c d e s) :
    RS K w (Wc cl Wout) (tTryAs K c0 i ts Wout tb) (sTryAs i n sub b h) := rs_tryAs hx hb hs hi
end
theorem roomM {k : Nat} {A : Around} {v : Option Value} (hr : Room k A) : L2H.RoomH k (A.mark v) := ⟨hr.dp, hr.un⟩

/-! ### classes asked: their facts at the end -/
theorem kit_ref {D C : Addr} {b : Bool} (me : PySem.W.subIn K (.ref D) (.ref D) = some true) (h : PySem.W.hasDictIn K C = true) (t : PySem.W.typeIn K (.ref C) = some (.type "type")) (s : PySem.W.subIn K (.ref D) (.ref C) = some b) : PySem.W.kitOne K (.ref D) (.ref C) = some b := by
  unfold PySem.W.kitOne
  by_cases e : D = C
  · subst e
    rw [me] at s
    rw [if_pos (beq_self_eq_true _)]
    exact s
  · rw [if_neg fun z => e (Value.ref.inj (beq_iff_eq.mp z))]
    obtain ⟨cd, hc, _⟩ := PySem.W.any_some h
    have e1 : ((PySem.W.clsIn K C).isSome && PySem.W.typeIn K (.ref C) == some (.type "type")) = true := by rw [hc, t]; rfl
    show (if ((PySem.W.clsIn K C).isSome && PySem.W.typeIn K (.ref C) == some (.type "type")) = true then PySem.W.subIn K (.ref D) (.ref C) else none) = some b
    rw [if_pos e1]
    exact s
theorem kit_VE {D : Addr} (s : PySem.W.subIn K (.ref D) (.type "ValueError") = some true) : PySem.W.kitOne K (.ref D) (.type "ValueError") = some true := by
  unfold PySem.W.kitOne
  rw [if_neg (by intro z; cases (beq_iff_eq.mp z))]
  show (if PySem.W.kitMeta "ValueError" = true then PySem.W.subIn K (.ref D) (.type "ValueError") else none) = some true
  rw [if_pos (by decide +kernel)]
  exact s

/-! ### what a run comes to, where it may refuse -/
def okE {α : Type} (r : Res α) (Q : α → Sto → Prop) (X : Nat → Option Nat → Sto → Prop) : Prop := match r with
  | .ok a s => Q a s
  | .ex c d s => X c d s
  | .no => False
def okG (r : RF) (Q : Fl → Sto → Prop) (X : Nat → Option Nat → AEnv → Sto → Prop) : Prop := match r with
  | .fl f s => Q f s
  | .ex c d e s => X c d e s
  | .no => False
def xK {α : Type} (k : α → Sto → RF) (Q : Fl → Sto → Prop) (X : Nat → Option Nat → AEnv → Sto → Prop) : α → Sto → Prop := fun a s => okG (k a s) Q X
def xB {α β : Type} (k : α → Sto → Res β) (Q : β → Sto → Prop) (X : Nat → Option Nat → Sto → Prop) : α → Sto → Prop := fun a s => okE (k a s) Q X
def xN (g : MS) (Q : Fl → Sto → Prop) (X : Nat → Option Nat → AEnv → Sto → Prop) : Fl → Sto → Prop
  | .nx e, s => okG (g e s) Q X
  | f, s => Q f s
def xS (X : Nat → Option Nat → AEnv → Sto → Prop) (e : AEnv) : Nat → Option Nat → Sto → Prop := fun c d s => X c d e s
def xF (X : Nat → Option Nat → Sto → Prop) : Nat → Option Nat → AEnv → Sto → Prop := fun c d _ s => X c d s
def xT (k : Nat → Option Nat → AEnv → Sto → RF) (Q : Fl → Sto → Prop) : Nat → Option Nat → AEnv → Sto → Prop := fun c d e s => okF (k c d e s) Q
section
variable {α β : Type} {r : Res α} {f : RF} {s : Sto} {a : α} {c : A} {e : AEnv} {n : Nat} {d : Option Nat}
theorem wx_ok {Q : α → Sto → Prop} {X : Nat → Option Nat → Sto → Prop} : okE (.ok a s) Q X = Q a s := rfl
theorem wx_ex {Q : α → Sto → Prop} {X : Nat → Option Nat → Sto → Prop} : okE (.ex n d s) Q X = X n d s := rfl
theorem wx_fl {x : Fl} {Q : Fl → Sto → Prop} {X : Nat → Option Nat → AEnv → Sto → Prop} : okG (.fl x s) Q X = Q x s := rfl
theorem wx_fx {Q : Fl → Sto → Prop} {X : Nat → Option Nat → AEnv → Sto → Prop} : okG (.ex n d e s) Q X = X n d e s := rfl
theorem wx_fin {Q : A → Sto → Prop} {X : Nat → Option Nat → Sto → Prop} : okE (fin f) Q X = okG f (fK Q) (xF X) := by
  rcases f with ⟨_ | _ | _ | _, _⟩ | _ | _ <;> rfl
theorem wx_next {g : MS} {Q : Fl → Sto → Prop} {X : Nat → Option Nat → AEnv → Sto → Prop} : okG (f.next g) Q X = okG f (xN g Q X) X := by
  rcases f with ⟨_ | _ | _ | _, _⟩ | _ | _ <;> rfl
theorem wx_then {k : α → Sto → RF} {Q : Fl → Sto → Prop} {X : Nat → Option Nat → AEnv → Sto → Prop} : okG (r.thenS e k) Q X = okE r (xK k Q X) (xS X e) := by
  cases r <;> rfl
theorem wx_bind {k : α → Sto → Res β} {Q : β → Sto → Prop} {X : Nat → Option Nat → Sto → Prop} : okE (r.bind k) Q X = okE r (xB k Q X) X := by
  cases r <;> rfl
theorem wx_nox {Q : α → Sto → Prop} {X : Nat → Option Nat → Sto → Prop} : okE (noX r) Q X = okR r Q := by
  cases r <;> rfl
theorem wx_xK {k : α → Sto → RF} {Q : Fl → Sto → Prop} {X : Nat → Option Nat → AEnv → Sto → Prop} : xK k Q X a s = okG (k a s) Q X := rfl
theorem wx_xB {k : α → Sto → Res β} {Q : β → Sto → Prop} {X : Nat → Option Nat → Sto → Prop} : xB k Q X a s = okE (k a s) Q X := rfl
theorem wx_xS {X : Nat → Option Nat → AEnv → Sto → Prop} : xS X e n d s = X n d e s := rfl
theorem wx_xF {X : Nat → Option Nat → Sto → Prop} : xF X n d e s = X n d s := rfl
theorem wx_xT {k : Nat → Option Nat → AEnv → Sto → RF} {Q : Fl → Sto → Prop} : xT k Q n d e s = okF (k n d e s) Q := rfl
theorem wx_nn {g : MS} {Q : Fl → Sto → Prop} {X : Nat → Option Nat → AEnv → Sto → Prop} : xN g Q X (.nx e) s = okG (g e s) Q X := rfl
theorem wx_nr {g : MS} {Q : Fl → Sto → Prop} {X : Nat → Option Nat → AEnv → Sto → Prop} : xN g Q X (.rt c) s = Q (.rt c) s := rfl
theorem wx_nb {g : MS} {Q : Fl → Sto → Prop} {X : Nat → Option Nat → AEnv → Sto → Prop} : xN g Q X (.bk e) s = Q (.bk e) s := rfl
theorem wx_nc {g : MS} {Q : Fl → Sto → Prop} {X : Nat → Option Nat → AEnv → Sto → Prop} : xN g Q X (.ct e) s = Q (.ct e) s := rfl
theorem wx_try {k : Nat → Option Nat → AEnv → Sto → RF} {Q : Fl → Sto → Prop} : okF (tryK k f) Q = okG f Q (xT k Q) := by
  rcases f with ⟨_ | _ | _ | _, _⟩ | _ | _ <;> rfl
theorem okE_use {P Q : α → Sto → Prop} {X : Nat → Option Nat → Sto → Prop} (h : okR r P) (k : ∀ a s, P a s → Q a s) : okE r Q X := by
  cases r with
  | ok a s => exact k a s h
  | _ => exact h.elim
theorem okE_use2 {P Q : α → Sto → Prop} {X Y : Nat → Option Nat → Sto → Prop} (h : okE r P Y) (k : ∀ a s, P a s → Q a s) (k2 : ∀ c d s, Y c d s → X c d s) : okE r Q X := by
  cases r with
  | ok a s => exact k a s h
  | ex c d s => exact k2 c d s h
  | no => exact h.elim
end

/-! ### mirrors: a text from behind -/
def revT (z : Str) : Str := ⟨((Builtin.Str.strSliceIndices none none (-1) z.length).filterMap (z.cps[·]?)).toArray⟩
def tRevS (te : TE) : TE := fun σ H Q => te σ H fun x H1 => ∃ z, x = .str z ∧ (revT z).length ≤ sizeLine ∧ Q (.str (revT z)) H1
section
variable {X : Cx} {w : World} {W : WishX}
theorem pe_revS {e : Expr} {te : TE} {k : Nat} {p1 p2 p3 pos : Pos} (he : PE X e te) : PE X (.Subscript e (.Slice none none (some (.UnaryOp .USub (.Constant (.int 1) k p1) p2)) p3) pos) (tRevS te) := by
  refine ⟨fun pins s σ H Q I h => ?_⟩
  refine Subscript_ (thn (he.run pins s σ H _ I h) fun v s1 ⟨x, H1, I1, r1, z, ex, hz, q⟩ => ?_)
  subst ex
  obtain ⟨t, rfl⟩ := r1
  have hst : PO X (some (.UnaryOp .USub (.Constant (.int 1) k p1) p2)) (tPart (tUn (rU fun i => .int (-i)) (tC (.int 1)))) := po_some (pe_un un_neg pe_int)
  refine wpAny_Slice (thn (po_none.run pins s1 σ H1 (fun o H2 => o = none ∧ H2 = H1) I1 ⟨rfl, rfl⟩) fun vl s2 ⟨l, H2, I2, pl, el, e2⟩ => ?_)
  subst el e2
  refine thn (po_none.run pins s2 σ H2 (fun o H3 => o = none ∧ H3 = H2) I2 ⟨rfl, rfl⟩) fun vu s3 ⟨u, H3, I3, pu, eu, e3⟩ => ?_
  subst eu e3
  refine thn (hst.run pins s3 σ H3 (fun o H4 => o = some (-1) ∧ H4 = H3) I3 ⟨1, rfl, -1, rfl, rfl, rfl⟩) fun vs s4 ⟨o, H4, I4, ps, eo, e4⟩ => ?_
  subst eo e4
  obtain ⟨a1, rfl, m1⟩ := IsPart.raw pl
  obtain ⟨a2, rfl, m2⟩ := IsPart.raw pu
  obtain ⟨a3, rfl, m3⟩ := IsPart.raw ps
  obtain rfl : a1 = none := by cases a1 <;> first | rfl | cases m1
  obtain rfl : a2 = none := by cases a2 <;> first | rfl | cases m2
  obtain ⟨tk, rfl⟩ : ∃ tk, a3 = some (-1, tk) := by
    cases a3 with
    | none => cases m3
    | some p =>
      obtain ⟨i, tk⟩ := p
      cases m3
      exact ⟨tk, rfl⟩
  have I5 : Inv X pins σ H4 { s4 with heap := s4.heap.push { cls := .type "slice", data := .fields #[partValue none, partValue none, partValue (some (-1, tk))] } } := I4.kept (t' := s4.toks) fun b ob q => Heap.get?_push_of_some _ q
  show wpAny (model X.prog X.w) X.A (subscriptTail e (.Slice none none (some (.UnaryOp .USub (.Constant (.int 1) k p1) p2)) p3) (.str z t) (.ref s4.heap.objs.size)) (EP X pins σ Q) X.xe _
  refine tail_any (ops := [.str z t, .ref s4.heap.objs.size]) (typeIs_str _ _ _) F.slot_str_getitem.lookup ?_ (by with_unfolding_all rfl)
  refine wpAny_getItem_str_slice (l := none) (u := none) (st := some (-1, tk)) ⟨_, Heap.get?_push_size _ rfl, rfl, rfl⟩ rfl ?_
  show Made.post (Made.str (revT z)) (EP X pins σ Q) _
  exact ⟨hz, .str _, H4, I5.tok _, ⟨_, rfl⟩, q⟩
def revK (a : A) (s : Sto) : Res A := match a with
  | .str z => if (revT z).length ≤ sizeLine then .ok (.str (revT z)) s else .no
  | _ => .no
def mRevS (f : ME) : ME := fun env st => (f env st).bind revK
theorem re_revS {t : TE} {f : ME} (hf : RE K w W t f) : RE K w W (tRevS t) (mRevS f) := fun ρ H st σ env Q rel re p =>
  hf.use rel re p fun a s1 ρ1 H1 x e1 r1 v1 p1 => by
    unfold revK at p1
    split at p1
    · cases v1
      split at p1
      · rename_i h
        exact ⟨_, rfl, h, p1.give r1 (.str _)⟩
      · exact p1.elim
    · exact p1.elim
theorem ev_revS {f : ME} {env : AEnv} {st : Sto} : mRevS f env st = (f env st).bind revK := rfl
theorem ev_revK {z : Str} {s : Sto} : revK (.str z) s = if (revT z).length ≤ 16777216 then .ok (.str (revT z)) s else .no := rfl
theorem revT_len (z : Str) : (revT z).length ≤ z.length := by
  unfold revT
  show (List.toArray _).size ≤ _
  rw [List.size_toArray]
  refine Nat.le_trans (List.length_filterMap_le _ _) ?_
  show (sliceRange ((z.length : Int) - 1) (-1) (-1)).length ≤ z.length
  rw [PySem.W.krv_sliceRange]
  simp
end

/-! ### mirrors: zip of a tuple and a list -/
def ItzM (K : PySem.W.Frag) (a b : Addr) : It :=
  ⟨fun i H => ∃ (xs ys : List V) (x y : V), SqT K H a xs ∧ SqL K H b ys ∧ xs[i]? = some x ∧ ys[i]? = some y,
    fun i H v H' => ∃ T x y, v = .ref T ∧ H T = none ∧ H' = upd H T (.tup [x, y]) ∧ (∀ xs, SqT K H a xs → xs[i]? = some x) ∧ ∀ ys, SqL K H b ys → ys[i]? = some y,
    fun i H => ∃ xs ys : List V, SqT K H a xs ∧ SqL K H b ys ∧ i = min xs.length ys.length⟩
theorem sep_of {z TI TO i1 i2 a b : Addr} (D : ZipApart z TI TO i1 i2 a b) : ZipSep2 z TI TO i1 i2 [i1, a] [i2, b] :=
  ⟨D.TIz, D.TOz, D.TITO, D.TIi1, by simp, by simp [D.i1z.symm, D.l1z.symm], by simp [D.TOi1, D.l1TO.symm], D.TIi2, by simp, by simp [D.i2z.symm, D.l2z.symm], by simp [D.TOi2, D.l2TO.symm], by simp [D.i12, D.l2i1.symm], by simp [D.i12.symm, D.l1i2.symm]⟩
theorem turn_zipM {P : Program} {w : World} {K : PySem.W.Frag} {elts : List Expr} {kk : Nat} {tpos : Pos} {a b z TI TO i1 i2 : Addr} (D : ZipApart z TI TO i1 i2 a b) :
    Turn P w K (.Tuple elts kk tpos) (ItzM K a b) [z, TI, TO, i1, i2] z (fun i h => IsZip h z TI TO .none ∧ IsPair h TI (.ref i1) (.ref i2) ∧ (∃ x y, IsPair h TO x y) ∧ h.IsTupleIter i1 a i ∧ h.IsListIter i2 b i) where
  mem := by simp
  obj := fun i h st c hc => by
    obtain ⟨hz, hTI, ⟨x, y, hTO⟩, ⟨o1, e1, _, d1⟩, ⟨o2, e2, _, d2⟩⟩ := st
    have e' : c = z ∨ c = TI ∨ c = TO ∨ c = i1 ∨ c = i2 := by simpa using hc
    rcases e' with q | q | q | q | q
    · rw [q]; exact ⟨_, hz, fun v q => nomatch q⟩
    · rw [q]; exact ⟨_, hTI, fun v q => nomatch q⟩
    · rw [q]; exact ⟨_, hTO, fun v q => nomatch q⟩
    · rw [q]; exact ⟨o1, e1, fun v q => by rw [d1] at q; cases q⟩
    · rw [q]; exact ⟨o2, e2, fun v q => by rw [d2] at q; cases q⟩
  keep := fun i h h' st k => by
    obtain ⟨hz, hTI, ⟨x, y, hTO⟩, h1, h2⟩ := st
    exact ⟨k z (by simp) _ hz, k TI (by simp) _ hTI, ⟨x, y, k TO (by simp) _ hTO⟩, h1.at fun o q => k i1 (by simp) o q, h2.at fun o q => k i2 (by simp) o q⟩
  item := by
    intro X hP hw hK hc i pins s σ H E I hf st hg
    subst hP hw hK
    obtain ⟨hz, hTI, ⟨x0, y0, hTO⟩, h1, h2⟩ := st
    obtain ⟨xs, ys, x, y, hqx, hqy, hx, hy⟩ := hg
    obtain ⟨its, rv, p, _⟩ := I.tuple hqx
    obtain ⟨its2, rv2, p2, _⟩ := I.list hqy
    obtain ⟨u, hu, ru⟩ := rv.get hx
    obtain ⟨u2, hu2, ru2⟩ := rv2.get hy
    have hzl : z < s.heap.objs.size := Heap.lt_size hz
    have hh : X.A.in1.handled = none := I.ok.hd hc
    have l1 : i < its.toArray.size := by
      rw [List.size_toArray]
      exact (List.getElem?_eq_some_iff.mp hu).1
    have l2 : i < its2.toArray.size := by
      rw [List.size_toArray]
      exact (List.getElem?_eq_some_iff.mp hu2).1
    refine wpAny_pyNext_zipD2_item (sep_of D) (Draws.tuple hh i1 a D.l1i1 its.toArray) (Draws.list hh i2 b D.l2i2 its2.toArray) hz hTI hTO ⟨h1, p⟩ ⟨h2, p2.isList⟩ l1 l2 fun x1 x2 h' tk y1 y2 z' TO' h1' h2' hT hsz hk => ?_
    obtain rfl : u = x1 := by
      have y1 : its.toArray[i]? = some x1 := y1
      rw [List.getElem?_toArray, hu] at y1
      exact Option.some.inj y1
    obtain rfl : u2 = x2 := by
      have y2 : its2.toArray[i]? = some x2 := y2
      rw [List.getElem?_toArray, hu2] at y2
      exact Option.some.inj y2
    refine ⟨_, rfl, wpAny_letOwnedTupleGo_zip (s := { s with heap := h', toks := tk }) z' fun h'' z'' sb => ?_⟩
    have hT2 : h''.get? s.heap.objs.size = some { cls := .type "tuple", data := .seq #[u, u2] } := (sb.2 _ (Nat.ne_of_gt hzl)).trans hT
    have new : ObjOk X.prog X.w (upd H s.heap.objs.size (.tup [x, y])) h'' s.heap.objs.size (.tup [x, y]) :=
      ⟨by show 2 ≤ sizeLine; decide, [u, u2], .cons ru (.cons ru2 .nil), ⟨_, hT2, rfl, _, rfl⟩⟩
    have I1 : Inv X pins σ (upd H s.heap.objs.size (.tup [x, y])) { s with heap := h'', toks := tk } :=
      I.turnedNew (t' := tk) (ch := [z, TI, TO, i1, i2]) (fun c o hb q => (sb.2 c (fun q' => hb (by simp [q']))).trans (hk c o (fun q' => hb (by simp [q'])) (fun q' => hb (by simp [q'])) (fun q' => hb (by simp [q'])) (fun q' => hb (by simp [q'])) q)) hf (Nat.le_refl _) new
    refine ⟨.ref s.heap.objs.size, _, I1, rfl, ⟨_, x, y, rfl, I.hok.fresh (Nat.le_refl _), rfl, fun l hl => by rw [I.tuple_inj hl hqx]; exact hx, fun l hl => by rw [I.list_inj hl hqy]; exact hy⟩, ⟨z'', ?_, ⟨u, u2, ?_⟩, ?_, ?_⟩, fun c hcm => ?_⟩
    · exact (sb.2 _ D.TIz).trans (hk _ _ D.TIz D.TITO D.TIi1 D.TIi2 hTI)
    · exact (sb.2 _ D.TOz).trans TO'
    · exact h1'.1.at fun o q => (sb.2 _ D.i1z).trans q
    · exact h2'.1.at fun o q => (sb.2 _ D.i2z).trans q
    · have hlt : c < s.heap.objs.size := by
        have e' : c = z ∨ c = TI ∨ c = TO ∨ c = i1 ∨ c = i2 := by simpa using hcm
        rcases e' with q | q | q | q | q
        · rw [q]; exact hzl
        · rw [q]; exact Heap.lt_size hTI
        · rw [q]; exact Heap.lt_size hTO
        · rw [q]; obtain ⟨_, e1, _⟩ := h1; exact Heap.lt_size e1
        · rw [q]; obtain ⟨_, e2, _⟩ := h2; exact Heap.lt_size e2
      rw [upd_ne (Nat.ne_of_lt hlt)]
      exact (hf c hcm).1
  done := by
    intro X hP hw hK hc i pins s σ H E I hf st hg
    subst hP hw hK
    obtain ⟨hz, hTI, ⟨x0, y0, hTO⟩, h1, h2⟩ := st
    obtain ⟨xs, ys, hqx, hqy, hend⟩ := hg
    obtain ⟨its, rv, p, _⟩ := I.tuple hqx
    obtain ⟨its2, rv2, p2, _⟩ := I.list hqy
    have l1 := rv.length
    have l2 := rv2.length
    have hh : X.A.in1.handled = none := I.ok.hd hc
    refine wpAny_pyNext_zipD2_end (i := i) (sep_of D) (Draws.tuple hh i1 a D.l1i1 its.toArray) (Draws.list hh i2 b D.l2i2 its2.toArray) hz hTI hTO ⟨h1, p⟩ ⟨h2, p2.isList⟩ (by rw [List.size_toArray]; omega) (by rw [List.size_toArray]; omega) (by rw [List.size_toArray, List.size_toArray]; omega) fun h' tk hk => ⟨rfl, ?_⟩
    exact I.turnedL (t' := tk) (ch := [z, TI, TO, i1, i2]) (fun c o hb q => hk c o (fun q' => hb (by simp [q'])) (fun q' => hb (by simp [q'])) (fun q' => hb (by simp [q'])) (fun q' => hb (by simp [q'])) q) hf
  self := fun A i s Q E st h => wpAny_pyIter_zip st.1 h
def iZipM (K : PySem.W.Frag) (ta : TA) : TI := fun σ H R => ta σ H fun vs H1 => ∃ a b xs ys, vs = [.ref a, .ref b] ∧ SqT K H1 a xs ∧ SqL K H1 b ys ∧ R (ItzM K a b) H1
theorem pi_zipM {X : Cx} {e e2 : Expr} {ta : TA} {p pos tpos : Pos} {elts : List Expr} {kk : Nat} (hg : Gl X "zip") (hm : X.mg "zip" = none) (ha : PA X [e, e2] ta)
    (hs : starEach [e, e2] X.env = (false, eval e X.env) :: starEach [e2] X.env := by rfl) (hpl : (backTo pos (starEach [e2] X.env)).any (·.1) = false := by rfl) :
    PI X (.Tuple elts kk tpos) (.Call (.Name "zip" p) [e, e2] [] pos) (iZipM X.K ta) := by
  refine ⟨fun pins s σ H R I h => ?_⟩
  refine Call_ (ld_blt I hg hm PyProof.Rows.boot_zip (PyProof.Rows.callWith_type1 (thn (ha.run pos pins s σ H _ I h) fun us s1 ⟨vs, H1, I1, r1, q1⟩ => ?_) hs hpl))
  obtain ⟨a, b, xs, ys, ex, hqx, hqy, q⟩ := q1
  subst ex
  cases r1 with
  | cons r rr =>
    cases rr with
    | cons r' rr =>
      cases rr
      cases r
      cases r'
      have fresh5 : ∀ c, c ∈ [s1.heap.objs.size + 4, s1.heap.objs.size + 2, s1.heap.objs.size + 3, s1.heap.objs.size, s1.heap.objs.size + 1] → FpOk X pins H1 c := fun c hcm => by
        have e' : c = s1.heap.objs.size + 4 ∨ c = s1.heap.objs.size + 2 ∨ c = s1.heap.objs.size + 3 ∨ c = s1.heap.objs.size ∨ c = s1.heap.objs.size + 1 := by simpa using hcm
        have hle : s1.heap.objs.size ≤ c := by
          rcases e' with z | z | z | z | z
          · rw [z]; exact Nat.le_add_right _ _
          · rw [z]; exact Nat.le_add_right _ _
          · rw [z]; exact Nat.le_add_right _ _
          · rw [z]; exact Nat.le_refl _
          · rw [z]; exact Nat.le_add_right _ _
        exact I1.fpOk hle (I1.hok.fresh hle)
      obtain ⟨its, rv, p1, _⟩ := I1.tuple hqx
      obtain ⟨its2, rv2, p2, _⟩ := I1.list hqy
      obtain ⟨o1, ho1, _⟩ := id p1
      refine zip_begins2 (begins_tuple a its.toArray) (begins_list b its2.toArray) p1 p2.isList fun h' hz hTI hTO h1 h2 hsz hk => wpAny_pyIter_zip hz ?_
      have I2 : Inv X pins σ H1 { s1 with heap := h' } := I1.kept (t' := s1.toks) hk
      exact ⟨s1.heap.objs.size + 4, [s1.heap.objs.size + 4, s1.heap.objs.size + 2, s1.heap.objs.size + 3, s1.heap.objs.size, s1.heap.objs.size + 1], _, _, H1, rfl, I2, turn_zipM (PySem.W.ktu_apart s1.heap.objs.size a b (Heap.lt_size ho1) p2.lt), ⟨hz, hTI, ⟨_, _, hTO⟩, ⟨_, h1, rfl, rfl⟩, ⟨_, h2, rfl, rfl⟩⟩, fresh5, q⟩

/-! ### mirrors: enumerate from a count -/
def IteF (K : PySem.W.Frag) (k : Int) (a : Addr) : It :=
  ⟨fun i H => ∃ (xs : List V) (x : V), SqL K H a xs ∧ xs[i]? = some x, fun i H v H' => ∃ T x, v = .ref T ∧ H T = none ∧ H' = upd H T (.tup [.int (k + (i : Nat)), x]) ∧ ∀ xs, SqL K H a xs → xs[i]? = some x, fun i H => ∃ xs : List V, SqL K H a xs ∧ i = xs.length⟩
theorem turn_enumF {P : Program} {w : World} {K : PySem.W.Frag} {elts : List Expr} {kk : Nat} {tpos : Pos} (k : Int) (a e it : Addr) (hai : a ≠ it) (hea : e ≠ a) :
    Turn P w K (.Tuple elts kk tpos) (IteF K k a) [e, it] e (fun i h => (∃ old, IsEnum h e it (k + ((i : Nat) : Int)) old) ∧ h.IsListIter it a i ∧ e ≠ it) where
  mem := by simp
  obj := fun i h st b hb => by
    obtain ⟨⟨old, he⟩, ⟨o, ho, hc, hd⟩, _⟩ := st
    have e' : b = e ∨ b = it := by simpa using hb
    rcases e' with z | z
    · rw [z]; exact ⟨_, he, fun v q => nomatch q⟩
    · rw [z]; exact ⟨o, ho, fun v q => by rw [hd] at q; cases q⟩
  keep := fun i h h' st k => let ⟨⟨old, he⟩, hi, hne⟩ := st; ⟨⟨old, k e (by simp) _ he⟩, hi.at fun o q => k it (by simp) o q, hne⟩
  item := by
    intro X hP hw hK hc i pins s σ H E I hf st hg
    subst hP hw hK
    obtain ⟨⟨old, he⟩, hit, hne⟩ := st
    obtain ⟨xs, x, hq, hx⟩ := hg
    obtain ⟨its, rv, p, hz⟩ := I.list hq
    obtain ⟨u, hu, ru⟩ := rv.get hx
    have hel : e < s.heap.objs.size := Heap.lt_size he
    have hil : it < s.heap.objs.size := by obtain ⟨_, q, _⟩ := hit; exact Heap.lt_size q
    have hh : X.A.in1.handled = none := I.ok.hd hc
    have l1 : i < its.toArray.size := by
      rw [List.size_toArray]
      exact (List.getElem?_eq_some_iff.mp hu).1
    refine wpAny_pyNext_enum_itemC (Draws.list hh it a hai its.toArray) he ⟨hit, p.isList⟩ l1 hne (by simp [hne, hea]) fun x1 h' tk y1 ho st' hT hsz hk => ?_
    obtain rfl : u = x1 := by
      have y1 : its.toArray[i]? = some x1 := y1
      rw [List.getElem?_toArray, hu] at y1
      exact Option.some.inj y1
    refine ⟨_, rfl, wpAny_letOwnedTupleGo_enum (s := { s with heap := h', toks := tk + 1 }) ho fun h'' he' sb => ?_⟩
    have hT2 : h''.get? s.heap.objs.size = some { cls := .type "tuple", data := .seq #[.int (k + (i : Nat)) tk, u] } := (sb.2 _ (Nat.ne_of_gt hel)).trans hT
    have new : ObjOk X.prog X.w (upd H s.heap.objs.size (.tup [.int (k + (i : Nat)), x])) h'' s.heap.objs.size (.tup [.int (k + (i : Nat)), x]) :=
      ⟨by show 2 ≤ sizeLine; decide, [.int (k + (i : Nat)) tk, u], .cons ⟨_, rfl⟩ (.cons ru .nil), ⟨_, hT2, rfl, _, rfl⟩⟩
    have I1 : Inv X pins σ (upd H s.heap.objs.size (.tup [.int (k + (i : Nat)), x])) { s with heap := h'', toks := tk + 1 } :=
      I.turnedNew (t' := tk + 1) (ch := [e, it]) (fun b ob hb q => (sb.2 b (fun z => hb (by simp [z]))).trans (hk b ob (fun z => hb (by simp [z])) (fun z => hb (by simp [z])) q)) hf (Nat.le_refl _) new
    refine ⟨.ref s.heap.objs.size, _, I1, rfl, ⟨_, x, rfl, I.hok.fresh (Nat.le_refl _), rfl, fun ys hy => by rw [I.list_inj hy hq]; exact hx⟩, ⟨⟨u, ?_⟩, st'.1.at fun o q => (sb.2 it (Ne.symm hne)).trans q, hne⟩, fun b hb => ?_⟩
    · have e1 : k + ((i + 1 : Nat) : Int) = k + (i : Int) + 1 := by omega
      rw [e1]; exact he'
    · have hb' : b < s.heap.objs.size := by
        have e' : b = e ∨ b = it := by simpa using hb
        rcases e' with z | z
        · rw [z]; exact hel
        · rw [z]; exact hil
      rw [upd_ne (Nat.ne_of_lt hb')]
      exact (hf b hb).1
  done := by
    intro X hP hw hK hc i pins s σ H E I hf st hg
    subst hP hw hK
    obtain ⟨⟨old, he⟩, hit, hne⟩ := st
    obtain ⟨xs, hq, hx⟩ := hg
    obtain ⟨its, rv, p, hz⟩ := I.list hq
    obtain ⟨f0, f1, f2, f3, f4, f5⟩ := hf it (by simp)
    have hl := rv.length
    have hh : X.A.in1.handled = none := I.ok.hd hc
    have hi : i = its.toArray.size := by rw [List.size_toArray]; omega
    subst hi
    exact wpAny_pyNext_enum_endD (Draws.list hh it a hai its.toArray) he ⟨hit, p.isList⟩ fun h' eb => ⟨rfl, I.turned (t' := s.toks) (fun b o hb q => eb b o hb q) f0 f1 f3 f4 f5⟩
  self := fun A i s Q E st h => let ⟨⟨_, he⟩, _⟩ := st; wpAny_pyIter_enum he h
theorem callWith_tyK {M : Model} {A : Around} {E : Value → Shared → Prop} {s : Shared} {env : Env} {pos : Pos} {T : String} {e : Expr} {rest : List Expr} {kws : List Keyword} {Q : Value → Shared → Prop}
    (h : wpAny M A (spliced (backTo pos (starEach (e :: rest) env))) (fun vs s₁ => wpAny M A (evalAll ((backToKw pos (keywordEach kws env)).map (·.2)))
      (fun kvs s₂ => wpAny M A (call (.type T) vs (((backToKw pos (keywordEach kws env)).filterMap (·.1)).zip kvs)) Q E s₂) E s₁) E s)
    (he : backTo pos (starEach (e :: rest) env) = (false, eval e env) :: backTo pos (starEach rest env))
    (hplain : (backTo pos (starEach (e :: rest) env)).any (·.1) = false) (hall : (backToKw pos (keywordEach kws env)).all (·.1.isSome) = true) (hkw : (backToKw pos (keywordEach kws env)).any (·.1.isNone) = false) :
    wpAny M A (callWith pos (.type T) [] (backTo pos (starEach (e :: rest) env)) (backToKw pos (keywordEach kws env))) Q E s := by
  unfold callWith
  refine wpAny_bind (wpAny_holding (wpAny_mono (Q := fun a s₁ => wpAny M A (call (.type T) ([] ++ a.pos) a.kw) Q E s₁) (E := E) ?_ (fun a s₁ h₁ => wpAny_bind (wpAny_standAt ?_)) fun _ _ x => x))
  · rw [he] at h ⊢
    exact PyProof.Rows.evalArgs_kwB hall h
  · simp only [hplain, hkw, Bool.or_false]
    refine wpAny_bind (wpAny_pure ?_)
    exact wpAny_bind (wpAny_mono h₁ (fun r s₂ hr => wpAny_bind (wpAny_holding (wpAny_point (wpAny_pure hr)))) fun _ _ x => x)
def iEnumF (K : PySem.W.Frag) (ta tk : TA) : TI := fun σ H R => ta σ H fun vs H1 => tk σ H1 fun zs H2 => ∃ (a : Addr) (xs : List V) (k : Int), vs = [.ref a] ∧ zs = [.int k] ∧ -(2 ^ 63) ≤ k ∧ k < 2 ^ 63 ∧ SqL K H2 a xs ∧ R (IteF K k a) H2
theorem pi_enumF {X : Cx} {e : Expr} {kws : List Keyword} {ta tk : TA} {p pos tpos : Pos} {elts : List Expr} {kk : Nat} (hg : Gl X "enumerate") (hm : X.mg "enumerate" = none) (ha : PA X [e] ta) (hkw : PK X kws tk)
    (he : backTo pos (starEach [e] X.env) = (false, eval e X.env) :: backTo pos (starEach [] X.env) := by rfl) (hpl : (backTo pos (starEach [e] X.env)).any (·.1) = false := by rfl)
    (hall : (backToKw pos (keywordEach kws X.env)).all (·.1.isSome) = true := by rfl) (hks : (backToKw pos (keywordEach kws X.env)).filterMap (·.1) = [Str.ofString "start"] := by rfl) (hkn : (backToKw pos (keywordEach kws X.env)).any (·.1.isNone) = false := by rfl) :
    PI X (.Tuple elts kk tpos) (.Call (.Name "enumerate" p) [e] kws pos) (iEnumF X.K ta tk) := by
  refine ⟨fun pins s σ H R I h => ?_⟩
  refine wpAny_Call_Name_kw (ld_blt I hg hm boot_enumerate (callWith_tyK (thn (ha.run pos pins s σ H _ I h) fun us s1 ⟨vs, H1, I1, r1, q1⟩ => thn (hkw.run pos pins s1 σ H1 _ I1 q1) fun ws s2 ⟨zs, H2, I2, rz, q2⟩ => ?_) he hpl hall hkn))
  obtain ⟨a, xs, k, ev, ez, k0, k1, hq, q⟩ := q2
  subst ev ez
  rw [hks]
  cases r1 with
  | cons r rr =>
    cases rr
    cases r
    cases rz with
    | cons r' rr =>
      cases rr
      obtain ⟨t, rfl⟩ := r'
      obtain ⟨its, rv, p', hz⟩ := I2.list hq
      show wpAny _ _ (call (.type "enumerate") [Value.ref a] [(Str.ofString "start", Value.int k t)]) _ _ _
      have la : a < s2.heap.objs.size := p'.lt
      refine enum_begins_start (begins_list a its.toArray) p'.isList k0 k1 fun h' hen hit hsz hk => wpAny_pyIter_enum hen ?_
      have I3 : Inv X pins σ H2 { s2 with heap := h' } := I2.kept (t' := s2.toks) hk
      refine ⟨s2.heap.objs.size + 1, [s2.heap.objs.size + 1, s2.heap.objs.size], _, _, H2, rfl, I3, turn_enumF k a (s2.heap.objs.size + 1) s2.heap.objs.size (Nat.ne_of_lt la) (Nat.ne_of_gt (Nat.lt_succ_of_lt la)), ⟨⟨.none, ?_⟩, ⟨_, hit, rfl, rfl⟩, Nat.succ_ne_self _⟩, fun b hb => ?_, q⟩
      · rw [show k + ((0 : Nat) : Int) = k by omega]
        exact hen
      · have e' : b = s2.heap.objs.size + 1 ∨ b = s2.heap.objs.size := by simpa using hb
        have hle : s2.heap.objs.size ≤ b := by
          rcases e' with z | z
          · rw [z]; exact Nat.le_add_right _ _
          · rw [z]; exact Nat.le_refl _
        exact I2.fpOk hle (I2.hok.fresh hle)

/-! ### mirrors: zip and enumerate walked -/
section
variable {w : World} {W : WishX}
theorem rv_pair {ρ : List Addr} {H : Hp} {T : Addr} {x y : V} {a b : A} (n : H T = none) (hx : Rv K H ρ x a) (hy : Rv K H ρ y b) : Same H (upd H T (.tup [x, y])) ∧ Rv K (upd H T (.tup [x, y])) ρ (.ref T) (.tup [a, b]) := by
  have sm : Same H (upd H T (.tup [x, y])) := same_upd n
  have e : Ext ρ ρ H (upd H T (.tup [x, y])) := Ext.same sm
  exact ⟨sm, .tup (.inl (.inl upd_same)) (.cons (rv_ext e hx) (.cons (rv_ext e hy) .nil))⟩
def zipA (xs ys : List A) : List A := (xs.zip ys).map fun p => A.tup [p.1, p.2]
def miZ (f : MA) : MI := fun env st => (f env st).bind fun as s => match as with
  | [.tup xs, b] => match getL s b with
    | some ys => .ok (zipA xs ys, fun s' => getL s' b = some ys) s
    | none => .no
  | _ => .no
theorem ri_zip {t : TA} {f : MA} (hf : RA K w W t f) : RI K w W (iZipM K t) (miZ f) := fun ρ H st σ env R rel re p =>
  hf.use rel re p fun as s1 ρ1 H1 vs e1 r1 v1 p1 => by
    split at p1
    · rename_i xs b
      split at p1
      · rename_i ys eb
        obtain ⟨v, u, rfl, hv, hu⟩ := rvs2 v1
        obtain ⟨q, xv, rfl, h1, h2⟩ := getT_sq hv rfl
        obtain ⟨q2, yv, rfl, h3, h4⟩ := getL_sq r1 hu eb
        refine ⟨q, q2, xv, yv, rfl, h1, h3, p1 ρ1 H1 (Ext.refl _ _) r1 _ ⟨fun i a ρ' H' st' e' r' ok ea => ?_, fun ρ' H' st' e' r' ok => ?_⟩⟩
        · obtain ⟨q', yv', ee, g3, g4⟩ := getL_sq r' (rv_ext e' hu) ok
          cases ee
          have g1 := sqT_kt e'.kt h1
          have g2 := rvs_ext e' h2
          unfold zipA at ea
          rw [List.getElem?_map] at ea
          obtain ⟨⟨x, y⟩, exy, rfl⟩ := Option.map_eq_some_iff.mp ea
          obtain ⟨ex, ey⟩ := List.getElem?_zip_eq_some.mp exy
          obtain ⟨x', ex', rx⟩ := g2.get ex
          obtain ⟨y', ey', ry⟩ := g4.get ey
          refine ⟨⟨xv, yv', x', y', g1, g3, ex', ey'⟩, fun v H2 yl => ?_⟩
          obtain ⟨T, x2, y2, rfl, hn, rfl, k1, k2⟩ := yl
          have a1 := k1 _ g1
          have a2 := k2 _ g3
          rw [ex'] at a1
          rw [ey'] at a2
          cases a1
          cases a2
          exact rv_pair hn rx ry
        · obtain ⟨q', yv', ee, g3, g4⟩ := getL_sq r' (rv_ext e' hu) ok
          cases ee
          refine ⟨xv, yv', sqT_kt e'.kt h1, g3, ?_⟩
          unfold zipA
          rw [List.length_map, List.length_zip, h2.length, g4.length]
      · exact p1.elim
    · exact p1.elim
def enumA (k : Int) : List A → List A
  | [] => []
  | x :: xs => .tup [.int k, x] :: enumA (k + 1) xs
theorem enumA_get {k : Int} : ∀ {xs : List A} {i : Nat}, (enumA k xs)[i]? = (xs[i]?).map fun x => A.tup [.int (k + (i : Int)), x] := by
  intro xs
  induction xs generalizing k with
  | nil => intro i; rfl
  | cons x xs ih =>
    intro i
    cases i with
    | zero => show some _ = some _; rw [show k + ((0 : Nat) : Int) = k by omega]
    | succ i =>
      show (enumA (k + 1) xs)[i]? = (xs[i]?).map _
      rw [ih, show k + 1 + (i : Int) = k + ((i + 1 : Nat) : Int) by omega]
theorem enumA_len {k : Int} : ∀ {xs : List A}, (enumA k xs).length = xs.length := by
  intro xs
  induction xs generalizing k with
  | nil => rfl
  | cons x xs ih =>
    show (enumA (k + 1) xs).length + 1 = xs.length + 1
    rw [ih]
def miEF (f g : MA) : MI := fun env st => (f env st).bind fun as s1 => (g env s1).bind fun bs s => match as, bs with
  | [b], [.int k] => match getL s b with
    | some ys => if -(2 ^ 63) ≤ k ∧ k < 2 ^ 63 then .ok (enumA k ys, fun s' => getL s' b = some ys) s else .no
    | none => .no
  | _, _ => .no
theorem ri_enumF {t t2 : TA} {f g : MA} (hf : RA K w W t f) (hg : RA K w W t2 g) : RI K w W (iEnumF K t t2) (miEF f g) := fun ρ H st σ env R rel re p =>
  hf.use rel re p fun as s1 ρ1 H1 vs e1 r1 v1 p1 => hg.use r1 (re.ext e1) p1 fun bs s2 ρ2 H2 us e2 r2 v2 p2 => by
    split at p2
    · rename_i b k
      split at p2
      · rename_i ys eb
        split at p2
        · rename_i hk
          obtain ⟨v, rfl, hv⟩ := rvs1 v1
          obtain ⟨u, rfl, hu⟩ := rvs1 v2
          cases hu
          have hv2 := rv_ext e2 hv
          obtain ⟨q2, yv, rfl, h3, h4⟩ := getL_sq r2 hv2 eb
          refine ⟨q2, yv, k, rfl, rfl, hk.1, hk.2, h3, p2 ρ2 H2 (Ext.refl _ _) r2 _ ⟨fun i a ρ' H' st' e' r' ok ea => ?_, fun ρ' H' st' e' r' ok => ?_⟩⟩
          · obtain ⟨q', yv', ee, g3, g4⟩ := getL_sq r' (rv_ext e' hv2) ok
            cases ee
            rw [enumA_get] at ea
            obtain ⟨y, ey, rfl⟩ := Option.map_eq_some_iff.mp ea
            obtain ⟨y', ey', ry⟩ := g4.get ey
            refine ⟨⟨yv', y', g3, ey'⟩, fun v H3 yl => ?_⟩
            obtain ⟨T, x2, rfl, hn, rfl, k2⟩ := yl
            have a2 := k2 _ g3
            rw [ey'] at a2
            cases a2
            exact rv_pair hn (.int _) ry
          · obtain ⟨q', yv', ee, g3, g4⟩ := getL_sq r' (rv_ext e' hv2) ok
            cases ee
            exact ⟨yv', g3, by rw [enumA_len, g4.length]⟩
        · exact p2.elim
      · exact p2.elim
    · exact p2.elim
def miEn (f : MA) : MI := fun env st => (f env st).bind fun as s => match as with
  | [b] => match getL s b with
    | some ys => .ok (enumA 0 ys, fun s' => getL s' b = some ys) s
    | none => .no
  | _ => .no
theorem ri_enum {t : TA} {f : MA} (hf : RA K w W t f) : RI K w W (iEnum K t) (miEn f) := fun ρ H st σ env R rel re p =>
  hf.use rel re p fun as s1 ρ1 H1 vs e1 r1 v1 p1 => by
    split at p1
    · rename_i b
      split at p1
      · rename_i ys eb
        obtain ⟨v, rfl, hv⟩ := rvs1 v1
        obtain ⟨q2, yv, rfl, h3, h4⟩ := getL_sq r1 hv eb
        refine ⟨q2, yv, rfl, h3, p1 ρ1 H1 (Ext.refl _ _) r1 _ ⟨fun i a ρ' H' st' e' r' ok ea => ?_, fun ρ' H' st' e' r' ok => ?_⟩⟩
        · obtain ⟨q', yv', ee, g3, g4⟩ := getL_sq r' (rv_ext e' hv) ok
          cases ee
          rw [enumA_get] at ea
          obtain ⟨y, ey, rfl⟩ := Option.map_eq_some_iff.mp ea
          obtain ⟨y', ey', ry⟩ := g4.get ey
          refine ⟨⟨yv', y', g3, ey'⟩, fun v H3 yl => ?_⟩
          obtain ⟨T, x2, rfl, hn, rfl, k2⟩ := yl
          have a2 := k2 _ g3
          rw [ey'] at a2
          cases a2
          rw [show (0 : Int) + (i : Int) = (i : Int) by omega]
          exact rv_pair hn (.int _) ry
        · obtain ⟨q', yv', ee, g3, g4⟩ := getL_sq r' (rv_ext e' hv) ok
          cases ee
          exact ⟨yv', g3, by rw [enumA_len, g4.length]; exact Nat.le_refl _⟩
      · exact p1.elim
    · exact p1.elim
theorem ev_zip {f : MA} {env : AEnv} {st : Sto} : miZ f env st = (f env st).bind fun as s => match as with
  | [.tup xs, b] => match getL s b with
    | some ys => .ok (zipA xs ys, fun s' => getL s' b = some ys) s
    | none => .no
  | _ => .no := rfl
theorem ev_enumF {f g : MA} {env : AEnv} {st : Sto} : miEF f g env st = (f env st).bind fun as s1 => (g env s1).bind fun bs s => match as, bs with
  | [b], [.int k] => match getL s b with
    | some ys => if -(2 ^ 63) ≤ k ∧ k < 2 ^ 63 then .ok (enumA k ys, fun s' => getL s' b = some ys) s else .no
    | none => .no
  | _, _ => .no := rfl
theorem ev_enum {f : MA} {env : AEnv} {st : Sto} : miEn f env st = (f env st).bind fun as s => match as with
  | [b] => match getL s b with
    | some ys => .ok (enumA 0 ys, fun s' => getL s' b = some ys) s
    | none => .no
  | _ => .no := rfl
end

/-! ### mirrors: a dict of the module (texts to tuples), asked by get -/
inductive KdEs (K : PySem.W.Frag) : List DictEntry → List (Str × List A) → Prop where
  | nil : KdEs K [] []
  | cons {e : DictEntry} {r : List DictEntry} {k : Str} {t : Tok} {p : Addr} {xs : List A} {vs : List V} {tab : List (Str × List A)} : e.key = .str k t → e.val = .ref p → (∀ H, SqT K H p vs) → (∀ H ρ, Rvs K H ρ vs xs) → KdEs K r tab → KdEs K (e :: r) ((k, xs) :: tab)
structure KdT (K : PySem.W.Frag) (w : World) (d : Addr) (tab : List (Str × List A)) : Prop where
  ex : ∃ es n, KDict K w d es n ∧ KdEs K es.toList tab
def tabA (tab : List (Str × List A)) (z : Str) : A := match tab.lookup z with
  | some xs => .tup xs
  | none => .non
def RelT (K : PySem.W.Frag) (a : A) (o : Option Value) : Prop := ∃ v, RelV v (o.getD .none) ∧ ∀ H ρ, Rv K H ρ v a
theorem kd_find {z : Str} : ∀ {l : List DictEntry} {tab : List (Str × List A)}, KdEs K l tab → RelT K (tabA tab z) ((l.find? fun e => Value.isStrOf z e.key).map (·.val))
  | _, _, .nil => ⟨.non, rfl, fun _ _ => .non⟩
  | _, _, .cons (k := k) (tab := tab) (r := r) (e := e) (xs := xs) (vs := vs) (p := p) hk hv hs hr h => by
    have ek : Value.isStrOf z e.key = (k == z) := by rw [hk]; rfl
    by_cases g : k = z
    · subst g
      have e1 : tabA ((k, xs) :: tab) k = .tup xs := by
        unfold tabA
        rw [List.lookup_cons_self]
      rw [e1, List.find?_cons_of_pos (by rw [ek]; exact beq_self_eq_true k)]
      exact ⟨.ref p, hv, fun H ρ => .tup (hs H) (hr H ρ)⟩
    · have e1 : tabA ((k, xs) :: tab) z = tabA tab z := by
        unfold tabA
        rw [List.lookup_cons, beq_false_of_ne (fun q => g q.symm)]
      rw [e1, List.find?_cons_of_neg (by rw [ek, beq_false_of_ne g]; exact Bool.false_ne_true)]
      exact kd_find h
def tKGet (K : PySem.W.Frag) (d : Addr) (tab : List (Str × List A)) (td ty : TE) : TE := fun σ H Q => td σ H fun x H1 => x = .ref d ∧ ty σ H1 fun y H2 => ∃ z, y = .str z ∧ ∀ v, (∀ H ρ, Rv K H ρ v (tabA tab z)) → Q v H2
section
variable {X : Cx} {d : Addr} {tab : List (Str × List A)} {o e : Expr} {apos cpos : Pos} {td ty : TE}
theorem pe_kget (D : KdT X.K X.w d tab) (ho : PE X o td) (he : PE X e ty) (m : M1 X o "get" apos e cpos) : PE X (.Call (.Attribute o "get" apos) [e] [] cpos) (tKGet X.K d tab td ty) := by
  obtain ⟨es, n, KD, hes⟩ := D.ex
  refine ⟨fun pins s σ H Q I h => ?_⟩
  refine wpAny_Call_method m.base m.few m.line PySem.F.plainAttrs_dict PySem.F.slot_dict_get PySem.F.type_dict_get (thn (ho.run pins s σ H _ I h) fun u s1 ⟨x, H1, I1, rx, ex, q1⟩ => ?_)
  subst ex
  obtain rfl : u = Value.ref d := rx
  refine ⟨kd_type KD I1, fun b q => ?_, ?_⟩
  · cases q
    exact ⟨_, I1.kIn _ _ KD.at_, rfl⟩
  rw [m.trees]
  refine Calls.callWith_builtin rfl (Calls.evalArgs_plain (Calls.spliced_cons (thn (he.run pins s1 σ H1 _ I1 q1) fun iv s2 ⟨y, H2, I2, ry, z, ez, q2⟩ => Calls.spliced_nil ?_)))
  subst ez
  obtain ⟨t, rfl⟩ := ry
  obtain ⟨v, rv, ra⟩ := kd_find (z := z) hes
  refine call_meetsIn PySem.F.slot_dict_get (kd_type KD I2) PySem.F.entry_dict_get (PySem.F.args_dict_get_2 _ _) (meets_dict_get (PySem.strKind X.prog X.w) d (PySem.strKind_is X.prog X.w z t) KD.low) ⟨_, PySem.W.mapOf_K (prog := X.prog) I2.kIn KD.at_ KD.lit, v, H2, I2.tok _, ?_, q2 v ra⟩
  have e1 : findBy Value.isStrOf es z = (es.toList.find? fun e => Value.isStrOf z e.key).map (·.val) := by
    obtain ⟨l⟩ := es
    unfold findBy
    rw [List.find?_toArray]
  show RelV v ((findBy Value.isStrOf es z).getD .none)
  rw [e1]
  exact rv
end
section
variable {w : World} {W : WishX}
def kgK (tab : List (Str × List A)) (y : A) (s : Sto) : Res A := match y with
  | .str z => .ok (tabA tab z) s
  | _ => .no
def mKGet (tab : List (Str × List A)) (g : ME) : ME := fun env st => (g env st).bind (kgK tab)
theorem re_kget {d : Addr} {tab : List (Str × List A)} {ty : TE} {g : ME} (hg : RE K w W ty g) : RE K w W (tKGet K d tab (tC (.ref d)) ty) (mKGet tab g) := fun ρ H st σ env Q rel re p =>
  ⟨rfl, hg.use rel re p fun y s1 ρ1 H1 u e1 r1 v1 p1 => by
    unfold kgK at p1
    split at p1
    · cases v1
      exact ⟨_, rfl, fun v hv => p1.give r1 (hv H1 ρ1)⟩
    · exact p1.elim⟩
theorem ev_kget {tab : List (Str × List A)} {g : ME} {env : AEnv} {st : Sto} : mKGet tab g env st = (g env st).bind (kgK tab) := rfl
theorem ev_kgK {tab : List (Str × List A)} {z : Str} {s : Sto} : kgK tab (.str z) s = .ok (tabA tab z) s := rfl
end

/-! ### mirrors: where a text first stands in a list of texts -/
section
variable {w : World} {W : WishX}
def isSA : A → Bool
  | .str _ => true
  | _ => false
def eqSA (z : Str) : A → Bool
  | .str y => y == z
  | _ => false
def idK (xs as : List A) (s : Sto) : Res A := match as with
  | [.str z] => if xs.all isSA = true then (match xs.findIdx? (eqSA z) with
    | some j => .ok (.int (j : Nat)) s
    | none => .no) else .no
  | _ => .no
def mIndex (f : ME) (g : MA) : ME := fun env st => (f env st).bind fun x s1 => match getM s1 x with
  | none => .no
  | some _ => (g env s1).bind fun as s2 => match getM s2 x with
    | some (_, xs) => idK xs as s2
    | none => .no
theorem flat_all {ρ : List Addr} {H : Hp} : ∀ {vs : List V} {xs : List A}, Rvs K H ρ vs xs → xs.all isSA = true → vs.all flatV = true
  | _, _, .nil, _ => rfl
  | _, _, .cons h1 h2, e => by
    rw [List.all_cons, Bool.and_eq_true] at e
    rw [List.all_cons, flat_all h2 e.2, Bool.and_true]
    revert e
    cases h1 <;> intro e <;> first | rfl | exact Bool.noConfusion e.1
theorem eqV_sa {ρ : List Addr} {H : Hp} {v : V} {a : A} {z : Str} (h : Rv K H ρ v a) (e : isSA a = true) : eqV v (.str z) = eqSA z a := by
  cases h <;> first | rfl | exact Bool.noConfusion e
theorem re_index {to : TE} {t : TA} {f : ME} {g : MA} (hf : RE K w W to f) (hg : RA K w W t g) : RE K w W (tBM K "list" (rIndex K) to t) (mIndex f g) := fun ρ H st σ env Q rel re p =>
  hf.use rel re p fun a s1 ρ1 H1 x e1 r1 v1 p1 => by
    split at p1
    · exact p1.elim
    · rename_i nx em
      obtain ⟨n, xs⟩ := nx
      obtain ⟨l, vs, rfl, hl, h1, h2⟩ := getM_is r1 v1 em
      refine ⟨.inl ⟨rfl, _, SqL.of h1⟩, hg.use r1 (re.ext e1) p1 fun as s2 ρ2 H2 us e2 r2 v2 p2 => ?_⟩
      have v1' := rv_ext e2 v1
      split at p2
      · rename_i m ys em2
        obtain ⟨l', vs2, e3, hl2, h3, h4⟩ := getM_is r2 v1' em2
        cases e3
        unfold idK at p2
        split at p2
        · rename_i z
          obtain ⟨u, rfl, hu⟩ := rvs1 v2
          cases hu
          split at p2
          · rename_i hall
            split at p2
            · rename_i j ej
              obtain ⟨hj, hp, hno⟩ := List.findIdx?_eq_some_iff_getElem.mp ej
              have hg : ∀ i, (hi : i < ys.length) → isSA ys[i] = true := fun i hi => List.all_eq_true.mp hall _ (List.getElem_mem hi)
              obtain ⟨zv, ez, rz⟩ := h4.get (List.getElem?_eq_getElem hj)
              refine ⟨l, vs2, .str z, j, zv, rfl, rfl, SqL.of h3, rfl, flat_all h4 hall, ez, (eqV_sa rz (hg j hj)).trans hp, fun i z' hi ei => ?_, p2.give r2 (.int _)⟩
              have hi2 : i < ys.length := Nat.lt_trans hi hj
              obtain ⟨zv2, ez2, rz2⟩ := h4.get (List.getElem?_eq_getElem hi2)
              rw [ez2] at ei
              cases ei
              rw [eqV_sa rz2 (hg i hi2)]
              exact Bool.eq_false_iff.mpr (hno i hi)
            · exact p2.elim
          · exact p2.elim
        · exact p2.elim
      · exact p2.elim
theorem ev_index {f : ME} {g : MA} {env : AEnv} {st : Sto} : mIndex f g env st = (f env st).bind fun x s1 => match getM s1 x with
  | none => .no
  | some _ => (g env s1).bind fun as s2 => match getM s2 x with
    | some (_, xs) => idK xs as s2
    | none => .no := rfl
end

def tab_PARTS : List (Str × List A) := [("read", [.str "name", .str "name", .str "number"]), ("write", [.str "name", .str "name", .str "number", .str "number"]), ("ask", [.str "name"]), ("pass", [.str "number"]), ("deliver", [.str "number"]), ("drop", [.str "number"]), ("save", [.str "name", .str "name"]), ("yield", [.str "name", .str "name"]), ("fall", [.str "name"]), ("crash", [])]
def bbT : List (List Bool) := [[false, true, false, false, false, false, false, false, false, false, false, false, true, false, false, false, false, false, false, true]]
def bbOf (c j : Nat) : Bool := (bbT.getD c []).getD j false
def kwOf (c : Nat) : Str := kStr (bbOf c)
def sub_NoText (c : Nat) : Bool := [true].getD c false
structure Exn (P : Program) (w : World) (K : PySem.W.Frag) (mg : Str → Option Value) (base : Heap) (cl : Nat → Addr) : Prop where
  i_NoText : XcI P w K mg base "NoText" "line" (cl 0) [.non]
  kd : ∀ c, c < 1 → Kd K mg (cl c) (bbOf c)
  xf : ∀ c, c < 1 → XfC K (cl c)
  no_line : ∀ c, c < 1 → PySem.W.findIn K (.ref (cl c)) "line" = some none
  h_NoText : ∃ C, mg "NoText" = some (.ref C) ∧ ∀ c, c < 1 → PySem.W.exmOne K (.ref (cl c)) (.ref C) = some (sub_NoText c)

/-! ### is_name -/
abbrev s_is_name : Stmt := topS 26
theorem sc_is_name : FnScope ["thing", "sign"] ["thing"] (defScope s_is_name) := ⟨rfl, rfl, rfl, by decide +kernel, rfl, by decide +kernel, by decide +kernel⟩

noncomputable def b_is_name : MS := (sSeq (sIf (mOrT (mNotT (mTest (mCB oIsi (mCons (mVar 0) (mCons (mC (.ty "str")) mNil))))) (mNotT (mTest (mChain oLe oLe (mC (.int 1)) (mCB oLen (mCons (mVar 0) mNil)) (mC (.int 8))))))
 (sRet (mC (.bl false)))
 sNext)
 (sRet (mCB (oAll fun bs => bs.all id) (mCons (mLc (miS (mVar 0)) (mgName 1) mYes (mOp oInX (mVar 1) (mC (.str "abcdefghijklmnopqrstuvwxyz"))) [1]) mNil))))
noncomputable def m_is_name : List A → Sto → Res A := runB 2 b_is_name
theorem ok_is_name {f : Addr} {fd : FuncData} (F : Fun K "is_name" "is_name" s_is_name f fd) (gm : mg "is_name" = some (.ref f)) (N : Fre K mg)  : C8.Cal P w K mg base 1 "is_name" (spN K w 1 m_is_name) [] := by
  refine mkCal F gm sc_is_name (F.binds (ps := ["thing"]) fun _ _ _ _ _ _ us hl => match us, hl with | [_], _ => rfl) (fun vs H Q E h => ?_) (fun cdv A outer s H vs Q E hr h => ?_)
  · obtain ⟨_, _, _, hl, _⟩ := h
    exact hl
  · refine ⟨_, (pss_cons (ps_if (PW.pt (pw_or (pt_not (pt_val (pe_callB (show CallR _ _ (rIsi K) from call_isi) (by rfl) N.isinstance (by decide +kernel) (pa_cons (pv 0) (pa_cons (pe_bltn (v := .ty "str") (u := .type "str") rfl N.str (by decide +kernel) rfl) pa_nil))))) (pw_or1 (pt_not (pt_chain (show OpR _ _ rLeD from dLe) (show OpR _ _ rLeD from dLe) pe_int (pe_callB (show CallR _ _ (rLenAny K) from call_lenAny) (by rfl) N.len (by decide +kernel) (pa_cons (pv 0) pa_nil)) (let ⟨_, h⟩ := N.c_LONGEST_NAME; pe_glob (v := (.int 8)) rfl h ⟨_, rfl⟩))))))
 (pss_one (ps_ret pe_bl))
 pss_nil)
 (pss_one (ps_ret (pe_callB (show CallR _ _ (rAll K) from (cr_all rfl)) (by rfl) N.all (by decide +kernel) (pa_cons (pe_lc (own := [("sign", 1)]) (g := gName 1) (tt := tYes) rfl sc_is_name.nd (pi_str (pv 0)) (blkOk_by (N := ["thing", "sign"]) (sc := defScope s_is_name) (by decide +kernel)) (fun _ _ _ _ _ => pg_name (i := 1) sc_is_name.nd rfl (Or.inl rfl)) (fun _ _ _ _ _ => pts_nil) (fun _ _ _ _ _ => (pe_cmpR (show OpR _ _ (rInX K) from (dInX (hu65 hr))) (pv 1) (let ⟨_, h⟩ := N.c_LETTERS; pe_glob (v := (.str "abcdefghijklmnopqrstuvwxyz")) rfl h ⟨_, rfl⟩) (by with_unfolding_all rfl)))) pa_nil))))), ?_⟩
    exact spN_body (b := b_is_name) (show RS K w WF _ b_is_name from (rs_seq (rs_if (rt_or (rt_not (rt_val (re_cb rl_isi (ra_cons (re_var (i := 0)) (ra_cons (re_c fun _ _ => .ty _) ra_nil))))) (rt_not (rt_test (re_chain r2_le r2_le re_int (re_cb rl_len (ra_cons (re_var (i := 0)) ra_nil)) re_int))))
 (rs_ret re_bl)
 rs_next)
 (rs_ret (re_cb rl_all (ra_cons (re_lc (ri_str (re_var (i := 0))) (rg_name (i := 1) (vs := [1]) (by decide)) rt_yes (re_op r2_inX (re_var (i := 1)) re_str)) ra_nil))))) h
theorem st_is_name (a0 : A) (st : Sto) : m_is_name [a0] st = fin (b_is_name [some a0, none] st) := rfl

/-! ### number_of -/
abbrev s_number_of : Stmt := topS 41
theorem sc_number_of : FnScope ["word", "sign"] ["word"] (defScope s_number_of) := ⟨rfl, rfl, rfl, by decide +kernel, rfl, by decide +kernel, by decide +kernel⟩

noncomputable def b_number_of : MS := (sSeq (sIf (mOrT (mNotT (mTest (mChain oLe oLe (mC (.int 1)) (mCB oLen (mCons (mVar 0) mNil)) (mC (.int 12))))) (mNotT (mTest (mCB (oAll fun bs => bs.all id) (mCons (mLc (miS (mVar 0)) (mgName 1) mYes (mOp oInX (mVar 1) (mC (.str "0123456789"))) [1]) mNil)))))
 (sRet (mC .non))
 sNext)
 (sSeq (sIf (mAndT (mTest (mOp oEqX (mOp oIxD (mVar 0) (mC (.int 0))) (mC (.str "0")))) (mTest (mOp oNeX (mVar 0) (mC (.str "0")))))
 (sRet (mC .non))
 sNext)
 (sRet (mCB oIntS (mCons (mVar 0) mNil)))))
noncomputable def m_number_of : List A → Sto → Res A := runB 2 b_number_of
theorem ok_number_of {f : Addr} {fd : FuncData} (F : Fun K "number_of" "number_of" s_number_of f fd) (gm : mg "number_of" = some (.ref f)) (N : Fre K mg)  : C8.Cal P w K mg base 1 "number_of" (spN K w 1 m_number_of) [] := by
  refine mkCal F gm sc_number_of (F.binds (ps := ["word"]) fun _ _ _ _ _ _ us hl => match us, hl with | [_], _ => rfl) (fun vs H Q E h => ?_) (fun cdv A outer s H vs Q E hr h => ?_)
  · obtain ⟨_, _, _, hl, _⟩ := h
    exact hl
  · refine ⟨_, (pss_cons (ps_if (PW.pt (pw_or (pt_not (pt_chain (show OpR _ _ rLeD from dLe) (show OpR _ _ rLeD from dLe) pe_int (pe_callB (show CallR _ _ (rLenAny K) from call_lenAny) (by rfl) N.len (by decide +kernel) (pa_cons (pv 0) pa_nil)) (let ⟨_, h⟩ := N.c_MOST_FIGURES; pe_glob (v := (.int 12)) rfl h ⟨_, rfl⟩))) (pw_or1 (pt_not (pt_val (pe_callB (show CallR _ _ (rAll K) from (cr_all rfl)) (by rfl) N.all (by decide +kernel) (pa_cons (pe_lc (own := [("sign", 1)]) (g := gName 1) (tt := tYes) rfl sc_number_of.nd (pi_str (pv 0)) (blkOk_by (N := ["word", "sign"]) (sc := defScope s_number_of) (by decide +kernel)) (fun _ _ _ _ _ => pg_name (i := 1) sc_number_of.nd rfl (Or.inl rfl)) (fun _ _ _ _ _ => pts_nil) (fun _ _ _ _ _ => (pe_cmpR (show OpR _ _ (rInX K) from (dInX (hu65 hr))) (pv 1) (let ⟨_, h⟩ := N.c_FIGURES; pe_glob (v := (.str "0123456789")) rfl h ⟨_, rfl⟩) (by with_unfolding_all rfl)))) pa_nil)))))))
 (pss_one (ps_ret pe_non))
 pss_nil)
 (pss_cons (ps_if (PW.pt (pw_and (pt_cmpR (show OpR _ _ (rEqX K) from (dEqX hr.units)) (pe_ix (show IxR _ (rIxAny K) from dIx) (pv 0) pe_int (fun _ _ => rfl)) pe_str (nomark _)) (pw_and1 (pt_cmpR (show OpR _ _ (rNeX K) from (dNeX hr.units)) (pv 0) pe_str (nomark _)))))
 (pss_one (ps_ret pe_non))
 pss_nil)
 (pss_one (ps_ret (pe_callTy (show CallR _ _ rIntS from call_int_str) (by rfl) N.int (by decide +kernel) (pa_cons (pv 0) pa_nil)))))), ?_⟩
    exact spN_body (b := b_number_of) (show RS K w WF _ b_number_of from (rs_seq (rs_if (rt_or (rt_not (rt_test (re_chain r2_le r2_le re_int (re_cb rl_len (ra_cons (re_var (i := 0)) ra_nil)) re_int))) (rt_not (rt_val (re_cb rl_all (ra_cons (re_lc (ri_str (re_var (i := 0))) (rg_name (i := 1) (vs := [1]) (by decide)) rt_yes (re_op r2_inX (re_var (i := 1)) re_str)) ra_nil)))))
 (rs_ret re_non)
 rs_next)
 (rs_seq (rs_if (rt_and (rt_test (re_op r2_eqX (re_op r2_ixD (re_var (i := 0)) re_int) re_str)) (rt_test (re_op r2_neX (re_var (i := 0)) re_str)))
 (rs_ret re_non)
 rs_next)
 (rs_ret (re_cb rl_intS (ra_cons (re_var (i := 0)) ra_nil)))))) h
theorem st_number_of (a0 : A) (st : Sto) : m_number_of [a0] st = fin (b_number_of [some a0, none] st) := rfl

/-! ### part_of -/
abbrev s_part_of : Stmt := topS 42
theorem sc_part_of : FnScope ["kind", "word"] ["kind", "word"] (defScope s_part_of) := ⟨rfl, rfl, rfl, by decide +kernel, rfl, by decide +kernel, by decide +kernel⟩

noncomputable def b_part_of : MS := (sSeq (sIf (mTest (mOp oEqX (mVar 0) (mC (.str "number"))))
 (sRet (mCall 1 m_number_of (mCons (mVar 1) mNil)))
 sNext)
 (sRet (mIfE (mTest (mCall 1 m_is_name (mCons (mVar 1) mNil))) (mVar 1) (mC .non))))
noncomputable def m_part_of : List A → Sto → Res A := runB 2 b_part_of
theorem ok_part_of {f : Addr} {fd : FuncData} (F : Fun K "part_of" "part_of" s_part_of f fd) (gm : mg "part_of" = some (.ref f)) (N : Fre K mg) (c_is_name : C8.Cal P w K mg base 1 "is_name" (spN K w 1 m_is_name) []) (c_number_of : C8.Cal P w K mg base 1 "number_of" (spN K w 1 m_number_of) []) : C8.Cal P w K mg base 2 "part_of" (spN K w 2 m_part_of) [] := by
  refine mkCal F gm sc_part_of (F.binds (ps := ["kind", "word"]) fun _ _ _ _ _ _ us hl => match us, hl with | [_, _], _ => rfl) (fun vs H Q E h => ?_) (fun cdv A outer s H vs Q E hr h => ?_)
  · obtain ⟨_, _, _, hl, _⟩ := h
    exact hl
  · refine ⟨_, (pss_cons (ps_if (pt_cmpR (show OpR _ _ (rEqX K) from (dEqX hr.units)) (pv 0) pe_str (nomark _))
 (pss_one (ps_ret (C8.pe_c c_number_of hr (by decide) rfl (pa_cons (pv 1) pa_nil))))
 pss_nil)
 (pss_one (ps_ret (pe_ifExp (pt_val (C8.pe_c c_is_name hr (by decide) rfl (pa_cons (pv 1) pa_nil))) (pv 1) pe_non)))), ?_⟩
    exact spN_body (b := b_part_of) (show RS K w WF _ b_part_of from (rs_seq (rs_if (rt_test (re_op r2_eqX (re_var (i := 0)) re_str))
 (rs_ret (re_call (ra_cons (re_var (i := 1)) ra_nil)))
 rs_next)
 (rs_ret (re_if (rt_val (re_call (ra_cons (re_var (i := 1)) ra_nil))) (re_var (i := 1)) re_non)))) h
theorem st_part_of (a0 a1 : A) (st : Sto) : m_part_of [a0, a1] st = fin (b_part_of [some a0, some a1] st) := rfl

/-! ### step_of -/
abbrev s_step_of : Stmt := topS 43
theorem sc_step_of : FnScope ["text", "words", "kinds", "parts", "kind", "word"] ["text"] (defScope s_step_of) := ⟨rfl, rfl, rfl, by decide +kernel, rfl, by decide +kernel, by decide +kernel⟩

noncomputable def b_step_of : MS := (sSeq (sAsg (mSplit (mVar 0) (mC (.str " "))) (mgName 1))
 (sSeq (sAsg (mKGet tab_PARTS (mOp oIxD (mVar 1) (mC (.int 0)))) (mgName 2))
 (sSeq (sIf (mOrT (mTest (mOp oIs (mVar 2) (mC .non))) (mTest (mOp oNeX (mCB oLen (mCons (mVar 1) mNil)) (mOp oAddX (mCB oLen (mCons (mVar 2) mNil)) (mC (.int 1))))))
 (sRet (mC .non))
 sNext)
 (sSeq (sAsg (mLc (miZ (mCons (mVar 2) (mCons (mSl oSl (mVar 1) (mPart (mC (.int 1))) mNoPart) mNil))) (mgTup (mgCons (mgName 4) (mgCons (mgName 5) mgNil))) mYes (mCall 2 m_part_of (mCons (mVar 4) (mCons (mVar 5) mNil))) [4, 5]) (mgName 3))
 (sRet (mIfE (mTest (mOp oInX (mC .non) (mVar 3))) (mC .non) (mTup (mCons (mOp oIxD (mVar 1) (mC (.int 0))) (mStar (mVar 3) mNil)))))))))
noncomputable def m_step_of : List A → Sto → Res A := runB 6 b_step_of
theorem ok_step_of {f : Addr} {fd : FuncData} (F : Fun K "step_of" "step_of" s_step_of f fd) (gm : mg "step_of" = some (.ref f)) (N : Fre K mg) (D_PARTS : ∃ W, mg "PARTS" = some (.ref W) ∧ KdT K w W tab_PARTS) (c_part_of : C8.Cal P w K mg base 2 "part_of" (spN K w 2 m_part_of) []) : C8.Cal P w K mg base 3 "step_of" (spN K w 1 m_step_of) [] := by
  obtain ⟨W_PARTS, g_PARTS, kd_PARTS⟩ := D_PARTS
  refine mkCal F gm sc_step_of (F.binds (ps := ["text"]) fun _ _ _ _ _ _ us hl => match us, hl with | [_], _ => rfl) (fun vs H Q E h => ?_) (fun cdv A outer s H vs Q E hr h => ?_)
  · obtain ⟨_, _, _, hl, _⟩ := h
    exact hl
  · refine ⟨_, (pss_cons (ps_set (i := 1) sc_step_of.nd rfl (.inl rfl) (pe_split (pv 0) pe_str))
 (pss_cons (ps_set (i := 2) sc_step_of.nd rfl (.inl rfl) (pe_kget kd_PARTS (pe_glob (v := .ref W_PARTS) rfl g_PARTS rfl) (pe_ix (show IxR _ (rIxAny K) from dIx) (pv 1) pe_int (fun _ _ => rfl)) ⟨rfl, rfl, rfl, rfl⟩))
 (pss_cons (ps_if (PW.pt (pw_or (pt_cmpR (show OpR _ _ rIsN from dIs) (pv 2) pe_non (nomark _)) (pw_or1 (pt_cmpR (show OpR _ _ (rNeX K) from (dNeX hr.units)) (pe_callB (show CallR _ _ (rLenAny K) from call_lenAny) (by rfl) N.len (by decide +kernel) (pa_cons (pv 1) pa_nil)) (pe_op (show OpR _ _ (rAddX K) from dAddX) (pe_callB (show CallR _ _ (rLenAny K) from call_lenAny) (by rfl) N.len (by decide +kernel) (pa_cons (pv 2) pa_nil)) pe_int) (nomark _)))))
 (pss_one (ps_ret pe_non))
 pss_nil)
 (pss_cons (ps_setLc (i := 3) (own := [("kind", 4), ("word", 5)]) (g := gTup K 2 (gCons (gName 4) (gCons (gName 5) gNil))) (tt := tYes) rfl sc_step_of.nd rfl rfl (sw_true rfl rfl rfl (by decide +kernel)) (pi_zipM (by rfl) N.zip (pa_cons (pv 2) (pa_cons (pe_slice (show SlR _ (rSlAny K) from sl_any) (pv 1) (po_some pe_int) po_none) pa_nil))) (blkOk_by (N := ["text", "words", "kinds", "parts", "kind", "word"]) (sc := defScope s_step_of) (by decide +kernel)) (fun _ _ _ _ _ => pg_tup rfl (pgs_cons (pg_name (i := 4) sc_step_of.nd rfl (Or.inl rfl)) (pgs_cons (pg_name (i := 5) sc_step_of.nd rfl (Or.inl rfl)) pgs_nil))) (fun _ _ _ _ _ => pts_nil) (fun _ _ _ _ _ => (C8.pe_c c_part_of hr (by decide) rfl (pa_cons (pv 4) (pa_cons (pv 5) pa_nil)))))
 (pss_one (ps_ret (pe_ifExp (pt_cmpR (show OpR _ _ (rInX K) from (dInX (hu65 hr))) pe_non (pv 3) (by with_unfolding_all rfl)) pe_non (pe_tup (pa_cons (pe_ix (show IxR _ (rIxAny K) from dIx) (pv 1) pe_int (fun _ _ => rfl)) (StX.pa_star (pv 3) pa_nil)))))))))), ?_⟩
    exact spN_body (b := b_step_of) (show RS K w WF _ b_step_of from (rs_seq (rs_asg (re_split (re_var (i := 0)) re_str) (rg_name (i := 1) (vs := [1]) (by decide)))
 (rs_seq (rs_asg (re_kget (re_op r2_ixD (re_var (i := 1)) re_int)) (rg_name (i := 2) (vs := [2]) (by decide)))
 (rs_seq (rs_if (rt_or (rt_test (re_op r2_isN (re_var (i := 2)) re_non)) (rt_test (re_op r2_neX (re_cb rl_len (ra_cons (re_var (i := 1)) ra_nil)) (re_op r2_addX (re_cb rl_len (ra_cons (re_var (i := 2)) ra_nil)) re_int))))
 (rs_ret re_non)
 rs_next)
 (rs_seq (rs_asg (re_lc (ri_zip (ra_cons (re_var (i := 2)) (ra_cons (re_sl rsl_any (re_var (i := 1)) (ro_some re_int) ro_none) ra_nil))) (rg_tup (mgs_lenS (mgs_lenS mgs_len0)) (rgs_cons (rg_name (i := 4) (vs := [4, 5]) (by decide)) (rgs_cons (rg_name (i := 5) (vs := [4, 5]) (by decide)) rgs_nil))) rt_yes (re_call (ra_cons (re_var (i := 4)) (ra_cons (re_var (i := 5)) ra_nil)))) (rg_name (i := 3) (vs := [3]) (by decide)))
 (rs_ret (re_if (rt_test (re_op r2_inX re_non (re_var (i := 3)))) re_non (re_tup (ra_cons (re_op r2_ixD (re_var (i := 1)) re_int) (ra_star (re_var (i := 3)) ra_nil)))))))))) h
theorem st_step_of (a0 : A) (st : Sto) : m_step_of [a0] st = fin (b_step_of [some a0, none, none, none, none, none] st) := rfl

/-! ### step_text -/
abbrev s_step_text : Stmt := topS 47
theorem sc_step_text : FnScope ["step", "part"] ["step"] (defScope s_step_text) := ⟨rfl, rfl, rfl, by decide +kernel, rfl, by decide +kernel, by decide +kernel⟩

noncomputable def b_step_text : MS := (sRet (mJoin (mC (.str " ")) (mLc (miT (mVar 0)) (mgName 1) mYes (mCB oStrY (mCons (mVar 1) mNil)) [1])))
noncomputable def m_step_text : List A → Sto → Res A := runB 2 b_step_text
theorem ok_step_text {f : Addr} {fd : FuncData} (F : Fun K "step_text" "step_text" s_step_text f fd) (gm : mg "step_text" = some (.ref f)) (N : Fre K mg)  : C8.Cal P w K mg base 1 "step_text" (spN K w 1 m_step_text) [] := by
  refine mkCal F gm sc_step_text (F.binds (ps := ["step"]) fun _ _ _ _ _ _ us hl => match us, hl with | [_], _ => rfl) (fun vs H Q E h => ?_) (fun cdv A outer s H vs Q E hr h => ?_)
  · obtain ⟨_, _, _, hl, _⟩ := h
    exact hl
  · refine ⟨_, (pss_one (ps_ret (pe_join pe_str (pe_lc (own := [("part", 1)]) (g := gName 1) (tt := tYes) rfl sc_step_text.nd (pi_tup (pv 0)) (blkOk_by (N := ["step", "part"]) (sc := defScope s_step_text) (by decide +kernel)) (fun _ _ _ _ _ => pg_name (i := 1) sc_step_text.nd rfl (Or.inl rfl)) (fun _ _ _ _ _ => pts_nil) (fun _ _ _ _ _ => (pe_callTy (show CallR _ _ rStrY from call_strY) (by rfl) N.str (by decide +kernel) (pa_cons (pv 1) pa_nil))))))), ?_⟩
    exact spN_body (b := b_step_text) (show RS K w WF _ b_step_text from (rs_ret (re_join re_str (re_lc (ri_tup (re_var (i := 0))) (rg_name (i := 1) (vs := [1]) (by decide)) rt_yes (re_cb rl_strY (ra_cons (re_var (i := 1)) ra_nil)))))) h
theorem st_step_text (a0 : A) (st : Sto) : m_step_text [a0] st = fin (b_step_text [some a0, none] st) := rfl

/-! ### steps_text -/
abbrev s_steps_text : Stmt := topS 48
theorem sc_steps_text : FnScope ["steps", "step"] ["steps"] (defScope s_steps_text) := ⟨rfl, rfl, rfl, by decide +kernel, rfl, by decide +kernel, by decide +kernel⟩

noncomputable def b_steps_text : MS := (sRet (mJoin (mC (.str "\n")) (mLc (miL (mVar 0)) (mgName 1) mYes (mCall 1 m_step_text (mCons (mVar 1) mNil)) [1])))
noncomputable def m_steps_text : List A → Sto → Res A := runB 2 b_steps_text
theorem ok_steps_text {f : Addr} {fd : FuncData} (F : Fun K "steps_text" "steps_text" s_steps_text f fd) (gm : mg "steps_text" = some (.ref f)) (N : Fre K mg) (c_step_text : C8.Cal P w K mg base 1 "step_text" (spN K w 1 m_step_text) []) : C8.Cal P w K mg base 2 "steps_text" (spN K w 1 m_steps_text) [] := by
  refine mkCal F gm sc_steps_text (F.binds (ps := ["steps"]) fun _ _ _ _ _ _ us hl => match us, hl with | [_], _ => rfl) (fun vs H Q E h => ?_) (fun cdv A outer s H vs Q E hr h => ?_)
  · obtain ⟨_, _, _, hl, _⟩ := h
    exact hl
  · refine ⟨_, (pss_one (ps_ret (pe_join pe_str (pe_lc (own := [("step", 1)]) (g := gName 1) (tt := tYes) rfl sc_steps_text.nd (pi_list (pv 0)) (blkOk_by (N := ["steps", "step"]) (sc := defScope s_steps_text) (by decide +kernel)) (fun _ _ _ _ _ => pg_name (i := 1) sc_steps_text.nd rfl (Or.inl rfl)) (fun _ _ _ _ _ => pts_nil) (fun _ _ _ _ _ => (C8.pe_c c_step_text hr (by decide) rfl (pa_cons (pv 1) pa_nil))))))), ?_⟩
    exact spN_body (b := b_steps_text) (show RS K w WF _ b_steps_text from (rs_ret (re_join re_str (re_lc (ri_list (re_var (i := 0))) (rg_name (i := 1) (vs := [1]) (by decide)) rt_yes (re_call (ra_cons (re_var (i := 1)) ra_nil)))))) h
theorem st_steps_text (a0 : A) (st : Sto) : m_steps_text [a0] st = fin (b_steps_text [some a0, none] st) := rfl

/-! ### read_step -/
abbrev s_read_step : Stmt := topS 50
theorem sc_read_step : FnScope ["text", "step"] ["text"] (defScope s_read_step) := ⟨rfl, rfl, rfl, by decide +kernel, rfl, by decide +kernel, by decide +kernel⟩

noncomputable def b_read_step : MS := (sSeq (sAsg (mIfE (mTest (mCB oIsi (mCons (mVar 0) (mCons (mC (.ty "str")) mNil)))) (mCall 1 m_step_of (mCons (mVar 0) mNil)) (mC .non)) (mgName 1))
 (sSeq (sIf (mTest (mOp oIs (mVar 1) (mC .non)))
 (sRaiseN 0 "line")
 sNext)
 (sRet (mVar 1))))
noncomputable def m_read_step : List A → Sto → Res A := runB 2 b_read_step
theorem ok_read_step {f : Addr} {fd : FuncData} (F : Fun K "read_step" "read_step" s_read_step f fd) (gm : mg "read_step" = some (.ref f)) (N : Fre K mg) {cl : Nat → Addr} (L : Exn P w K mg base cl) (c_step_of : C8.Cal P w K mg base 3 "step_of" (spN K w 1 m_step_of) []) : CalE P w K mg base 4 "read_step" (spX K w cl 1 m_read_step) := by
  refine mkCalE F gm sc_read_step (F.binds (ps := ["text"]) fun _ _ _ _ _ _ us hl => match us, hl with | [_], _ => rfl) (fun vs H Q E h => ?_) (fun cdv A outer s H vs Q E hr h => ?_)
  · obtain ⟨_, _, _, hl, _⟩ := h
    exact hl
  · refine ⟨_, (pss_cons (ps_set (i := 1) sc_read_step.nd rfl (.inl rfl) (pe_ifExp (pt_val (pe_callB (show CallR _ _ (rIsi K) from call_isi) (by rfl) N.isinstance (by decide +kernel) (pa_cons (pv 0) (pa_cons (pe_bltn (v := .ty "str") (u := .type "str") rfl N.str (by decide +kernel) rfl) pa_nil)))) (C8.pe_c c_step_of hr (by decide) rfl (pa_cons (pv 0) pa_nil)) pe_non))
 (pss_cons (ps_if (pt_cmpR (show OpR _ _ rIsN from dIs) (pv 1) pe_non (nomark _))
 (pss_one (ps_rz0 L.i_NoText hr (by decide) rfl (L2N.takes_of rfl rfl rfl rfl) rfl))
 pss_nil)
 (pss_one (ps_ret (pv 1))))), ?_⟩
    exact spX_body (b := b_read_step) (show RS K w (Wc cl fun c d _ H => E c d H) _ b_read_step from (rs_seq (rs_asg (re_if (rt_val (re_cb rl_isi (ra_cons (re_var (i := 0)) (ra_cons (re_c fun _ _ => .ty _) ra_nil)))) (re_call (ra_cons (re_var (i := 0)) ra_nil)) re_non) (rg_name (i := 1) (vs := [1]) (by decide)))
 (rs_seq (rs_if (rt_test (re_op r2_isN (re_var (i := 1)) re_non))
 (rs_rz0 (c := 0))
 rs_next)
 (rs_ret (re_var (i := 1)))))) h
theorem st_read_step (a0 : A) (st : Sto) : m_read_step [a0] st = fin (b_read_step [some a0, none] st) := rfl

/-! ### read_steps -/
abbrev s_read_steps : Stmt := topS 51
theorem sc_read_steps : FnScope ["text", "steps", "at", "line", "step"] ["text"] (defScope s_read_steps) := ⟨rfl, rfl, rfl, by decide +kernel, rfl, by decide +kernel, by decide +kernel⟩
noncomputable def lb_read_steps_1 : MS := (sSeq (sAsg (mCall 1 m_step_of (mCons (mVar 3) mNil)) (mgName 4))
 (sIf (mTest (mOp oIsNot (mVar 4) (mC .non)))
 (sDrop (mMeth oAppend (mVar 1) (mCons (mVar 4) mNil)))
 (sIf (mTruth (mVar 3))
 (sRaise1 0 "line" (mVar 2))
 sNext)))
noncomputable def b_read_steps : MS := (sSeq (sIf (mNotT (mTest (mCB oIsi (mCons (mVar 0) (mCons (mC (.ty "str")) mNil)))))
 (sRaiseN 0 "line")
 sNext)
 (sSeq (sAsg (mLst mNil) (mgName 1))
 (sSeq (sFor (miEF (mCons (mSplit (mVar 0) (mC (.str "\n"))) mNil) (mCons (mC (.int 1)) mNil)) (mgTup (mgCons (mgName 2) (mgCons (mgName 3) mgNil)))
 lb_read_steps_1)
 (sRet (mVar 1)))))
noncomputable def m_read_steps : List A → Sto → Res A := runB 5 b_read_steps
theorem ok_read_steps {f : Addr} {fd : FuncData} (F : Fun K "read_steps" "read_steps" s_read_steps f fd) (gm : mg "read_steps" = some (.ref f)) (N : Fre K mg) {cl : Nat → Addr} (L : Exn P w K mg base cl) (c_step_of : C8.Cal P w K mg base 3 "step_of" (spN K w 1 m_step_of) []) : CalE P w K mg base 4 "read_steps" (spX K w cl 1 m_read_steps) := by
  refine mkCalE F gm sc_read_steps (F.binds (ps := ["text"]) fun _ _ _ _ _ _ us hl => match us, hl with | [_], _ => rfl) (fun vs H Q E h => ?_) (fun cdv A outer s H vs Q E hr h => ?_)
  · obtain ⟨_, _, _, hl, _⟩ := h
    exact hl
  · refine ⟨_, (pss_cons (ps_if (pt_not (pt_val (pe_callB (show CallR _ _ (rIsi K) from call_isi) (by rfl) N.isinstance (by decide +kernel) (pa_cons (pv 0) (pa_cons (pe_bltn (v := .ty "str") (u := .type "str") rfl N.str (by decide +kernel) rfl) pa_nil)))))
 (pss_one (ps_rz0 L.i_NoText hr (by decide) rfl (L2N.takes_of rfl rfl rfl rfl) rfl))
 pss_nil)
 (pss_cons (ps_set (i := 1) sc_read_steps.nd rfl (.inl rfl) (pe_lst pa_nil))
 (pss_cons (ps_for (passes_of rfl) rfl (pi_enumF (by rfl) N.enumerate (pa_cons (pe_split (pv 0) pe_str) pa_nil) (pk_cons pe_int pk_nil)) (pg_tup rfl (pgs_cons (pg_name (i := 2) sc_read_steps.nd rfl (.inl rfl)) (pgs_cons (pg_name (i := 3) sc_read_steps.nd rfl (.inl rfl)) pgs_nil)))
 (pss_cons (ps_set (i := 4) sc_read_steps.nd rfl (.inl rfl) (C8.pe_c c_step_of hr (by decide) rfl (pa_cons (pv 3) pa_nil)))
 (pss_one (ps_if (pt_cmpR (show OpR _ _ rNotN from dIsNot) (pv 4) pe_non (nomark _))
 (pss_one (ps_expr (pe_bm PySem.F.plainAttrs_list PySem.F.slot_list_append PySem.F.type_list_append mt_append (pv 1) (pa_cons (pv 4) pa_nil))))
 (pss_one (ps_if (pt_truth (pv 3) (by intro _; rfl))
 (pss_one (ps_rz L.i_NoText hr (by decide) rfl (L2N.takes_of rfl rfl rfl rfl) rfl (pv 2)))
 pss_nil))))))
 (pss_one (ps_ret (pv 1)))))), ?_⟩
    exact spX_body (b := b_read_steps) (show RS K w (Wc cl fun c d _ H => E c d H) _ b_read_steps from (rs_seq (rs_if (rt_not (rt_val (re_cb rl_isi (ra_cons (re_var (i := 0)) (ra_cons (re_c fun _ _ => .ty _) ra_nil)))))
 (rs_rz0 (c := 0))
 rs_next)
 (rs_seq (rs_asg (re_lst ra_nil) (rg_name (i := 1) (vs := [1]) (by decide)))
 (rs_seq (rs_for (ri_enumF (ra_cons (re_split (re_var (i := 0)) re_str) ra_nil) (ra_cons re_int ra_nil)) (rg_tup (mgs_lenS (mgs_lenS mgs_len0)) (rgs_cons (rg_name (i := 2) (vs := [2, 3]) (by decide)) (rgs_cons (rg_name (i := 3) (vs := [2, 3]) (by decide)) rgs_nil)))
 (rs_seq (rs_asg (re_call (ra_cons (re_var (i := 3)) ra_nil)) (rg_name (i := 4) (vs := [4]) (by decide)))
 (rs_if (rt_test (re_op r2_notN (re_var (i := 4)) re_non))
 (rs_drop (re_meth rm_append (re_var (i := 1)) (ra_cons (re_var (i := 4)) ra_nil)))
 (rs_if (rt_truth (re_var (i := 3)))
 (rs_rz (c := 0) (re_var (i := 2)))
 rs_next))))
 (rs_ret (re_var (i := 1))))))) h
theorem st_read_steps (a0 : A) (st : Sto) : m_read_steps [a0] st = fin (b_read_steps [some a0, none, none, none, none] st) := rfl

/-! ### _law_any_step -/
abbrev s__law_any_step : Stmt := topS 57
theorem sc__law_any_step : FnScope ["bag", "one", "other", "most", "number", "some"] ["bag"] (defScope s__law_any_step) := ⟨rfl, rfl, rfl, by decide +kernel, rfl, by decide +kernel, by decide +kernel⟩

noncomputable def b__law_any_step : MS := (sSeq (sAsg (mCall 1 m__law_name (mCons (mVar 0) mNil)) (mgName 1))
 (sSeq (sAsg (mOp oIxD (mLst (mCons (mC (.str "read")) (mCons (mC (.str "crash")) (mCons (mC (.str "server")) (mCons (mCall 1 m__law_name (mCons (mVar 0) mNil)) mNil))))) (mCall 2 m__law_take (mCons (mVar 0) (mCons (mC (.int 4)) mNil)))) (mgName 2))
 (sSeq (sAsg (mOp oIxD (mLst (mCons (mC (.int 5)) (mCons (mC (.int 1000)) (mCons (mOp oPow (mC (.int 10)) (mC (.int 12))) mNil)))) (mCall 2 m__law_take (mCons (mVar 0) (mCons (mC (.int 3)) mNil)))) (mgName 3))
 (sSeq (sAsg (mCall 2 m__law_take (mCons (mVar 0) (mCons (mVar 3) mNil))) (mgName 4))
 (sSeq (sAsg (mLst (mCons (mTup (mCons (mC (.str "read")) (mCons (mVar 1) (mCons (mVar 2) (mCons (mVar 4) mNil))))) (mCons (mTup (mCons (mC (.str "write")) (mCons (mVar 1) (mCons (mVar 2) (mCons (mCall 2 m__law_take (mCons (mVar 0) (mCons (mVar 3) mNil))) (mCons (mVar 4) mNil)))))) (mCons (mTup (mCons (mC (.str "ask")) (mCons (mVar 2) mNil))) mNil)))) (mgName 5))
 (sSeq (sAsg (mOp oAddX (mVar 5) (mLst (mCons (mTup (mCons (mC (.str "pass")) (mCons (mVar 4) mNil))) (mCons (mTup (mCons (mC (.str "deliver")) (mCons (mVar 4) mNil))) (mCons (mTup (mCons (mC (.str "drop")) (mCons (mVar 4) mNil))) (mCons (mTup (mCons (mC (.str "save")) (mCons (mVar 2) (mCons (mVar 1) mNil)))) mNil)))))) (mgName 5))
 (sSeq (sAsg (mOp oAddX (mVar 5) (mLst (mCons (mTup (mCons (mC (.str "yield")) (mCons (mVar 1) (mCons (mVar 2) mNil)))) (mCons (mTup (mCons (mC (.str "fall")) (mCons (mVar 1) mNil))) (mCons (mTup (mCons (mC (.str "crash")) mNil)) mNil))))) (mgName 5))
 (sRet (mOp oIxD (mVar 5) (mCall 2 m__law_take (mCons (mVar 0) (mCons (mC (.int 10)) mNil))))))))))))
noncomputable def m__law_any_step : List A → Sto → Res A := runB 6 b__law_any_step
theorem ok__law_any_step {f : Addr} {fd : FuncData} (F : Fun K "_law_any_step" "_law_any_step" s__law_any_step f fd) (gm : mg "_law_any_step" = some (.ref f)) (N : Fre K mg) (c__law_name : C8.Cal P w K mg base 2 "_law_name" (spN K w 1 m__law_name) []) (c__law_take : C8.Cal P w K mg base 1 "_law_take" (spN K w 2 m__law_take) []) : C8.Cal P w K mg base 3 "_law_any_step" (spN K w 1 m__law_any_step) [] := by
  refine mkCal F gm sc__law_any_step (F.binds (ps := ["bag"]) fun _ _ _ _ _ _ us hl => match us, hl with | [_], _ => rfl) (fun vs H Q E h => ?_) (fun cdv A outer s H vs Q E hr h => ?_)
  · obtain ⟨_, _, _, hl, _⟩ := h
    exact hl
  · refine ⟨_, (pss_cons (ps_set (i := 1) sc__law_any_step.nd rfl (.inl rfl) (C8.pe_c c__law_name hr (by decide) rfl (pa_cons (pv 0) pa_nil)))
 (pss_cons (ps_set (i := 2) sc__law_any_step.nd rfl (.inl rfl) (pe_ix (show IxR _ (rIxAny K) from dIx) (pe_lst (pa_cons pe_str (pa_cons pe_str (pa_cons pe_str (pa_cons (C8.pe_c c__law_name hr (by decide) rfl (pa_cons (pv 0) pa_nil)) pa_nil))))) (C8.pe_c c__law_take hr (by decide) rfl (pa_cons (pv 0) (pa_cons pe_int pa_nil))) (fun _ _ => rfl)))
 (pss_cons (ps_set (i := 3) sc__law_any_step.nd rfl (.inl rfl) (pe_ix (show IxR _ (rIxAny K) from dIx) (pe_lst (pa_cons pe_int (pa_cons pe_int (pa_cons (pe_op (show OpR _ _ rPowD from dPow) pe_int pe_int) pa_nil)))) (C8.pe_c c__law_take hr (by decide) rfl (pa_cons (pv 0) (pa_cons pe_int pa_nil))) (fun _ _ => rfl)))
 (pss_cons (ps_set (i := 4) sc__law_any_step.nd rfl (.inl rfl) (C8.pe_c c__law_take hr (by decide) rfl (pa_cons (pv 0) (pa_cons (pv 3) pa_nil))))
 (pss_cons (ps_set (i := 5) sc__law_any_step.nd rfl (.inl rfl) (pe_lst (pa_cons (pe_tup (pa_cons pe_str (pa_cons (pv 1) (pa_cons (pv 2) (pa_cons (pv 4) pa_nil))))) (pa_cons (pe_tup (pa_cons pe_str (pa_cons (pv 1) (pa_cons (pv 2) (pa_cons (C8.pe_c c__law_take hr (by decide) rfl (pa_cons (pv 0) (pa_cons (pv 3) pa_nil))) (pa_cons (pv 4) pa_nil)))))) (pa_cons (pe_tup (pa_cons pe_str (pa_cons (pv 2) pa_nil))) pa_nil)))))
 (pss_cons (ps_set (i := 5) sc__law_any_step.nd rfl (.inl rfl) (pe_op (show OpR _ _ (rAddX K) from dAddX) (pv 5) (pe_lst (pa_cons (pe_tup (pa_cons pe_str (pa_cons (pv 4) pa_nil))) (pa_cons (pe_tup (pa_cons pe_str (pa_cons (pv 4) pa_nil))) (pa_cons (pe_tup (pa_cons pe_str (pa_cons (pv 4) pa_nil))) (pa_cons (pe_tup (pa_cons pe_str (pa_cons (pv 2) (pa_cons (pv 1) pa_nil)))) pa_nil)))))))
 (pss_cons (ps_set (i := 5) sc__law_any_step.nd rfl (.inl rfl) (pe_op (show OpR _ _ (rAddX K) from dAddX) (pv 5) (pe_lst (pa_cons (pe_tup (pa_cons pe_str (pa_cons (pv 1) (pa_cons (pv 2) pa_nil)))) (pa_cons (pe_tup (pa_cons pe_str (pa_cons (pv 1) pa_nil))) (pa_cons (pe_tup (pa_cons pe_str pa_nil)) pa_nil))))))
 (pss_one (ps_ret (pe_ix (show IxR _ (rIxAny K) from dIx) (pv 5) (C8.pe_c c__law_take hr (by decide) rfl (pa_cons (pv 0) (pa_cons pe_int pa_nil))) (fun _ _ => rfl))))))))))), ?_⟩
    exact spN_body (b := b__law_any_step) (show RS K w WF _ b__law_any_step from (rs_seq (rs_asg (re_call (ra_cons (re_var (i := 0)) ra_nil)) (rg_name (i := 1) (vs := [1]) (by decide)))
 (rs_seq (rs_asg (re_op r2_ixD (re_lst (ra_cons re_str (ra_cons re_str (ra_cons re_str (ra_cons (re_call (ra_cons (re_var (i := 0)) ra_nil)) ra_nil))))) (re_call (ra_cons (re_var (i := 0)) (ra_cons re_int ra_nil)))) (rg_name (i := 2) (vs := [2]) (by decide)))
 (rs_seq (rs_asg (re_op r2_ixD (re_lst (ra_cons re_int (ra_cons re_int (ra_cons (re_op r2_pow re_int re_int) ra_nil)))) (re_call (ra_cons (re_var (i := 0)) (ra_cons re_int ra_nil)))) (rg_name (i := 3) (vs := [3]) (by decide)))
 (rs_seq (rs_asg (re_call (ra_cons (re_var (i := 0)) (ra_cons (re_var (i := 3)) ra_nil))) (rg_name (i := 4) (vs := [4]) (by decide)))
 (rs_seq (rs_asg (re_lst (ra_cons (re_tup (ra_cons re_str (ra_cons (re_var (i := 1)) (ra_cons (re_var (i := 2)) (ra_cons (re_var (i := 4)) ra_nil))))) (ra_cons (re_tup (ra_cons re_str (ra_cons (re_var (i := 1)) (ra_cons (re_var (i := 2)) (ra_cons (re_call (ra_cons (re_var (i := 0)) (ra_cons (re_var (i := 3)) ra_nil))) (ra_cons (re_var (i := 4)) ra_nil)))))) (ra_cons (re_tup (ra_cons re_str (ra_cons (re_var (i := 2)) ra_nil))) ra_nil)))) (rg_name (i := 5) (vs := [5]) (by decide)))
 (rs_seq (rs_asg (re_op r2_addX (re_var (i := 5)) (re_lst (ra_cons (re_tup (ra_cons re_str (ra_cons (re_var (i := 4)) ra_nil))) (ra_cons (re_tup (ra_cons re_str (ra_cons (re_var (i := 4)) ra_nil))) (ra_cons (re_tup (ra_cons re_str (ra_cons (re_var (i := 4)) ra_nil))) (ra_cons (re_tup (ra_cons re_str (ra_cons (re_var (i := 2)) (ra_cons (re_var (i := 1)) ra_nil)))) ra_nil)))))) (rg_name (i := 5) (vs := [5]) (by decide)))
 (rs_seq (rs_asg (re_op r2_addX (re_var (i := 5)) (re_lst (ra_cons (re_tup (ra_cons re_str (ra_cons (re_var (i := 1)) (ra_cons (re_var (i := 2)) ra_nil)))) (ra_cons (re_tup (ra_cons re_str (ra_cons (re_var (i := 1)) ra_nil))) (ra_cons (re_tup (ra_cons re_str ra_nil)) ra_nil))))) (rg_name (i := 5) (vs := [5]) (by decide)))
 (rs_ret (re_op r2_ixD (re_var (i := 5)) (re_call (ra_cons (re_var (i := 0)) (ra_cons re_int ra_nil))))))))))))) h
theorem st__law_any_step (a0 : A) (st : Sto) : m__law_any_step [a0] st = fin (b__law_any_step [some a0, none, none, none, none, none] st) := rfl

/-! ### _law_line -/
abbrev s__law_line : Stmt := topS 58
theorem sc__law_line : FnScope ["step", "part"] ["step"] (defScope s__law_line) := ⟨rfl, rfl, rfl, by decide +kernel, rfl, by decide +kernel, by decide +kernel⟩

noncomputable def b__law_line : MS := (sRet (mJoin (mC (.str " ")) (mLc (miT (mVar 0)) (mgName 1) mYes (mCB oStrY (mCons (mVar 1) mNil)) [1])))
noncomputable def m__law_line : List A → Sto → Res A := runB 2 b__law_line
theorem ok__law_line {f : Addr} {fd : FuncData} (F : Fun K "_law_line" "_law_line" s__law_line f fd) (gm : mg "_law_line" = some (.ref f)) (N : Fre K mg)  : C8.Cal P w K mg base 1 "_law_line" (spN K w 1 m__law_line) [] := by
  refine mkCal F gm sc__law_line (F.binds (ps := ["step"]) fun _ _ _ _ _ _ us hl => match us, hl with | [_], _ => rfl) (fun vs H Q E h => ?_) (fun cdv A outer s H vs Q E hr h => ?_)
  · obtain ⟨_, _, _, hl, _⟩ := h
    exact hl
  · refine ⟨_, (pss_one (ps_ret (pe_join pe_str (pe_lc (own := [("part", 1)]) (g := gName 1) (tt := tYes) rfl sc__law_line.nd (pi_tup (pv 0)) (blkOk_by (N := ["step", "part"]) (sc := defScope s__law_line) (by decide +kernel)) (fun _ _ _ _ _ => pg_name (i := 1) sc__law_line.nd rfl (Or.inl rfl)) (fun _ _ _ _ _ => pts_nil) (fun _ _ _ _ _ => (pe_callTy (show CallR _ _ rStrY from call_strY) (by rfl) N.str (by decide +kernel) (pa_cons (pv 1) pa_nil))))))), ?_⟩
    exact spN_body (b := b__law_line) (show RS K w WF _ b__law_line from (rs_ret (re_join re_str (re_lc (ri_tup (re_var (i := 0))) (rg_name (i := 1) (vs := [1]) (by decide)) rt_yes (re_cb rl_strY (ra_cons (re_var (i := 1)) ra_nil)))))) h
theorem st__law_line (a0 : A) (st : Sto) : m__law_line [a0] st = fin (b__law_line [some a0, none] st) := rfl

/-! ### _law_no_text -/
abbrev s__law_no_text : Stmt := topS 59
theorem sc__law_no_text : FnScope ["way", "text", "found", "kind", "row", "e"] ["way", "text"] (defScope s__law_no_text) := ⟨rfl, rfl, rfl, by decide +kernel, rfl, by decide +kernel, by decide +kernel⟩

noncomputable def b__law_no_text : MS := (sSeq (sAsg (mC .non) (mgName 2))
 (sSeq (sAsg (mC (.str "")) (mgName 3))
 (sSeq (sAsg (mC (.int 0)) (mgName 4))
 (sSeq (sTryAs 5 1 sub_NoText
 (sIf (mTest (mOp oEqX (mVar 0) (mC (.int 0))))
 (sAsg mImp (mgName 2))
 (sIf (mTest (mOp oEqX (mVar 0) (mC (.int 1))))
 (sAsg (mCallE 1 m_read_step (mCons (mVar 1) mNil)) (mgName 2))
 (sAsg (mCallE 1 m_read_steps (mCons (mVar 1) mNil)) (mgName 2))))
 (hK2 5 3 4 "line" kwOf))
 (sRet (mTup (mCons (mVar 2) (mCons (mVar 3) (mCons (mVar 4) mNil)))))))))
noncomputable def m__law_no_text : List A → Sto → Res A := runB 6 b__law_no_text
theorem ok__law_no_text {f : Addr} {fd : FuncData} (F : Fun K "_law_no_text" "_law_no_text" s__law_no_text f fd) (gm : mg "_law_no_text" = some (.ref f)) (N : Fre K mg) {cl : Nat → Addr} (L : Exn P w K mg base cl) (c__law_kinds : ∀ c, c < 1 → ∀ d, CalK P w K mg base (Zd (cl c) d) 1 "_law_kinds" (spKinds d (bbOf c))) (x_read_step : CalE P w K mg base 4 "read_step" (spX K w cl 1 m_read_step)) (x_read_steps : CalE P w K mg base 4 "read_steps" (spX K w cl 1 m_read_steps)) : C8.Cal P w K mg base 5 "_law_no_text" (spN K w 2 m__law_no_text) [] := by
  obtain ⟨C_NoText, gc_NoText, hx_NoText⟩ := L.h_NoText
  refine mkCal F gm sc__law_no_text (F.binds (ps := ["way", "text"]) fun _ _ _ _ _ _ us hl => match us, hl with | [_, _], _ => rfl) (fun vs H Q E h => ?_) (fun cdv A outer s H vs Q E hr h => ?_)
  · obtain ⟨_, _, _, hl, _⟩ := h
    exact hl
  · refine ⟨_, (pss_cons (ps_set (i := 2) sc__law_no_text.nd rfl (.inl rfl) pe_non)
 (pss_cons (ps_set (i := 3) sc__law_no_text.nd rfl (.inl rfl) pe_str)
 (pss_cons (ps_set (i := 4) sc__law_no_text.nd rfl (.inl rfl) pe_int)
 (pss_cons (ps_tryAs (i := 5) rfl rfl sc__law_no_text.nd rfl rfl ⟨rfl, by decide, .inl gc_NoText⟩ takesN0 (fun W pn xe tk po =>
 (pss_one (ps_if (pt_cmpR (show OpR _ _ (rEqX K) from (dEqX hr.units)) (pv 0) pe_int (nomark _))
 (pss_one (ps_set (i := 2) sc__law_no_text.nd rfl (.inl rfl) pe_imp))
 (pss_one (ps_if (pt_cmpR (show OpR _ _ (rEqX K) from (dEqX hr.units)) (pv 0) pe_int (nomark _))
 (pss_one (ps_set (i := 2) sc__law_no_text.nd rfl (.inl rfl) (pe_cE x_read_step hr (by decide) tk rfl (pa_cons (pv 1) pa_nil))))
 (pss_one (ps_set (i := 2) sc__law_no_text.nd rfl (.inl rfl) (pe_cE x_read_steps hr (by decide) tk rfl (pa_cons (pv 1) pa_nil)))))))))
 (fun a oe cls d pn zn zf => suiteC (cl := cl) (n := 1) zn zf fun c hc hot1 hz =>
 (pss_cons (ps_set (i := 3) sc__law_no_text.nd rfl (.inl rfl) (pe_cK (c__law_kinds c hc d) (roomM hr) (by decide) hot1 hz List.mem_cons_self rfl (pa_cons (pv 5) pa_nil))) (pss_one (ps_set (i := 4) sc__law_no_text.nd rfl (.inl rfl) (pe_xf (L.xf c hc) (L.no_line c hc) hz.1 hz.2 (pv 5)))))))
 (pss_one (ps_ret (pe_tup (pa_cons (pv 2) (pa_cons (pv 3) (pa_cons (pv 4) pa_nil)))))))))), ?_⟩
    exact spN_body (b := b__law_no_text) (show RS K w (Wc cl fun _ _ _ _ => False) _ b__law_no_text from (rs_seq (rs_asg re_non (rg_name (i := 2) (vs := [2]) (by decide)))
 (rs_seq (rs_asg re_str (rg_name (i := 3) (vs := [3]) (by decide)))
 (rs_seq (rs_asg re_int (rg_name (i := 4) (vs := [4]) (by decide)))
 (rs_seq (rs_tryA (cl := cl) (n := 1) (h' := fun c d a dx => sSeq (sAsg (mKi (kwOf c) a dx (mVar 5)) (mgName 3)) (sAsg (mXf "line" a dx (mVar 5)) (mgName 4))) hx_NoText (fun W =>
 (rs_if (rt_test (re_op r2_eqX (re_var (i := 0)) re_int))
 (rs_asg re_imp (rg_name (i := 2) (vs := [2]) (by decide)))
 (rs_if (rt_test (re_op r2_eqX (re_var (i := 0)) re_int))
 (rs_asg (re_callE (ra_cons (re_var (i := 1)) ra_nil)) (rg_name (i := 2) (vs := [2]) (by decide)))
 (rs_asg (re_callE (ra_cons (re_var (i := 1)) ra_nil)) (rg_name (i := 2) (vs := [2]) (by decide)))))) (fun c d a dx hc => rs_C hc (by exact (rs_seq (rs_asg (re_ki (re_var (i := 5))) (rg_name (i := 3) (vs := [3]) (by decide))) (rs_asg (re_xf (re_var (i := 5))) (rg_name (i := 4) (vs := [4]) (by decide)))))) (hi_K2 (by decide) (by decide)))
 (rs_ret (re_tup (ra_cons (re_var (i := 2)) (ra_cons (re_var (i := 3)) (ra_cons (re_var (i := 4)) ra_nil)))))))))) h
theorem st__law_no_text (a0 a1 : A) (st : Sto) : m__law_no_text [a0, a1] st = fin (b__law_no_text [some a0, some a1, none, none, none, none] st) := rfl


/-! ### the law -/
abbrev s_law : Stmt := topS 60
theorem sc_law : FnScope ["script", "k", "bag", "turn", "steps", "lines", "step", "line"] ["script"] (defScope s_law) := ⟨rfl, rfl, rfl, by decide +kernel, rfl, by decide +kernel, by decide +kernel⟩
noncomputable def lb_law_1 : MS := (sDrop (mMeth oInsert (mVar 5) (mCons (mCall 2 m__law_take (mCons (mVar 2) (mCons (mOp oAddX (mCB oLen (mCons (mVar 5) mNil)) (mC (.int 1))) mNil))) (mCons (mC (.str "")) mNil))))
noncomputable def lb_law_2 : MS := (sSeq (sAsg (mCall 2 m__law_bag (mCons (mVar 0) (mCons (mVar 1) mNil))) (mgName 2))
 (sSeq (sAsg (mLc (miR1 (mCons (mCall 2 m__law_take (mCons (mVar 2) (mCons (mC (.int 31)) mNil))) mNil)) (mgName 3) mYes (mCall 1 m__law_any_step (mCons (mVar 2) mNil)) [3]) (mgName 4))
 (sSeq (sAsg (mLc (miL (mVar 4)) (mgName 6) mYes (mCall 1 m__law_line (mCons (mVar 6) mNil)) [6]) (mgName 5))
 (sSeq (sIf (mOrT (mTest (mOp oNeX (mCall 1 m_steps_text (mCons (mVar 4) mNil)) (mJoin (mC (.str "\n")) (mVar 5)))) (mTest (mOp oNeX (mLc (miL (mVar 4)) (mgName 6) mYes (mCall 1 m_step_text (mCons (mVar 6) mNil)) [6]) (mVar 5))))
 (sRet (mC (.bl false)))
 sNext)
 (sSeq (sIf (mOrT (mTest (mOp oNeX (mLc (miL (mVar 5)) (mgName 7) mYes (mCall 1 m_read_step (mCons (mVar 7) mNil)) [7]) (mVar 4))) (mTest (mOp oNeX (mCall 1 m_read_steps (mCons (mJoin (mC (.str "\n")) (mVar 5)) mNil)) (mVar 4))))
 (sRet (mC (.bl false)))
 sNext)
 (sSeq (sFor (miR1 (mCons (mCall 2 m__law_take (mCons (mVar 2) (mCons (mC (.int 6)) mNil))) mNil)) (mgName 3)
 lb_law_1)
 (sSeq (sIf (mTest (mOp oNeX (mCall 1 m_read_steps (mCons (mJoin (mC (.str "\n")) (mVar 5)) mNil)) (mVar 4)))
 (sRet (mC (.bl false)))
 sNext)
 (sSeq (sDrop (mMeth oInsert (mVar 5) (mCons (mCall 2 m__law_take (mCons (mVar 2) (mCons (mOp oAddX (mCB oLen (mCons (mVar 5) mNil)) (mC (.int 1))) mNil))) (mCons (mC (.str " ")) mNil))))
 (sIf (mTest (mOp oNeX (mSl oSl (mCall 2 m__law_no_text (mCons (mC (.int 2)) (mCons (mJoin (mC (.str "\n")) (mVar 5)) mNil))) (mPart (mC (.int 1))) mNoPart) (mTup (mCons (mC (.str "told NoText+")) (mCons (mOp oAddX (mIndex (mVar 5) (mCons (mC (.str " ")) mNil)) (mC (.int 1))) mNil)))))
 (sRet (mC (.bl false)))
 sNext)))))))))
noncomputable def b_law : MS := (sSeq (sIf (mOrT (mTest (mOp oNeX (mCall 1 m_steps_text (mCons (mLst mNil) mNil)) (mC (.str "")))) (mOrT (mTest (mOp oNeX (mCall 1 m_read_steps (mCons (mC (.str "")) mNil)) (mLst mNil))) (mTest (mOp oNeX (mCall 2 m__law_no_text (mCons (mC (.int 2)) (mCons (mC (.str "\n\n")) mNil))) (mTup (mCons (mLst mNil) (mCons (mC (.str "")) (mCons (mC (.int 0)) mNil))))))))
 (sRet (mC (.bl false)))
 sNext)
 (sSeq (sFor (miR1 (mCons (mOp oAddX (mC (.int 1)) (mCB oMin2 (mCons (mCB oLen (mCons (mVar 0) mNil)) (mCons (mC (.int 10)) mNil)))) mNil)) (mgName 1)
 lb_law_2)
 (sRet (mC (.bl true)))))
noncomputable def m_law : List A → Sto → Res A := runB 8 b_law
theorem st_law (a0 : A) (st : Sto) : m_law [a0] st = fin (b_law [some a0, none, none, none, none, none, none, none] st) := rfl
def splaw (K : PySem.W.Frag) : Sp := fun vs H Q _ => ∃ (a : Addr) (ns : List Int), vs = [.ref a] ∧ Only H ∧ SqL K H a (ns.map V.int) ∧ ns.length ≤ 63 ∧ ∀ H', Q (.bl true) H'
theorem law_start {w : World} {H : Hp} {a : Addr} {ns : List Int} {Q : VK} {E : XK} (ho : Only H) (hS : SqL K H a (ns.map V.int)) (h : ∃ st, m_law [.lit (ns.map A.int)] [] = .ok (.bl true) st) (q : ∀ H', Q (.bl true) H') : spN K w 1 m_law [.ref a] H Q E := by
  obtain ⟨st, e⟩ := h
  have hl : (∃ o, H a = some (.frz o (.lst (ns.map V.int)))) ∨ SqL K (fun _ => none) a (ns.map V.int) := by
    rcases hS with (h | ⟨o, h⟩) | h
    · rcases ho a with z | ⟨o, xs, z⟩
      · rw [z] at h
        cases h
      · rw [z] at h
        cases h
    · exact .inl ⟨o, h⟩
    · exact .inr (.inr h)
  refine ⟨[], [], [.lit (ns.map A.int)], rfl, ⟨rfl, List.nodup_nil, fun n a o h => by simp at h⟩, .cons (.lit hl (Rvs.ints ns)) .nil, ?_⟩
  show Post K w [] H (noX (m_law [.lit (ns.map A.int)] [])) _ _
  rw [e]
  exact fun ρ' H' e' r' v hv => by
    cases hv
    exact q H'
theorem ok_law_of (lt : ∀ ns : List Int, ns.length ≤ 63 → ∃ st, m_law [.lit (ns.map A.int)] [] = .ok (.bl true) st) {f : Addr} {fd : FuncData} (F : Fun K "law" "law" s_law f fd) (N : Fre K mg) (c__law_any_step : C8.Cal P w K mg base 3 "_law_any_step" (spN K w 1 m__law_any_step) []) (c__law_bag : C8.Cal P w K mg base 1 "_law_bag" (spN K w 2 m__law_bag) []) (c__law_line : C8.Cal P w K mg base 1 "_law_line" (spN K w 1 m__law_line) []) (c__law_no_text : C8.Cal P w K mg base 5 "_law_no_text" (spN K w 2 m__law_no_text) []) (c__law_take : C8.Cal P w K mg base 1 "_law_take" (spN K w 2 m__law_take) []) (c_read_step : C8.Cal P w K mg base 4 "read_step" (spN K w 1 m_read_step) []) (c_read_steps : C8.Cal P w K mg base 4 "read_steps" (spN K w 1 m_read_steps) []) (c_step_text : C8.Cal P w K mg base 1 "step_text" (spN K w 1 m_step_text) []) (c_steps_text : C8.Cal P w K mg base 2 "steps_text" (spN K w 1 m_steps_text) []) : FnOk P w K mg base CX0 6 f fd ["script"] (splaw K) := by
  refine F.ok sc_law (fun vs H Q E h => ?_) (fun cdv A outer s H vs Q E hr h => ?_)
  · obtain ⟨a, ns, rfl, _⟩ := h
    rfl
  · obtain ⟨a, ns, rfl, ho, hS, hlen, q⟩ := h
    refine ⟨_, (pss_cons (ps_if (PW.pt (pw_or (pt_cmpR (show OpR _ _ (rNeX K) from (dNeX hr.units)) (C8.pe_c c_steps_text hr (by decide) rfl (pa_cons (pe_lst pa_nil) pa_nil)) pe_str (nomark _)) (pw_or (pt_cmpR (show OpR _ _ (rNeX K) from (dNeX hr.units)) (C8.pe_c c_read_steps hr (by decide) rfl (pa_cons pe_str pa_nil)) (pe_lst pa_nil) (nomark _)) (pw_or1 (pt_cmpR (show OpR _ _ (rNeX K) from (dNeX hr.units)) (C8.pe_c c__law_no_text hr (by decide) rfl (pa_cons pe_int (pa_cons pe_str pa_nil))) (pe_tup (pa_cons (pe_lst pa_nil) (pa_cons pe_str (pa_cons pe_int pa_nil)))) (nomark _))))))
 (pss_one (ps_ret pe_bl))
 pss_nil)
 (pss_cons (ps_for PassesOwn.never rfl (pi_range1 (by rfl) N.range (pa_cons (pe_op (show OpR _ _ (rAddX K) from dAddX) pe_int (pe_callB (call_min2 rfl) (by rfl) N.min (by decide +kernel) (pa_cons (pe_callB (show CallR _ _ (rLenAny K) from call_lenAny) (by rfl) N.len (by decide +kernel) (pa_cons (pv 0) pa_nil)) (pa_cons pe_int pa_nil)))) pa_nil)) (pg_name (i := 1) sc_law.nd rfl (.inl rfl))
 (pss_cons (ps_set (i := 2) sc_law.nd rfl (.inr rfl) (C8.pe_c c__law_bag hr (by decide) rfl (pa_cons (pv 0) (pa_cons (pv 1) pa_nil))))
 (pss_cons (ps_setLc (i := 4) (own := [("turn", 3)]) (g := gName 3) (tt := tYes) rfl sc_law.nd rfl rfl (sw_true rfl rfl rfl (by decide +kernel)) (pi_range1 (by rfl) N.range (pa_cons (C8.pe_c c__law_take hr (by decide) rfl (pa_cons (pv 2) (pa_cons pe_int pa_nil))) pa_nil)) (blkOk_by (N := ["script", "k", "bag", "turn", "steps", "lines", "step", "line"]) (sc := defScope s_law) (by decide +kernel)) (fun _ _ _ _ _ => pg_name (i := 3) sc_law.nd rfl (Or.inl rfl)) (fun _ _ _ _ _ => pts_nil) (fun _ _ _ _ _ => (C8.pe_c c__law_any_step hr (by decide) rfl (pa_cons (pv 2) pa_nil))))
 (pss_cons (ps_setLc (i := 5) (own := [("step", 6)]) (g := gName 6) (tt := tYes) rfl sc_law.nd rfl rfl (sw_true rfl rfl rfl (by decide +kernel)) (pi_list (pv 4)) (blkOk_by (N := ["script", "k", "bag", "turn", "steps", "lines", "step", "line"]) (sc := defScope s_law) (by decide +kernel)) (fun _ _ _ _ _ => pg_name (i := 6) sc_law.nd rfl (Or.inl rfl)) (fun _ _ _ _ _ => pts_nil) (fun _ _ _ _ _ => (C8.pe_c c__law_line hr (by decide) rfl (pa_cons (pv 6) pa_nil))))
 (pss_cons (ps_if (PW.pt (pw_or (pt_cmpR (show OpR _ _ (rNeX K) from (dNeX hr.units)) (C8.pe_c c_steps_text hr (by decide) rfl (pa_cons (pv 4) pa_nil)) (pe_join pe_str (pv 5)) (nomark _)) (pw_or1 (pt_cmpR (show OpR _ _ (rNeX K) from (dNeX hr.units)) (pe_lc (own := [("step", 6)]) (g := gName 6) (tt := tYes) rfl sc_law.nd (pi_list (pv 4)) (blkOk_by (N := ["script", "k", "bag", "turn", "steps", "lines", "step", "line"]) (sc := defScope s_law) (by decide +kernel)) (fun _ _ _ _ _ => pg_name (i := 6) sc_law.nd rfl (Or.inl rfl)) (fun _ _ _ _ _ => pts_nil) (fun _ _ _ _ _ => (C8.pe_c c_step_text hr (by decide) rfl (pa_cons (pv 6) pa_nil)))) (pv 5) (nomark _)))))
 (pss_one (ps_ret pe_bl))
 pss_nil)
 (pss_cons (ps_if (PW.pt (pw_or (pt_cmpR (show OpR _ _ (rNeX K) from (dNeX hr.units)) (pe_lc (own := [("line", 7)]) (g := gName 7) (tt := tYes) rfl sc_law.nd (pi_list (pv 5)) (blkOk_by (N := ["script", "k", "bag", "turn", "steps", "lines", "step", "line"]) (sc := defScope s_law) (by decide +kernel)) (fun _ _ _ _ _ => pg_name (i := 7) sc_law.nd rfl (Or.inl rfl)) (fun _ _ _ _ _ => pts_nil) (fun _ _ _ _ _ => (C8.pe_c c_read_step hr (by decide) rfl (pa_cons (pv 7) pa_nil)))) (pv 4) (nomark _)) (pw_or1 (pt_cmpR (show OpR _ _ (rNeX K) from (dNeX hr.units)) (C8.pe_c c_read_steps hr (by decide) rfl (pa_cons (pe_join pe_str (pv 5)) pa_nil)) (pv 4) (nomark _)))))
 (pss_one (ps_ret pe_bl))
 pss_nil)
 (pss_cons (ps_for PassesOwn.never rfl (pi_range1 (by rfl) N.range (pa_cons (C8.pe_c c__law_take hr (by decide) rfl (pa_cons (pv 2) (pa_cons pe_int pa_nil))) pa_nil)) (pg_name (i := 3) sc_law.nd rfl (.inl rfl))
 (pss_one (ps_expr (pe_bm PySem.F.plainAttrs_list PySem.F.slot_list_insert PySem.F.type_list_insert mt_insert (pv 5) (pa_cons (C8.pe_c c__law_take hr (by decide) rfl (pa_cons (pv 2) (pa_cons (pe_op (show OpR _ _ (rAddX K) from dAddX) (pe_callB (show CallR _ _ (rLenAny K) from call_lenAny) (by rfl) N.len (by decide +kernel) (pa_cons (pv 5) pa_nil)) pe_int) pa_nil))) (pa_cons pe_str pa_nil))))))
 (pss_cons (ps_if (pt_cmpR (show OpR _ _ (rNeX K) from (dNeX hr.units)) (C8.pe_c c_read_steps hr (by decide) rfl (pa_cons (pe_join pe_str (pv 5)) pa_nil)) (pv 4) (nomark _))
 (pss_one (ps_ret pe_bl))
 pss_nil)
 (pss_cons (ps_expr (pe_bm PySem.F.plainAttrs_list PySem.F.slot_list_insert PySem.F.type_list_insert mt_insert (pv 5) (pa_cons (C8.pe_c c__law_take hr (by decide) rfl (pa_cons (pv 2) (pa_cons (pe_op (show OpR _ _ (rAddX K) from dAddX) (pe_callB (show CallR _ _ (rLenAny K) from call_lenAny) (by rfl) N.len (by decide +kernel) (pa_cons (pv 5) pa_nil)) pe_int) pa_nil))) (pa_cons pe_str pa_nil))))
 (pss_one (ps_if (pt_cmpR (show OpR _ _ (rNeX K) from (dNeX hr.units)) (pe_slice (show SlR _ (rSlAny K) from sl_any) (C8.pe_c c__law_no_text hr (by decide) rfl (pa_cons pe_int (pa_cons (pe_join pe_str (pv 5)) pa_nil))) (po_some pe_int) po_none) (pe_tup (pa_cons pe_str (pa_cons (pe_op (show OpR _ _ (rAddX K) from dAddX) (pe_bm PySem.F.plainAttrs_list PySem.F.slot_list_index PySem.F.type_list_index mt_index (pv 5) (pa_cons pe_str pa_nil)) pe_int) pa_nil))) (nomark _))
 (pss_one (ps_ret pe_bl))
 pss_nil)))))))))))
 (pss_one (ps_ret pe_bl)))), ?_⟩
    exact spN_body (b := b_law) (show RS K w WF _ b_law from (rs_seq (rs_if (rt_or (rt_test (re_op r2_neX (re_call (ra_cons (re_lst ra_nil) ra_nil)) re_str)) (rt_or (rt_test (re_op r2_neX (re_call (ra_cons re_str ra_nil)) (re_lst ra_nil))) (rt_test (re_op r2_neX (re_call (ra_cons re_int (ra_cons re_str ra_nil))) (re_tup (ra_cons (re_lst ra_nil) (ra_cons re_str (ra_cons re_int ra_nil))))))))
 (rs_ret re_bl)
 rs_next)
 (rs_seq (rs_for (ri_range1 (ra_cons (re_op r2_addX re_int (re_cb rl_min2 (ra_cons (re_cb rl_len (ra_cons (re_var (i := 0)) ra_nil)) (ra_cons re_int ra_nil)))) ra_nil)) (rg_name (i := 1) (vs := [1]) (by decide))
 (rs_seq (rs_asg (re_call (ra_cons (re_var (i := 0)) (ra_cons (re_var (i := 1)) ra_nil))) (rg_name (i := 2) (vs := [2]) (by decide)))
 (rs_seq (rs_asg (re_lc (ri_range1 (ra_cons (re_call (ra_cons (re_var (i := 2)) (ra_cons re_int ra_nil))) ra_nil)) (rg_name (i := 3) (vs := [3]) (by decide)) rt_yes (re_call (ra_cons (re_var (i := 2)) ra_nil))) (rg_name (i := 4) (vs := [4]) (by decide)))
 (rs_seq (rs_asg (re_lc (ri_list (re_var (i := 4))) (rg_name (i := 6) (vs := [6]) (by decide)) rt_yes (re_call (ra_cons (re_var (i := 6)) ra_nil))) (rg_name (i := 5) (vs := [5]) (by decide)))
 (rs_seq (rs_if (rt_or (rt_test (re_op r2_neX (re_call (ra_cons (re_var (i := 4)) ra_nil)) (re_join re_str (re_var (i := 5))))) (rt_test (re_op r2_neX (re_lc (ri_list (re_var (i := 4))) (rg_name (i := 6) (vs := [6]) (by decide)) rt_yes (re_call (ra_cons (re_var (i := 6)) ra_nil))) (re_var (i := 5)))))
 (rs_ret re_bl)
 rs_next)
 (rs_seq (rs_if (rt_or (rt_test (re_op r2_neX (re_lc (ri_list (re_var (i := 5))) (rg_name (i := 7) (vs := [7]) (by decide)) rt_yes (re_call (ra_cons (re_var (i := 7)) ra_nil))) (re_var (i := 4)))) (rt_test (re_op r2_neX (re_call (ra_cons (re_join re_str (re_var (i := 5))) ra_nil)) (re_var (i := 4)))))
 (rs_ret re_bl)
 rs_next)
 (rs_seq (rs_for (ri_range1 (ra_cons (re_call (ra_cons (re_var (i := 2)) (ra_cons re_int ra_nil))) ra_nil)) (rg_name (i := 3) (vs := [3]) (by decide))
 (rs_drop (re_meth rm_insert (re_var (i := 5)) (ra_cons (re_call (ra_cons (re_var (i := 2)) (ra_cons (re_op r2_addX (re_cb rl_len (ra_cons (re_var (i := 5)) ra_nil)) re_int) ra_nil))) (ra_cons re_str ra_nil)))))
 (rs_seq (rs_if (rt_test (re_op r2_neX (re_call (ra_cons (re_join re_str (re_var (i := 5))) ra_nil)) (re_var (i := 4))))
 (rs_ret re_bl)
 rs_next)
 (rs_seq (rs_drop (re_meth rm_insert (re_var (i := 5)) (ra_cons (re_call (ra_cons (re_var (i := 2)) (ra_cons (re_op r2_addX (re_cb rl_len (ra_cons (re_var (i := 5)) ra_nil)) re_int) ra_nil))) (ra_cons re_str ra_nil))))
 (rs_if (rt_test (re_op r2_neX (re_sl rsl_any (re_call (ra_cons re_int (ra_cons (re_join re_str (re_var (i := 5))) ra_nil))) (ro_some re_int) ro_none) (re_tup (ra_cons re_str (ra_cons (re_op r2_addX (re_index (re_var (i := 5)) (ra_cons re_str ra_nil)) re_int) ra_nil)))))
 (rs_ret re_bl)
 rs_next))))))))))
 (rs_ret re_bl)))) (law_start (E := E) ho hS (lt ns hlen) q)


/-! ### mirrors: a comprehension whose items draw -/
theorem lc_inv {n : Nat} {ok : Sto → Prop} {g : MG} {tt : MT} {te : ME} {env : AEnv} (I : Nat → List A → Sto → Prop) (hok : ∀ i acc S, I i acc S → ok S) : ∀ {xs : List A} {j : Nat},
    (∀ i x, xs[i]? = some x → ∀ acc S, I (j + i) acc S → ∃ e1 S1 y S2, g x env = some e1 ∧ tt e1 S = .ok true S1 ∧ te e1 S1 = .ok y S2 ∧ S2[n]? = some (.lst acc) ∧ acc.length < 16777216 ∧ I (j + i + 1) (acc ++ [y]) (S2.set n (.lst (acc ++ [y])))) →
    ∀ acc S, I j acc S → ∃ acc' S', lcL n ok g tt te env xs S = .ok (.ref n) S' ∧ I (j + xs.length) acc' S'
  | [], j, _, acc, S, h => ⟨acc, S, by
      unfold lcL
      rw [if_pos (hok _ _ _ h)], h⟩
  | x :: xs, j, hb, acc, S, h => by
    obtain ⟨e1, S1, y, S2, h1, h2, h3, h4, h5, h6⟩ := hb 0 x rfl acc S h
    obtain ⟨acc', S', h7, h8⟩ := lc_inv I hok (xs := xs) (j := j + 1) (fun i y hy acc S hI => by
      have := hb (i + 1) y (by simpa using hy) acc S (by rw [show j + (i + 1) = j + 1 + i by omega]; exact hI)
      rw [show j + (i + 1) + 1 = j + 1 + i + 1 by omega] at this
      exact this) _ _ h6
    refine ⟨acc', S', ?_, by rw [List.length_cons, show j + (xs.length + 1) = j + 1 + xs.length by omega]; exact h8⟩
    unfold lcL
    rw [if_pos (hok _ _ _ h), h1]
    simp only [h2, h3, ev_xok, ev_bok, if_true, h4]
    rw [if_pos (by rw [sizeLine_eq]; exact h5)]
    exact h7

/-! ### a name drawn -/
def alpha : Str := "abcdefghijklmnopqrstuvwxyz"
theorem alpha_all : ∀ c ∈ alpha.cps.toList, 97 ≤ c ∧ c ≤ 122 := by decide +kernel
theorem alpha_len : alpha.length = 26 ∧ alpha.cps.toList.length = 26 := by decide +kernel
def nameP (x : Str) : Prop := 1 ≤ x.length ∧ x.length ≤ 8 ∧ ∀ c ∈ x.cps.toList, 97 ≤ c ∧ c ≤ 122
def sign1 (c : Nat) : Str := ⟨#[c]⟩
theorem many_ev {st : Sto} {b : Nat} (hB : BagAt st b) : ∃ (m : Int) (S : Sto), 1 ≤ m ∧ m ≤ 8 ∧ Old b st S ∧ BagAt S b ∧
    (sAsg (mOp oAddX (mC (.int 1)) (mOp oIxD (mLst (mCons (mCall 2 m__law_take (mCons (mVar 0) (mCons (mC (.int 3)) mNil))) (mCons (mCall 2 m__law_take (mCons (mVar 0) (mCons (mC (.int 8)) mNil))) mNil))) (mCB oInt (mCons (mOp oEqX (mCall 2 m__law_take (mCons (mVar 0) (mCons (mC (.int 4)) mNil))) (mC (.int 0))) mNil)))) (mgName 1)) [some (.ref b), none, none] st = .fl (.nx [some (.ref b), some (.int m), none]) S := by
  obtain ⟨r1, S1, e1, r10, r11, o1, B1, l1⟩ := take_ev (m := 3) hB (by decide) (by decide)
  obtain ⟨r2, S2, e2, r20, r21, o2, B2, l2⟩ := take_ev (m := 8) B1 (by decide) (by decide)
  obtain ⟨r3, S3, e3, r30, r31, o3, B3, l3⟩ := take_ev (m := 4) (B2.app (.lst [.int r1, .int r2])) (by decide) (by decide)
  have hl := B2.lt
  have g3 : S3[S2.length]? = some (.lst [.int r1, .int r2]) := o3.get (List.getElem?_concat_length ..) (by omega)
  have O : Old b st S3 := ((o1.trans o2).trans (Old.app _ _ _)).trans o3
  have a0 : atI [A.int r1, A.int r2] 0 = some (.int r1) := rfl
  have a1 : atI [A.int r1, A.int r2] 1 = some (.int r2) := rfl
  by_cases h : r3 = 0
  · refine ⟨1 + r2, S3, by omega, by omega, O, B3, ?_⟩
    simp only [ev_bok, ev_bno, ev_bex, ev_tok, ev_tno, ev_tex, ev_nnx, ev_nrt, ev_nbk, ev_nct, ev_nex, ev_nno, ev_frt, ev_fnx, ev_fex, ev_xok, ev_lsome, ev_lnone, ev_seq, ev_if, ev_ret, ev_retN, ev_drop, ev_nop, ev_brk, ev_cont, ev_asgN, ev_asgT, ev_asgO, ev_mgTup, ev_mgN, ev_mgC, ev_mg0, ev_putL, ev_putO, ev_var, ev_vr, ev_c, ev_op, ev_un, ev_test, ev_tb, ev_notT, ev_andT, ev_orT, ev_ifE, ev_not, ev_nb, ev_and, ev_andK, ev_or, ev_orK, ev_chain, ev_chK, ev_nil, ev_cons, ev_tup, ev_lst, ev_new, ev_call, ev_cb, ev_size, ev_addI, ev_addS, ev_addT, ev_addL, ev_catO, ev_sub, ev_mul, ev_div, ev_mod, ev_p5, ev_p6, ev_p12, ev_p18, ev_p30, ev_neg, ev_ltI, ev_ltS, ev_leI, ev_leS, ev_gt, ev_ge, ev_eqI, ev_eqS, ev_neI, ev_neS, ev_neB, ev_eqB, ev_is, ev_isnot, ev_ixT, ev_ixS, ev_ixR, ev_ixL, ev_ixK, ev_getL, ev_getM, ev_gL, ev_gM, ev_at0, ev_at1, ev_at2, ev_at3, ev_at4, ev_lenS, ev_lenR, ev_lenT, ev_lenL, ev_lenO, ev_lenD, ev_abs, ev_min2, ev_max2, ev_intI, ev_intB, ev_set, ev_fc, ev_setset, ev_last, ev_appk, ev_app0, ev_setk, ev_set0, ev_assoc, ev_lapp, ev_lappA, ev_sl, ev_nopart, ev_part, ev_ptK, ev_slT, ev_slS, ev_slR, ev_slK, ev_tyN, ev_tyB, ev_tyI, ev_tyS, ev_tyT, ev_tyL, ev_tyR, ev_tyRL, ev_isi, ev_isi1, ev_isi2, ev_isi3, ev_isi4, ev_isi5, ev_isiT, ev_isi2K, ev_isTy, ev_list, ev_listK, ev_tuple, ev_tupK, ev_getST, ev_getSR, ev_getSL, ev_all, ev_allK, ev_eqXI, ev_eqXS, ev_neXI, ev_neXS, ev_neXB, ev_eqXB, ev_eqXR, ev_neXR, ev_nil2, ev_eqK, ev_neK, ev_meth, ev_meth0, ev_mth1, ev_mth2, ev_mth3, ev_append, ev_m0, ev_m0K, ev_str, ev_for, ev_miR1, ev_rg1K, ev_miL, ev_liK, ev_miT, ev_tiK, ev_lc, ev_wipe0, ev_wipeS, ev_yes, ev_lenSet, ev_lenSetK, ev_listR, ev_lrK, ev_put2, ev_p2A, ev_p2K, ev_p2E, ev_put1, ev_pt1, ev_addXI, ev_addXB, ev_addXS, ev_addXT, ev_addXL, ev_subXI, ev_subXB, ev_mulXI, ev_mulXB, ev_mulXL, ev_negXI, ev_negXB, ev_strXI, ev_strXB, ev_mulYI, ev_mulYB, ev_mulYL, ev_mulYT, ev_dnew, ev_dnewT, ev_dgetE, ev_getD, ev_gD, ev_keyI, ev_keyS, ev_dgK, ev_dinE, ev_diK, ev_dputE, ev_dpK, ev_dget2E, ev_isDA, ev_isSome, ev_isNone, ev_dg2K, ev_dpop2E, ev_dp2K, ev_dp3S, ev_dp3N, ev_sortedE, ev_srO1, ev_srO2, ev_gLd, ev_srKS, ev_srKI, ev_gDT, ev_gT, ev_tinE, ev_tiKK, ev_keysA, ev_keysN, ev_keysC, ev_dputTE, ev_dptK, ev_dispE, ev_mpN, ev_mpC, ev_pcK, ev_dsK, ev_dsK2, ev_lc2E, ev_imp, ev_simp, ev_split, ev_splF, ev_splG, ev_fmt, ev_fmtS, ev_fmtI, ev_addK, ev_js0, ev_js1, ev_joined, ev_star, ev_starK, ev_each2, ev_each2K, ev_unl, ev_unlK, ev_intS, ev_strYS, ev_strYI, ev_fldE, ev_getI, ev_gI, ev_fdK, ev_fldS, ev_fpK, ev_mtE, ev_miK, ev_mkE, ev_mkK, ev_callE, ev_tryAs, ev_raise0, ev_raise1, ev_raiseN, ev_revS, ev_revK, ev_zip, ev_enumF, ev_enum, ev_kget, ev_kgK, ev_index, List.getElem?_cons_zero, List.getElem?_cons_succ, List.set_cons_zero, List.set_cons_succ, List.length_cons, List.length_nil, List.cons_append, List.nil_append, if_true, if_false, Bool.false_eq_true, Bool.true_eq_false, reduceIte, Bool.not_true, Bool.not_false, Bool.and_true, Bool.true_and, Bool.and_false, Bool.false_and, Bool.or_true, Bool.true_or, Bool.or_false, Bool.false_or, decide_eq_true_eq, Nat.reduceAdd, Nat.reduceLeDiff, Nat.zero_add, Int.reduceLT, Int.reduceLE, Int.reduceEq, Int.reduceNeg, Nat.reduceEqDiff, and_self, and_true, true_and, decide_true, decide_false, eq_self, ite_true, ite_false, Int.reduceSub, Int.reduceAdd, Int.cast_ofNat_Int, Int.natCast_add, Int.cast_ofNat_Int, Nat.reduceSub, Nat.add_assoc, String.reduceBEq, String.reduceEq, Bool.or_not_self, beq_self_eq_true, e1, e2, e3, h, g3, a1]
  · refine ⟨1 + r1, S3, by omega, by omega, O, B3, ?_⟩
    simp only [ev_bok, ev_bno, ev_bex, ev_tok, ev_tno, ev_tex, ev_nnx, ev_nrt, ev_nbk, ev_nct, ev_nex, ev_nno, ev_frt, ev_fnx, ev_fex, ev_xok, ev_lsome, ev_lnone, ev_seq, ev_if, ev_ret, ev_retN, ev_drop, ev_nop, ev_brk, ev_cont, ev_asgN, ev_asgT, ev_asgO, ev_mgTup, ev_mgN, ev_mgC, ev_mg0, ev_putL, ev_putO, ev_var, ev_vr, ev_c, ev_op, ev_un, ev_test, ev_tb, ev_notT, ev_andT, ev_orT, ev_ifE, ev_not, ev_nb, ev_and, ev_andK, ev_or, ev_orK, ev_chain, ev_chK, ev_nil, ev_cons, ev_tup, ev_lst, ev_new, ev_call, ev_cb, ev_size, ev_addI, ev_addS, ev_addT, ev_addL, ev_catO, ev_sub, ev_mul, ev_div, ev_mod, ev_p5, ev_p6, ev_p12, ev_p18, ev_p30, ev_neg, ev_ltI, ev_ltS, ev_leI, ev_leS, ev_gt, ev_ge, ev_eqI, ev_eqS, ev_neI, ev_neS, ev_neB, ev_eqB, ev_is, ev_isnot, ev_ixT, ev_ixS, ev_ixR, ev_ixL, ev_ixK, ev_getL, ev_getM, ev_gL, ev_gM, ev_at0, ev_at1, ev_at2, ev_at3, ev_at4, ev_lenS, ev_lenR, ev_lenT, ev_lenL, ev_lenO, ev_lenD, ev_abs, ev_min2, ev_max2, ev_intI, ev_intB, ev_set, ev_fc, ev_setset, ev_last, ev_appk, ev_app0, ev_setk, ev_set0, ev_assoc, ev_lapp, ev_lappA, ev_sl, ev_nopart, ev_part, ev_ptK, ev_slT, ev_slS, ev_slR, ev_slK, ev_tyN, ev_tyB, ev_tyI, ev_tyS, ev_tyT, ev_tyL, ev_tyR, ev_tyRL, ev_isi, ev_isi1, ev_isi2, ev_isi3, ev_isi4, ev_isi5, ev_isiT, ev_isi2K, ev_isTy, ev_list, ev_listK, ev_tuple, ev_tupK, ev_getST, ev_getSR, ev_getSL, ev_all, ev_allK, ev_eqXI, ev_eqXS, ev_neXI, ev_neXS, ev_neXB, ev_eqXB, ev_eqXR, ev_neXR, ev_nil2, ev_eqK, ev_neK, ev_meth, ev_meth0, ev_mth1, ev_mth2, ev_mth3, ev_append, ev_m0, ev_m0K, ev_str, ev_for, ev_miR1, ev_rg1K, ev_miL, ev_liK, ev_miT, ev_tiK, ev_lc, ev_wipe0, ev_wipeS, ev_yes, ev_lenSet, ev_lenSetK, ev_listR, ev_lrK, ev_put2, ev_p2A, ev_p2K, ev_p2E, ev_put1, ev_pt1, ev_addXI, ev_addXB, ev_addXS, ev_addXT, ev_addXL, ev_subXI, ev_subXB, ev_mulXI, ev_mulXB, ev_mulXL, ev_negXI, ev_negXB, ev_strXI, ev_strXB, ev_mulYI, ev_mulYB, ev_mulYL, ev_mulYT, ev_dnew, ev_dnewT, ev_dgetE, ev_getD, ev_gD, ev_keyI, ev_keyS, ev_dgK, ev_dinE, ev_diK, ev_dputE, ev_dpK, ev_dget2E, ev_isDA, ev_isSome, ev_isNone, ev_dg2K, ev_dpop2E, ev_dp2K, ev_dp3S, ev_dp3N, ev_sortedE, ev_srO1, ev_srO2, ev_gLd, ev_srKS, ev_srKI, ev_gDT, ev_gT, ev_tinE, ev_tiKK, ev_keysA, ev_keysN, ev_keysC, ev_dputTE, ev_dptK, ev_dispE, ev_mpN, ev_mpC, ev_pcK, ev_dsK, ev_dsK2, ev_lc2E, ev_imp, ev_simp, ev_split, ev_splF, ev_splG, ev_fmt, ev_fmtS, ev_fmtI, ev_addK, ev_js0, ev_js1, ev_joined, ev_star, ev_starK, ev_each2, ev_each2K, ev_unl, ev_unlK, ev_intS, ev_strYS, ev_strYI, ev_fldE, ev_getI, ev_gI, ev_fdK, ev_fldS, ev_fpK, ev_mtE, ev_miK, ev_mkE, ev_mkK, ev_callE, ev_tryAs, ev_raise0, ev_raise1, ev_raiseN, ev_revS, ev_revK, ev_zip, ev_enumF, ev_enum, ev_kget, ev_kgK, ev_index, List.getElem?_cons_zero, List.getElem?_cons_succ, List.set_cons_zero, List.set_cons_succ, List.length_cons, List.length_nil, List.cons_append, List.nil_append, if_true, if_false, Bool.false_eq_true, Bool.true_eq_false, reduceIte, Bool.not_true, Bool.not_false, Bool.and_true, Bool.true_and, Bool.and_false, Bool.false_and, Bool.or_true, Bool.true_or, Bool.or_false, Bool.false_or, decide_eq_true_eq, Nat.reduceAdd, Nat.reduceLeDiff, Nat.zero_add, Int.reduceLT, Int.reduceLE, Int.reduceEq, Int.reduceNeg, Nat.reduceEqDiff, and_self, and_true, true_and, decide_true, decide_false, eq_self, ite_true, ite_false, Int.reduceSub, Int.reduceAdd, Int.cast_ofNat_Int, Int.natCast_add, Int.cast_ofNat_Int, Nat.reduceSub, Nat.add_assoc, String.reduceBEq, String.reduceEq, Bool.or_not_self, beq_self_eq_true, e1, e2, e3, h, g3, a0, decide_false]
theorem join_signs (cs : List Nat) : Txt.join (Str.ofString "") (cs.map sign1) = (⟨cs.toArray⟩ : Str) := by
  rw [eq_of_beq (PyProof.Rows.join_plain_closes (Str.ofString "") (cs.map sign1))]
  have h := PyProof.Rows.join_nil_signs (⟨cs.toArray⟩ : Str)
  have e : PyProof.Rows.signs (⟨cs.toArray⟩ : Str) = cs.map sign1 := by
    unfold PyProof.Rows.signs
    simp [sign1]
  rw [e] at h
  exact h
theorem strsOf_map : ∀ xs : List Str, strsOf (xs.map A.str) = some xs
  | [] => rfl
  | x :: xs => by simp only [List.map_cons, strsOf, strsOf_map xs, Option.map_some]
theorem sum_ones : ∀ cs : List Nat, ((cs.map sign1).map (·.length)).sum = cs.length
  | [] => rfl
  | c :: cs => by
    rw [List.map_cons, List.map_cons, List.sum_cons, sum_ones cs, List.length_cons]
    show 1 + cs.length = _
    omega
theorem rngL {n : Nat} : (rngA 0 n).length = n := by
  unfold rngA
  rw [List.length_map, List.length_range]
theorem name_ev {st : Sto} {b : Nat} (hB : BagAt st b) : ∃ x st', m__law_name [.ref b] st = .ok (.str x) st' ∧ nameP x ∧ Old b st st' ∧ BagAt st' b := by
  obtain ⟨m, S, m1, m8, O, B, e⟩ := many_ev hB
  have hl := B.lt
  obtain ⟨acc, S', e2, cs, rfl, hcs, hlen, O2, B2, g2⟩ := lc_inv (n := S.length) (ok := okT) (g := mgName 2) (tt := mYes) (te := mOp oIxD (mC (.str "abcdefghijklmnopqrstuvwxyz")) (mCall 2 m__law_take (mCons (mVar 0) (mCons (mC (.int 26)) mNil)))) (env := [some (.ref b), some (.int m), none])
    (fun i acc T => ∃ cs : List Nat, acc = cs.map (fun c => A.str (sign1 c)) ∧ (∀ c ∈ cs, 97 ≤ c ∧ c ≤ 122) ∧ cs.length = i ∧ Old b S T ∧ BagAt T b ∧ T[S.length]? = some (.lst acc)) (fun _ _ _ _ => trivial) (xs := rngA 0 m.toNat) (j := 0)
    (fun i x hx acc T hI => by
      obtain ⟨cs, rfl, hcs, hlen, O1, B1, g1⟩ := hI
      have hi : i < m.toNat := by
        have := (List.getElem?_eq_some_iff.mp hx).1
        unfold rngA at this
        rw [List.length_map, List.length_range] at this
        exact this
      obtain ⟨r, T1, e1, r0, r1, o1, B2, l2⟩ := take_ev (m := 26) B1 (by decide) (by decide)
      have hk : r.toNat < alpha.cps.toList.length := by rw [alpha_len.2]; omega
      have hat : atI alpha.cps.toList r = some alpha.cps.toList[r.toNat] := by
        obtain ⟨q, rfl⟩ : ∃ q : Nat, r = (q : Int) := ⟨r.toNat, by omega⟩
        exact atI_nat (List.getElem?_eq_getElem hk)
      have g2 := o1.get g1 (by omega)
      have hlt := (List.getElem?_eq_some_iff.mp g2).1
      refine ⟨_, T, .str (sign1 alpha.cps.toList[r.toNat]), T1, rfl, rfl, ?_, g2, by rw [List.length_map]; omega, cs ++ [alpha.cps.toList[r.toNat]], by rw [List.map_append]; rfl, fun c hc => ?_, by rw [List.length_append, List.length_singleton]; omega, (O1.trans o1).putNew (Nat.le_refl _), B2.put _ (by omega), List.getElem?_set_self hlt⟩
      · have al : (Str.ofString "abcdefghijklmnopqrstuvwxyz") = alpha := rfl
        have ll : (alpha.length ≤ 16777216) = True := eq_true (by rw [alpha_len.1]; decide)
        simp only [ev_bok, ev_bno, ev_bex, ev_tok, ev_tno, ev_tex, ev_nnx, ev_nrt, ev_nbk, ev_nct, ev_nex, ev_nno, ev_frt, ev_fnx, ev_fex, ev_xok, ev_lsome, ev_lnone, ev_seq, ev_if, ev_ret, ev_retN, ev_drop, ev_nop, ev_brk, ev_cont, ev_asgN, ev_asgT, ev_asgO, ev_mgTup, ev_mgN, ev_mgC, ev_mg0, ev_putL, ev_putO, ev_var, ev_vr, ev_c, ev_op, ev_un, ev_test, ev_tb, ev_notT, ev_andT, ev_orT, ev_ifE, ev_not, ev_nb, ev_and, ev_andK, ev_or, ev_orK, ev_chain, ev_chK, ev_nil, ev_cons, ev_tup, ev_lst, ev_new, ev_call, ev_cb, ev_size, ev_addI, ev_addS, ev_addT, ev_addL, ev_catO, ev_sub, ev_mul, ev_div, ev_mod, ev_p5, ev_p6, ev_p12, ev_p18, ev_p30, ev_neg, ev_ltI, ev_ltS, ev_leI, ev_leS, ev_gt, ev_ge, ev_eqI, ev_eqS, ev_neI, ev_neS, ev_neB, ev_eqB, ev_is, ev_isnot, ev_ixT, ev_ixS, ev_ixR, ev_ixL, ev_ixK, ev_getL, ev_getM, ev_gL, ev_gM, ev_at0, ev_at1, ev_at2, ev_at3, ev_at4, ev_lenS, ev_lenR, ev_lenT, ev_lenL, ev_lenO, ev_lenD, ev_abs, ev_min2, ev_max2, ev_intI, ev_intB, ev_set, ev_fc, ev_setset, ev_last, ev_appk, ev_app0, ev_setk, ev_set0, ev_assoc, ev_lapp, ev_lappA, ev_sl, ev_nopart, ev_part, ev_ptK, ev_slT, ev_slS, ev_slR, ev_slK, ev_tyN, ev_tyB, ev_tyI, ev_tyS, ev_tyT, ev_tyL, ev_tyR, ev_tyRL, ev_isi, ev_isi1, ev_isi2, ev_isi3, ev_isi4, ev_isi5, ev_isiT, ev_isi2K, ev_isTy, ev_list, ev_listK, ev_tuple, ev_tupK, ev_getST, ev_getSR, ev_getSL, ev_all, ev_allK, ev_eqXI, ev_eqXS, ev_neXI, ev_neXS, ev_neXB, ev_eqXB, ev_eqXR, ev_neXR, ev_nil2, ev_eqK, ev_neK, ev_meth, ev_meth0, ev_mth1, ev_mth2, ev_mth3, ev_append, ev_m0, ev_m0K, ev_str, ev_for, ev_miR1, ev_rg1K, ev_miL, ev_liK, ev_miT, ev_tiK, ev_lc, ev_wipe0, ev_wipeS, ev_yes, ev_lenSet, ev_lenSetK, ev_listR, ev_lrK, ev_put2, ev_p2A, ev_p2K, ev_p2E, ev_put1, ev_pt1, ev_addXI, ev_addXB, ev_addXS, ev_addXT, ev_addXL, ev_subXI, ev_subXB, ev_mulXI, ev_mulXB, ev_mulXL, ev_negXI, ev_negXB, ev_strXI, ev_strXB, ev_mulYI, ev_mulYB, ev_mulYL, ev_mulYT, ev_dnew, ev_dnewT, ev_dgetE, ev_getD, ev_gD, ev_keyI, ev_keyS, ev_dgK, ev_dinE, ev_diK, ev_dputE, ev_dpK, ev_dget2E, ev_isDA, ev_isSome, ev_isNone, ev_dg2K, ev_dpop2E, ev_dp2K, ev_dp3S, ev_dp3N, ev_sortedE, ev_srO1, ev_srO2, ev_gLd, ev_srKS, ev_srKI, ev_gDT, ev_gT, ev_tinE, ev_tiKK, ev_keysA, ev_keysN, ev_keysC, ev_dputTE, ev_dptK, ev_dispE, ev_mpN, ev_mpC, ev_pcK, ev_dsK, ev_dsK2, ev_lc2E, ev_imp, ev_simp, ev_split, ev_splF, ev_splG, ev_fmt, ev_fmtS, ev_fmtI, ev_addK, ev_js0, ev_js1, ev_joined, ev_star, ev_starK, ev_each2, ev_each2K, ev_unl, ev_unlK, ev_intS, ev_strYS, ev_strYI, ev_fldE, ev_getI, ev_gI, ev_fdK, ev_fldS, ev_fpK, ev_mtE, ev_miK, ev_mkE, ev_mkK, ev_callE, ev_tryAs, ev_raise0, ev_raise1, ev_raiseN, ev_revS, ev_revK, ev_zip, ev_enumF, ev_enum, ev_kget, ev_kgK, ev_index, List.getElem?_cons_zero, List.getElem?_cons_succ, List.set_cons_zero, List.set_cons_succ, List.length_cons, List.length_nil, List.cons_append, List.nil_append, if_true, if_false, Bool.false_eq_true, Bool.true_eq_false, reduceIte, Bool.not_true, Bool.not_false, Bool.and_true, Bool.true_and, Bool.and_false, Bool.false_and, Bool.or_true, Bool.true_or, Bool.or_false, Bool.false_or, decide_eq_true_eq, Nat.reduceAdd, Nat.reduceLeDiff, Nat.zero_add, Int.reduceLT, Int.reduceLE, Int.reduceEq, Int.reduceNeg, Nat.reduceEqDiff, and_self, and_true, true_and, decide_true, decide_false, eq_self, ite_true, ite_false, Int.reduceSub, Int.reduceAdd, Int.cast_ofNat_Int, Int.natCast_add, Int.cast_ofNat_Int, Nat.reduceSub, Nat.add_assoc, String.reduceBEq, String.reduceEq, Bool.or_not_self, beq_self_eq_true, e1, al, ll, hat, Option.map_some]
        rfl
      · rcases List.mem_append.mp hc with hc | hc
        · exact hcs c hc
        · rw [List.mem_singleton.mp hc]
          exact alpha_all _ (List.getElem_mem hk)) [] (S ++ [.lst []]) ⟨[], rfl, by simp, rfl, Old.app _ _ _, B.app _, List.getElem?_concat_length ..⟩
  rw [Nat.zero_add, rngL] at hlen
  have es : strsOf (cs.map fun c => A.str (sign1 c)) = some (cs.map sign1) := by
    rw [← strsOf_map, List.map_map]
    rfl
  have gs : getS S' (.ref S.length) = some (cs.map fun c => A.str (sign1 c)) := by
    show gL S'[S.length]? = _
    rw [g2]
    rfl
  refine ⟨⟨cs.toArray⟩, S', ?_, ⟨?_, ?_, ?_⟩, O.trans O2, B2⟩
  · rw [st__law_name]
    unfold b__law_name
    have c1 : (-(2 ^ 62) ≤ m ∧ m < 2 ^ 62) = True := eq_true ⟨by omega, by omega⟩
    have ej : mJoin (mC (.str "")) (mLc (miR1 (mCons (mVar 1) mNil)) (mgName 2) mYes (mOp oIxD (mC (.str "abcdefghijklmnopqrstuvwxyz")) (mCall 2 m__law_take (mCons (mVar 0) (mCons (mC (.int 26)) mNil)))) [2]) [some (.ref b), some (.int m), none] S = .ok (.str ⟨cs.toArray⟩) S' := by
      have el : mLc (miR1 (mCons (mVar 1) mNil)) (mgName 2) mYes (mOp oIxD (mC (.str "abcdefghijklmnopqrstuvwxyz")) (mCall 2 m__law_take (mCons (mVar 0) (mCons (mC (.int 26)) mNil)))) [2] [some (.ref b), some (.int m), none] S = .ok (.ref S.length) S' := by
        simp only [ev_bok, ev_bno, ev_bex, ev_tok, ev_tno, ev_tex, ev_nnx, ev_nrt, ev_nbk, ev_nct, ev_nex, ev_nno, ev_frt, ev_fnx, ev_fex, ev_xok, ev_lsome, ev_lnone, ev_seq, ev_if, ev_ret, ev_retN, ev_drop, ev_nop, ev_brk, ev_cont, ev_asgN, ev_asgT, ev_asgO, ev_mgTup, ev_mgN, ev_mgC, ev_mg0, ev_putL, ev_putO, ev_var, ev_vr, ev_c, ev_op, ev_un, ev_test, ev_tb, ev_notT, ev_andT, ev_orT, ev_ifE, ev_not, ev_nb, ev_and, ev_andK, ev_or, ev_orK, ev_chain, ev_chK, ev_nil, ev_cons, ev_tup, ev_lst, ev_new, ev_call, ev_cb, ev_size, ev_addI, ev_addS, ev_addT, ev_addL, ev_catO, ev_sub, ev_mul, ev_div, ev_mod, ev_p5, ev_p6, ev_p12, ev_p18, ev_p30, ev_neg, ev_ltI, ev_ltS, ev_leI, ev_leS, ev_gt, ev_ge, ev_eqI, ev_eqS, ev_neI, ev_neS, ev_neB, ev_eqB, ev_is, ev_isnot, ev_ixT, ev_ixS, ev_ixR, ev_ixL, ev_ixK, ev_getL, ev_getM, ev_gL, ev_gM, ev_at0, ev_at1, ev_at2, ev_at3, ev_at4, ev_lenS, ev_lenR, ev_lenT, ev_lenL, ev_lenO, ev_lenD, ev_abs, ev_min2, ev_max2, ev_intI, ev_intB, ev_set, ev_fc, ev_setset, ev_last, ev_appk, ev_app0, ev_setk, ev_set0, ev_assoc, ev_lapp, ev_lappA, ev_sl, ev_nopart, ev_part, ev_ptK, ev_slT, ev_slS, ev_slR, ev_slK, ev_tyN, ev_tyB, ev_tyI, ev_tyS, ev_tyT, ev_tyL, ev_tyR, ev_tyRL, ev_isi, ev_isi1, ev_isi2, ev_isi3, ev_isi4, ev_isi5, ev_isiT, ev_isi2K, ev_isTy, ev_list, ev_listK, ev_tuple, ev_tupK, ev_getST, ev_getSR, ev_getSL, ev_all, ev_allK, ev_eqXI, ev_eqXS, ev_neXI, ev_neXS, ev_neXB, ev_eqXB, ev_eqXR, ev_neXR, ev_nil2, ev_eqK, ev_neK, ev_meth, ev_meth0, ev_mth1, ev_mth2, ev_mth3, ev_append, ev_m0, ev_m0K, ev_str, ev_for, ev_miR1, ev_rg1K, ev_miL, ev_liK, ev_miT, ev_tiK, ev_lc, ev_wipe0, ev_wipeS, ev_yes, ev_lenSet, ev_lenSetK, ev_listR, ev_lrK, ev_put2, ev_p2A, ev_p2K, ev_p2E, ev_put1, ev_pt1, ev_addXI, ev_addXB, ev_addXS, ev_addXT, ev_addXL, ev_subXI, ev_subXB, ev_mulXI, ev_mulXB, ev_mulXL, ev_negXI, ev_negXB, ev_strXI, ev_strXB, ev_mulYI, ev_mulYB, ev_mulYL, ev_mulYT, ev_dnew, ev_dnewT, ev_dgetE, ev_getD, ev_gD, ev_keyI, ev_keyS, ev_dgK, ev_dinE, ev_diK, ev_dputE, ev_dpK, ev_dget2E, ev_isDA, ev_isSome, ev_isNone, ev_dg2K, ev_dpop2E, ev_dp2K, ev_dp3S, ev_dp3N, ev_sortedE, ev_srO1, ev_srO2, ev_gLd, ev_srKS, ev_srKI, ev_gDT, ev_gT, ev_tinE, ev_tiKK, ev_keysA, ev_keysN, ev_keysC, ev_dputTE, ev_dptK, ev_dispE, ev_mpN, ev_mpC, ev_pcK, ev_dsK, ev_dsK2, ev_lc2E, ev_imp, ev_simp, ev_split, ev_splF, ev_splG, ev_fmt, ev_fmtS, ev_fmtI, ev_addK, ev_js0, ev_js1, ev_joined, ev_star, ev_starK, ev_each2, ev_each2K, ev_unl, ev_unlK, ev_intS, ev_strYS, ev_strYI, ev_fldE, ev_getI, ev_gI, ev_fdK, ev_fldS, ev_fpK, ev_mtE, ev_miK, ev_mkE, ev_mkK, ev_callE, ev_tryAs, ev_raise0, ev_raise1, ev_raiseN, ev_revS, ev_revK, ev_zip, ev_enumF, ev_enum, ev_kget, ev_kgK, ev_index, List.getElem?_cons_zero, List.getElem?_cons_succ, List.set_cons_zero, List.set_cons_succ, List.length_cons, List.length_nil, List.cons_append, List.nil_append, if_true, if_false, Bool.false_eq_true, Bool.true_eq_false, reduceIte, Bool.not_true, Bool.not_false, Bool.and_true, Bool.true_and, Bool.and_false, Bool.false_and, Bool.or_true, Bool.true_or, Bool.or_false, Bool.false_or, decide_eq_true_eq, Nat.reduceAdd, Nat.reduceLeDiff, Nat.zero_add, Int.reduceLT, Int.reduceLE, Int.reduceEq, Int.reduceNeg, Nat.reduceEqDiff, and_self, and_true, true_and, decide_true, decide_false, eq_self, ite_true, ite_false, Int.reduceSub, Int.reduceAdd, Int.cast_ofNat_Int, Int.natCast_add, Int.cast_ofNat_Int, Nat.reduceSub, Nat.add_assoc, String.reduceBEq, String.reduceEq, Bool.or_not_self, beq_self_eq_true, c1]
        exact e2
      show ((mLc (miR1 (mCons (mVar 1) mNil)) (mgName 2) mYes (mOp oIxD (mC (.str "abcdefghijklmnopqrstuvwxyz")) (mCall 2 m__law_take (mCons (mVar 0) (mCons (mC (.int 26)) mNil)))) [2] [some (.ref b), some (.int m), none] S).bind fun a s => joinK (Str.ofString "") ((getS s a).bind strsOf) s) = _
      rw [el]
      show joinK (Str.ofString "") ((getS S' (.ref S.length)).bind strsOf) S' = _
      rw [gs]
      show joinK (Str.ofString "") (strsOf (cs.map fun c => A.str (sign1 c))) S' = _
      rw [es]
      show (if ((cs.map sign1).map (·.length)).sum + (cs.map sign1).length * (Str.ofString "").length ≤ 16777216 then (.ok (.str (Txt.join (Str.ofString "") (cs.map sign1))) S' : Res A) else .no) = _
      rw [if_pos (by rw [sum_ones]; show cs.length + _ * 0 ≤ _; omega), join_signs]
    rw [ev_seq, e, ev_nnx, ev_ret, ej]
    rfl
  · show 1 ≤ cs.toArray.size
    rw [List.size_toArray]
    omega
  · show cs.toArray.size ≤ 8
    rw [List.size_toArray]
    omega
  · intro c hc
    exact hcs c (by simpa using hc)

/-! ### mirrors: what a loop keeps -/
theorem forL_inv {ok : Sto → Prop} {g : MG} {b : MS} (I : Nat → AEnv → Sto → Prop) (hok : ∀ i env S, I i env S → ok S) : ∀ {xs : List A} {j : Nat}, (∀ i x, xs[i]? = some x → ∀ env S, I (j + i) env S → ∃ e1 e2 S', g x env = some e1 ∧ b e1 S = .fl (.nx e2) S' ∧ I (j + i + 1) e2 S') →
    ∀ env S, I j env S → ∃ e2 S', forL ok g b xs env S = .fl (.nx e2) S' ∧ I (j + xs.length) e2 S'
  | [], j, _, env, S, h => ⟨env, S, by
      unfold forL
      rw [if_pos (hok _ _ _ h)], h⟩
  | x :: xs, j, hb, env, S, h => by
    obtain ⟨e1, e2, S', h1, h2, h3⟩ := hb 0 x rfl env S h
    obtain ⟨e3, S3, h4, h5⟩ := forL_inv I hok (xs := xs) (j := j + 1) (fun i y hy env S hI => by
      have := hb (i + 1) y (by simpa using hy) env S (by rw [show j + (i + 1) = j + 1 + i by omega]; exact hI)
      rw [show j + (i + 1) + 1 = j + 1 + i + 1 by omega] at this
      exact this) e2 S' h3
    refine ⟨e3, S3, ?_, by rw [List.length_cons, show j + (xs.length + 1) = j + 1 + xs.length by omega]; exact h5⟩
    unfold forL
    rw [if_pos (hok _ _ _ h), h1]
    simp only [h2]
    exact h4
theorem whileF_inv {c : MT} {b : MS} (J : Nat → AEnv → Sto → Prop) (h0 : ∀ env S, J 0 env S → ∃ S', c env S = .ok false S' ∧ J 0 env S') (hs : ∀ k env S, J (k + 1) env S → ∃ S' e2 S2, c env S = .ok true S' ∧ b env S' = .fl (.nx e2) S2 ∧ J k e2 S2) : ∀ (k fuel : Nat) (env : AEnv) (S : Sto), k < fuel → J k env S → ∃ e2 S2, whileF c b fuel env S = .fl (.nx e2) S2 ∧ J 0 e2 S2
  | 0, fuel + 1, env, S, _, h => by
    obtain ⟨S', e, h'⟩ := h0 env S h
    refine ⟨env, S', ?_, h'⟩
    unfold whileF
    rw [e]
    rfl
  | k + 1, fuel + 1, env, S, hf, h => by
    obtain ⟨S', e2, S2, e, eb, h'⟩ := hs k env S h
    obtain ⟨e3, S3, ew, hJ⟩ := whileF_inv J h0 hs k fuel e2 S2 (by omega) h'
    refine ⟨e3, S3, ?_, hJ⟩
    unfold whileF
    rw [e]
    simp only [ev_tok, if_true, eb]
    exact ew
  | _, 0, _, _, hf, _ => by omega
theorem pickI {ns : List Int} {i : Int} (h0 : 0 ≤ i) (h1 : i < ns.length) : ∃ m, m ∈ ns ∧ atI (ns.map A.int) i = some (.int m) ∧ ns[i.toNat]? = some m := by
  obtain ⟨k, rfl⟩ : ∃ k : Nat, i = (k : Int) := ⟨i.toNat, by omega⟩
  have hk : k < ns.length := by omega
  exact ⟨ns[k], List.getElem_mem hk, atI_nat (by rw [List.getElem?_map, List.getElem?_eq_getElem hk]; rfl), by rw [Int.toNat_natCast]; exact List.getElem?_eq_getElem hk⟩
theorem atI_end {xs : List A} {x : A} : atI (xs ++ [x]) (-1) = some x := by
  unfold atI ixN
  rw [if_neg (by decide), if_pos (by rw [List.length_append, List.length_singleton]; omega), List.length_append, List.length_singleton]
  show (xs ++ [x])[(-1 + ((xs.length + 1 : Nat) : Int)).toNat]? = _
  have : (-1 + ((xs.length + 1 : Nat) : Int)).toNat = xs.length := by omega
  rw [this]
  simp

/-! ### data of any kind, as it stands in a store -/
def asc (x : Str) : Bool := x.cps.all (· < 128)
def gs (s : Nat) : A → Prop
  | .non => True
  | .bl _ => True
  | .int i => i.natAbs < 2 ^ (100 + 8 * s)
  | .str x => asc x = true ∧ x.length ≤ 64 * 4 ^ s
  | _ => False
/-- data of depth k at most; s tells how great it may be; the bag is no part of it -/
def gd (st : Sto) (E : Nat → Prop) (s : Nat) : Nat → A → Prop
  | 0, a => gs s a
  | k + 1, a => gs s a ∨ (∃ xs, a = .tup xs ∧ xs.length ≤ 70 + s ∧ ∀ x ∈ xs, gd st E s k x) ∨ ∃ n xs, a = .ref n ∧ ¬ E n ∧ st[n]? = some (.lst xs) ∧ xs.length ≤ 70 + s ∧ ∀ x ∈ xs, gd st E s k x
theorem gs_up {s : Nat} {a : A} (h : gs s a) : gs (s + 1) a := by
  cases a with
  | non => trivial
  | bl _ => trivial
  | int i => exact Nat.lt_of_lt_of_le (show i.natAbs < _ from h) (Nat.pow_le_pow_right (by decide) (by omega))
  | str x => exact ⟨h.1, Nat.le_trans h.2 (by rw [Nat.pow_succ]; omega)⟩
  | _ => exact h
theorem gd_up {st : Sto} {E : Nat → Prop} {s : Nat} : ∀ {k : Nat} {a : A}, gd st E s k a → gd st E (s + 1) k a
  | 0, _, h => gs_up h
  | k + 1, _, h => by
    rcases h with h | ⟨xs, e, h1, h2⟩ | ⟨n, xs, e, h0, h1, h2, h3⟩
    · exact .inl (gs_up h)
    · exact .inr (.inl ⟨xs, e, by omega, fun x hx => gd_up (h2 x hx)⟩)
    · exact .inr (.inr ⟨n, xs, e, h0, h1, by omega, fun x hx => gd_up (h3 x hx)⟩)
theorem gd_ups {st : Sto} {E : Nat → Prop} {s : Nat} {k : Nat} {a : A} (h : gd st E s k a) : ∀ {s' : Nat}, s ≤ s' → gd st E s' k a
  | s', hs => by
    obtain ⟨d, rfl⟩ := Nat.exists_eq_add_of_le hs
    clear hs
    induction d with
    | zero => exact h
    | succ d ih => exact gd_up ih
theorem gd_s {st : Sto} {E : Nat → Prop} {s : Nat} : ∀ {k : Nat} {a : A}, gs s a → gd st E s k a
  | 0, _, h => h
  | _ + 1, _, h => .inl h
theorem gd_deep {st : Sto} {E : Nat → Prop} {s : Nat} : ∀ {k : Nat} {a : A}, gd st E s k a → gd st E s (k + 1) a
  | 0, _, h => .inl h
  | k + 1, _, h => by
    rcases h with h | ⟨xs, e, h1, h2⟩ | ⟨n, xs, e, h0, h1, h2, h3⟩
    · exact .inl h
    · exact .inr (.inl ⟨xs, e, h1, fun x hx => gd_deep (h2 x hx)⟩)
    · exact .inr (.inr ⟨n, xs, e, h0, h1, h2, fun x hx => gd_deep (h3 x hx)⟩)
theorem gd_deeps {st : Sto} {E : Nat → Prop} {s : Nat} {k : Nat} {a : A} (h : gd st E s k a) : ∀ {k' : Nat}, k ≤ k' → gd st E s k' a
  | k', hs => by
    obtain ⟨d, rfl⟩ := Nat.exists_eq_add_of_le hs
    clear hs
    induction d with
    | zero => exact h
    | succ d ih => exact gd_deep ih
theorem gd_old {st st' : Sto} {b : Nat} {E : Nat → Prop} {s : Nat} (hE : E b) (o : Old b st st') : ∀ {k : Nat} {a : A}, gd st E s k a → gd st' E s k a
  | 0, _, h => h
  | k + 1, _, h => by
    rcases h with h | ⟨xs, e, h1, h2⟩ | ⟨n, xs, e, h0, h1, h2, h3⟩
    · exact .inl h
    · exact .inr (.inl ⟨xs, e, h1, fun x hx => gd_old hE o (h2 x hx)⟩)
    · exact .inr (.inr ⟨n, xs, e, h0, o.get h1 (fun z => h0 (z ▸ hE)), h2, fun x hx => gd_old hE o (h3 x hx)⟩)
/-- its kind -/
theorem gd_ty {st : Sto} {E : Nat → Prop} {s k : Nat} {a : A} (h : gd st E s k a) : ∃ t, tyA st a = some t := by
  have one : gs s a → ∃ t, tyA st a = some t := fun h => by
    cases a with
    | non => exact ⟨_, rfl⟩
    | bl _ => exact ⟨_, rfl⟩
    | int _ => exact ⟨_, rfl⟩
    | str _ => exact ⟨_, rfl⟩
    | _ => exact h.elim
  cases k with
  | zero => exact one h
  | succ k =>
    rcases h with h | ⟨xs, rfl, h1, h2⟩ | ⟨n, xs, rfl, h0, h1, h2, h3⟩
    · exact one h
    · exact ⟨_, rfl⟩
    · exact ⟨"list", by simp only [tyA, h1]⟩
/-! texts of signs below 128 -/
theorem asc_mem {x : Str} : asc x = true ↔ ∀ c ∈ x.cps.toList, c < 128 := by
  unfold asc
  rw [Array.all_eq_true_iff_forall_mem]
  simp
theorem asc_app {x y : Str} (hx : asc x = true) (hy : asc y = true) : asc (x ++ y) = true := by
  rw [asc_mem] at hx hy ⊢
  intro c hc
  have : (x ++ y).cps = x.cps ++ y.cps := rfl
  rw [this, Array.toList_append, List.mem_append] at hc
  rcases hc with hc | hc
  · exact hx c hc
  · exact hy c hc
theorem len_app (x y : Str) : (x ++ y).length = x.length + y.length := by
  show (x.cps ++ y.cps).size = _
  rw [Array.size_append]
  rfl
theorem upper_one : ∀ c < 128, ∀ d ∈ Unicode.upperOf c, d < 128 := by decide +kernel
theorem asc_upper {x : Str} (hx : asc x = true) : asc (Txt.upper x) = true := by
  rw [asc_mem] at hx ⊢
  intro c hc
  have hc : c ∈ placed x fun _ c => Unicode.upperOf c := by
    rw [← Array.mem_toList_iff]
    exact hc
  unfold placed at hc
  rw [Array.mem_flatten] at hc
  obtain ⟨ys, h1, h2⟩ := hc
  rw [Array.mem_mapIdx] at h1
  obtain ⟨i, hi, rfl⟩ := h1
  exact upper_one _ (hx x.cps[i] (by simp)) _ (by simpa using h2)
theorem gs_word {s : Nat} {x : Str} (h : asc x = true) (h2 : x.length ≤ 64) : gs s (.str x) := ⟨h, Nat.le_trans h2 (Nat.le_mul_of_pos_right 64 (Nat.pow_pos (by decide)))⟩
theorem gs_num {s : Nat} {i : Int} (h : i.natAbs < 2 ^ 100) : gs s (.int i) := Nat.lt_of_lt_of_le h (Nat.pow_le_pow_right (by decide) (by omega))
theorem gd_tup {st : Sto} {E : Nat → Prop} {s k : Nat} {xs : List A} (h : xs.length ≤ 70 + s) (h2 : ∀ x ∈ xs, gd st E s k x) : gd st E s (k + 1) (.tup xs) := .inr (.inl ⟨xs, rfl, h, h2⟩)
theorem gd_ref {st : Sto} {E : Nat → Prop} {s k n : Nat} {xs : List A} (nb : ¬ E n) (e : st[n]? = some (.lst xs)) (h : xs.length ≤ 70 + s) (h2 : ∀ x ∈ xs, gd st E s k x) : gd st E s (k + 1) (.ref n) := .inr (.inr ⟨n, xs, rfl, nb, e, h, h2⟩)
theorem at_pick {xs : List A} {i : Int} (h0 : 0 ≤ i) (h1 : i < xs.length) : ∃ a, atI xs i = some a ∧ a ∈ xs ∧ xs[i.toNat]? = some a := by
  obtain ⟨k, rfl⟩ : ∃ k : Nat, i = (k : Int) := ⟨i.toNat, by omega⟩
  have hk : k < xs.length := by omega
  exact ⟨xs[k], atI_nat (List.getElem?_eq_getElem hk), List.getElem_mem hk, by rw [Int.toNat_natCast]; exact List.getElem?_eq_getElem hk⟩

/-! ### a thing with one part spoilt -/
theorem cutA_to (xs : List A) {i : Int} (h0 : 0 ≤ i) : cutA xs none (some i) = xs.take i.toNat := by
  obtain ⟨k, rfl⟩ : ∃ k : Nat, i = (k : Int) := ⟨i.toNat, by omega⟩
  unfold cutA
  rw [HT.sIx_none, HT.sIx_nat]
  have e3 : ((k : Nat) : Int).toNat = k := by omega
  rw [e3, Nat.sub_zero]
  show (xs.drop 0).take (min k xs.length) = xs.take k
  rw [List.drop_zero]
  by_cases h : k ≤ xs.length
  · rw [Nat.min_eq_left h]
  · rw [Nat.min_eq_right (by omega), List.take_of_length_le (Nat.le_refl _), List.take_of_length_le (by omega)]
theorem cutA_from (xs : List A) {i : Int} (h0 : 0 ≤ i) : cutA xs (some i) none = xs.drop i.toNat := by
  obtain ⟨k, rfl⟩ : ∃ k : Nat, i = (k : Int) := ⟨i.toNat, by omega⟩
  unfold cutA
  rw [HT.sIx_none, HT.sIx_nat]
  have e3 : ((k : Nat) : Int).toNat = k := by omega
  rw [e3]
  by_cases h : k ≤ xs.length
  · rw [Nat.min_eq_left h]
    exact List.take_of_length_le (by rw [List.length_drop]; exact Nat.le_refl _)
  · rw [Nat.min_eq_right (by omega), List.drop_of_length_le (Nat.le_refl _), List.drop_of_length_le (by omega), List.take_nil]
theorem mem_erase1 {xs : List A} {k : Nat} {x : A} (h : x ∈ xs.take k ++ xs.drop (k + 1)) : x ∈ xs := by
  rcases List.mem_append.mp h with h | h
  · exact List.mem_of_mem_take h
  · exact List.mem_of_mem_drop h
theorem mem_twice {xs : List A} {k : Nat} {x : A} (h : x ∈ xs.take (k + 1) ++ xs.drop k) : x ∈ xs := by
  rcases List.mem_append.mp h with h | h
  · exact List.mem_of_mem_take h
  · exact List.mem_of_mem_drop h
theorem ixN_is {n : Nat} {i : Int} (h0 : 0 ≤ i) (h1 : i < n) : ixN n i = some i.toNat := by
  unfold ixN
  rw [if_pos h0, if_pos h1]
theorem pow_len {s n : Nat} (hs : s ≤ 12) (h : n ≤ 64 * 4 ^ s) : n ≤ 16777216 * 64 := by
  have : 4 ^ s ≤ 4 ^ 12 := Nat.pow_le_pow_right (by decide) hs
  have e : 4 ^ 12 = 16777216 := by decide
  omega
theorem log_small {i : Int} {k : Nat} (h : i.natAbs < 2 ^ k) (hk : 0 < k) : i.natAbs.log2 < k := by
  by_cases h0 : i.natAbs = 0
  · rw [h0]
    exact hk
  · exact (Nat.log2_lt h0).mpr h
theorem asc_num (i : Int) : asc (toString i : String) = true := by
  rw [asc_mem, Str.ofString_eq_toList]
  intro c hc
  have hc : c ∈ (toString i).toList.map Char.toNat := by simpa using hc
  obtain ⟨ch, hch, rfl⟩ := List.mem_map.mp hc
  have dig : ∀ (n : Nat) (ch : Char), ch ∈ (Nat.repr n).toList → ch.toNat < 128 := fun n ch h => by
    have h : ch ∈ Nat.toDigits 10 n := by
      unfold Nat.repr at h
      simpa using h
    have := Nat.isDigit_of_mem_toDigits (by decide) (by decide) h
    simp [Char.isDigit] at this
    have h2 := this.2
    have : ch.toNat ≤ 57 := h2
    omega
  cases i with
  | ofNat n => exact dig n ch hch
  | negSucc n =>
    have hch : ch ∈ ("-" ++ Nat.repr (n + 1)).toList := hch
    rw [String.toList_append, List.mem_append] at hch
    rcases hch with h | h
    · have : ch = '-' := by simpa using h
      rw [this]
      decide
    · exact dig _ ch h
theorem asc_cut {x : Str} (hx : asc x = true) (lo hi : Option Int) : asc (cutS x lo hi) = true := by
  rw [asc_mem] at hx ⊢
  intro c hc
  unfold cutS at hc
  exact hx c (List.mem_of_mem_drop (List.mem_of_mem_take (by simpa using hc)))
theorem len_cut (x : Str) (lo hi : Option Int) : (cutS x lo hi).length ≤ x.length := by
  unfold cutS
  show ((x.cps.toList.drop _).take _).toArray.size ≤ x.cps.size
  rw [List.size_toArray, List.length_take, List.length_drop]
  have : x.cps.toList.length = x.cps.size := by simp
  omega

/-! ### mirrors: loops and comprehensions, in general -/
theorem forL_ret {ok : Sto → Prop} {g : MG} {b : MS} {st : Sto} (p : A → Bool) (Sh : AEnv → Prop) (hok : ∀ l, ok (st ++ l)) : ∀ {xs : List A}, (∀ x ∈ xs, ∀ env l, Sh env → ∃ e1 l' e2, g x env = some e1 ∧ Sh e2 ∧ b e1 (st ++ l) = (if p x = true then .fl (.nx e2) (st ++ l') else .fl (.rt (.bl false)) (st ++ l'))) →
    ∀ env l, Sh env → ∃ e2 l', Sh e2 ∧ forL ok g b xs env (st ++ l) = if xs.all p = true then .fl (.nx e2) (st ++ l') else .fl (.rt (.bl false)) (st ++ l')
  | [], _, env, l, h => ⟨env, l, h, by
      unfold forL
      rw [if_pos (hok l)]
      rfl⟩
  | x :: xs, hb, env, l, h => by
    obtain ⟨e1, l1, e2, h1, h2, h3⟩ := hb x List.mem_cons_self env l h
    unfold forL
    rw [if_pos (hok l), h1]
    simp only [h3]
    cases hp : p x with
    | false =>
      refine ⟨e2, l1, h2, ?_⟩
      simp only [List.all_cons, hp, Bool.false_and, Bool.false_eq_true, if_false]
    | true =>
      obtain ⟨e3, l3, h4, h5⟩ := forL_ret p Sh hok (fun y hy => hb y (List.mem_cons_of_mem _ hy)) e2 l1 h2
      refine ⟨e3, l3, h4, ?_⟩
      simp only [List.all_cons, hp, Bool.true_and, if_true, h5]
theorem lc_pure {n : Nat} {ok : Sto → Prop} {g : MG} {tt : MT} {te : ME} {env : AEnv} {s : Sto} (p : A → Bool) (F : A → A) (hn : n = s.length) (hok : ∀ acc, ok (s ++ [.lst acc])) : ∀ {xs acc : List A},
    (∀ x ∈ xs, ∀ acc, ∃ e1, g x env = some e1 ∧ tt e1 (s ++ [.lst acc]) = .ok (p x) (s ++ [.lst acc]) ∧ (p x = true → te e1 (s ++ [.lst acc]) = .ok (F x) (s ++ [.lst acc]))) →
    acc.length + xs.length < 16777216 → lcL n ok g tt te env xs (s ++ [.lst acc]) = .ok (.ref n) (s ++ [.lst (acc ++ (xs.filter p).map F)])
  | [], acc, _, _ => by
    unfold lcL
    rw [if_pos (hok acc)]
    simp
  | x :: xs, acc, h, hl => by
    obtain ⟨e1, h1, h2, h3⟩ := h x List.mem_cons_self acc
    unfold lcL
    rw [if_pos (hok acc), h1]
    simp only [h2, ev_xok, ev_bok]
    rw [List.length_cons] at hl
    cases hp : p x with
    | false =>
      simp only [Bool.false_eq_true, if_false, List.filter_cons, hp]
      exact lc_pure p F hn hok (fun y hy => h y (List.mem_cons_of_mem _ hy)) (by omega)
    | true =>
      have hg : (s ++ [AO.lst acc])[n]? = some (.lst acc) := by rw [hn]; exact ev_last
      have hs : (s ++ [AO.lst acc]).set n (.lst (acc ++ [F x])) = s ++ [.lst (acc ++ [F x])] := by rw [hn]; exact ev_set0
      simp only [if_true, h3 hp, ev_xok, ev_bok, hg, List.filter_cons, hp, List.map_cons]
      rw [if_pos (by rw [sizeLine_eq]; omega), hs, lc_pure p F hn hok (fun y hy => h y (List.mem_cons_of_mem _ hy)) (by rw [List.length_append, List.length_singleton]; omega)]
      simp
theorem asc_ok {x : Str} (h : asc x = true) : PyData.strOk x = true := by
  unfold asc at h
  unfold PyData.strOk
  rw [Array.all_eq_true_iff_forall_mem] at h ⊢
  intro c hc
  have := h c hc
  simp at this ⊢
  omega
theorem allD_some {f : A → Option PyData} {P : PyData → Prop} : ∀ {xs : List A}, (∀ x ∈ xs, ∃ D, f x = some D ∧ P D) → ∃ Ds, allD f xs = some Ds ∧ ∀ D ∈ Ds, P D
  | [], _ => ⟨[], rfl, (fun D h => by cases h)⟩
  | x :: xs, h => by
    obtain ⟨D, e, hp⟩ := h x List.mem_cons_self
    obtain ⟨Ds, e2, hps⟩ := allD_some fun y hy => h y (List.mem_cons_of_mem _ hy)
    refine ⟨D :: Ds, by simp only [allD, e, e2], fun E hE => ?_⟩
    rcases List.mem_cons.mp hE with rfl | hE
    · exact hp
    · exact hps E hE
theorem layA {d : Nat} : ∀ {Ds : List PyData}, (∀ D ∈ Ds, D.canLay0 = true ∧ D.depth ≤ d) → PyData.canLayAll0 Ds = true ∧ PyData.depthAll Ds ≤ d
  | [], _ => ⟨by simp [PyData.canLayAll0], by simp [PyData.depthAll]⟩
  | D :: Ds, h => by
    have h1 := h D List.mem_cons_self
    have h2 := layA fun E hE => h E (List.mem_cons_of_mem _ hE)
    exact ⟨by rw [PyData.canLayAll0, h1.1, h2.1]; rfl, by rw [PyData.depthAll]; exact Nat.max_le.mpr ⟨h1.2, h2.2⟩⟩
theorem gs_dat {st : Sto} {s n : Nat} {a : A} (h : gs s a) : ∃ D, dat st n a = some D ∧ D.canLay0 = true ∧ D.depth ≤ 0 := by
  cases a with
  | non => exact ⟨.none, by cases n <;> rfl, rfl, Nat.le_refl _⟩
  | bl c => exact ⟨.bool c, by cases n <;> rfl, rfl, Nat.le_refl _⟩
  | int c => exact ⟨.int c, by cases n <;> rfl, rfl, Nat.le_refl _⟩
  | str c => exact ⟨.str c, by cases n <;> rfl, by rw [PyData.canLay0]; exact asc_ok h.1, Nat.le_refl _⟩
  | _ => exact h.elim
theorem gd_dat {st : Sto} {E : Nat → Prop} {s : Nat} : ∀ (d n : Nat) {a : A}, d ≤ n → gd st E s d a → ∃ D, dat st n a = some D ∧ D.canLay0 = true ∧ D.depth ≤ d
  | 0, n, _, _, h => gs_dat h
  | d + 1, 0, _, hn, _ => by omega
  | d + 1, n + 1, a, hn, h => by
    rcases h with h | ⟨xs, rfl, h1, h2⟩ | ⟨m, xs, rfl, h0, h1, h2, h3⟩
    · obtain ⟨D, e, l, dp⟩ := gs_dat (st := st) (n := n + 1) h
      exact ⟨D, e, l, by omega⟩
    · obtain ⟨Ds, e, hD⟩ := allD_some (f := dat st n) (P := fun D => D.canLay0 = true ∧ D.depth ≤ d) fun x hx => gd_dat d n (by omega) (h2 x hx)
      obtain ⟨l1, l2⟩ := layA hD
      exact ⟨.tuple Ds, by simp only [dat, e, Option.map_some], by rw [PyData.canLay0]; exact l1, by rw [PyData.depth]; omega⟩
    · obtain ⟨Ds, e, hD⟩ := allD_some (f := dat st n) (P := fun D => D.canLay0 = true ∧ D.depth ≤ d) fun x hx => gd_dat d n (by omega) (h3 x hx)
      obtain ⟨l1, l2⟩ := layA hD
      exact ⟨.list Ds, by simp only [dat, h1, e, Option.map_some], by rw [PyData.canLay0]; exact l1, by rw [PyData.depth]; omega⟩
theorem shaped_of {D : PyData} (h : D.canLay0 = true) (h2 : D.depth ≤ 64) : SeqAt.shaped D = true := by
  unfold SeqAt.shaped
  rw [h, decide_eq_true h2]
  rfl
/-- a thing in a tuple of words: it is one of them -/
def inW (ws : List Str) : A → Bool
  | .str x => ws.any (· == x)
  | _ => false
theorem notIn_words {st : Sto} {E : Nat → Prop} {s d : Nat} {a : A} {ws : List Str} (hw : ∀ x ∈ ws, asc x = true) (hd : d ≤ 30) (h : gd st E s d a) : oNotInX a (.tup (ws.map A.str)) st = .ok (.bl (!inW ws a)) st := by
  have flat : flatA a = true → oNotInX a (.tup (ws.map A.str)) st = .ok (.bl (!inW ws a)) st := fun hf => by
    have t1 : tupDeep a (.tup (ws.map A.str)) = false := by simp [tupDeep, isTup, hf]
    have t2 : (ws.map A.str).all flatA = true := by
      rw [List.all_eq_true]
      intro x hx
      obtain ⟨y, _, rfl⟩ := List.mem_map.mp hx
      rfl
    have t3 : (ws.map A.str).any (fun y => eqF y a) = inW ws a := by
      rw [List.any_map]
      cases a with
      | str x => rfl
      | non => exact List.any_eq_false.mpr fun _ _ => by simp [eqF]
      | bl c => exact List.any_eq_false.mpr fun _ _ => by simp [eqF]
      | int c => exact List.any_eq_false.mpr fun _ _ => by simp [eqF]
      | _ => cases hf
    show oOr tupDeep oNotInTD oNotIn a (.tup (ws.map A.str)) st = _
    unfold oOr
    rw [t1]
    show (if false = true then _ else oNotInF a (.tup (ws.map A.str)) st) = _
    rw [if_neg Bool.false_ne_true]
    unfold oNotInF inA
    show lift ((if flatA a = true ∧ (ws.map A.str).all flatA = true then some ((ws.map A.str).any fun y => eqF y a) else none).map fun c => A.bl (!c)) st = _
    rw [if_pos ⟨hf, t2⟩, t3]
    rfl
  have deepc : flatA a = false → inW ws a = false → (∃ D, dat st deep a = some D ∧ SeqAt.shaped D = true ∧ ∀ x : Str, PyData.eqv (.str x) D = false) → oNotInX a (.tup (ws.map A.str)) st = .ok (.bl (!inW ws a)) st := fun hf hi ⟨D, e, sh, ne⟩ => by
    have t1 : tupDeep a (.tup (ws.map A.str)) = true := by simp [tupDeep, isTup, hf]
    have e2 : dat st deep (.tup (ws.map A.str)) = some (.tuple (ws.map PyData.str)) := by
      show (allD (dat st 29) (ws.map A.str)).map PyData.tuple = _
      have : ∀ l : List Str, allD (dat st 29) (l.map A.str) = some (l.map PyData.str) := fun l => by
        induction l with
        | nil => rfl
        | cons x l ih => simp only [List.map_cons, allD, ih, dat]
      rw [this]
      rfl
    have sh2 : SeqAt.shaped (.tuple (ws.map PyData.str)) = true := by
      have := layA (d := 0) (Ds := ws.map PyData.str) fun D hD => by
        obtain ⟨x, hx, rfl⟩ := List.mem_map.mp hD
        exact ⟨by rw [PyData.canLay0]; exact asc_ok (hw x hx), Nat.le_refl _⟩
      exact shaped_of (by rw [PyData.canLay0]; exact this.1) (by rw [PyData.depth]; omega)
    have an : ((ws.map PyData.str).any fun z => PyData.eqv z D) = false := by
      rw [List.any_map]
      exact List.any_eq_false.mpr fun x _ => by simp [ne x]
    show oOr tupDeep oNotInTD oNotIn a (.tup (ws.map A.str)) st = _
    unfold oOr
    rw [t1, if_pos rfl]
    unfold oNotInTD inTD
    rw [e, e2]
    simp only [sh, sh2, and_self, if_true, an, hi]
    rfl
  cases d with
  | zero =>
    refine flat ?_
    cases a with
    | non => rfl
    | bl _ => rfl
    | int _ => rfl
    | str _ => rfl
    | _ => exact h.elim
  | succ d =>
    rcases id h with h' | ⟨xs, rfl, h1, h2⟩ | ⟨m, xs, rfl, h0, h1, h2, h3⟩
    · refine flat ?_
      cases a with
      | non => rfl
      | bl _ => rfl
      | int _ => rfl
      | str _ => rfl
      | _ => exact h'.elim
    · obtain ⟨D, e, l, dp⟩ := gd_dat (d + 1) 30 hd h
      refine deepc rfl rfl ⟨D, e, shaped_of l (by omega), fun x => ?_⟩
      have e : (allD (dat st 29) xs).map PyData.tuple = some D := e
      obtain ⟨Ds, _, rfl⟩ := Option.map_eq_some_iff.mp e
      simp [PyData.eqv]
    · obtain ⟨D, e, l, dp⟩ := gd_dat (d + 1) 30 hd h
      refine deepc rfl rfl ⟨D, e, shaped_of l (by omega), fun x => ?_⟩
      simp only [dat, h1] at e
      obtain ⟨Ds, _, rfl⟩ := Option.map_eq_some_iff.mp e
      simp [PyData.eqv]

theorem popAt_is {xs : List A} {i : Int} {a : A} (h0 : 0 ≤ i) (h1 : i < xs.length) (h2 : (xs.length : Int) < 2 ^ 62) (e : xs[i.toNat]? = some a) : oPopAt xs [.int i] = some (a, xs.eraseIdx i.toNat) := by
  unfold oPopAt
  have hs : seqIndex? i xs.length = some i.toNat := by
    have := (ixN_seq (ixN_is h0 h1)).1
    exact this
  simp only
  rw [if_pos ⟨by omega, by omega⟩, hs]
  simp only [e]
  rfl
theorem negOne {xs : List A} : mUn oNegX (mC (.int 1)) [] [] = .ok (.int (-1)) [] := rfl

theorem rngA_get {n i : Nat} {x : A} (h : (rngA 0 n)[i]? = some x) : x = .int (0 + (i : Int)) ∧ i < n := by
  unfold rngA at h
  rw [List.getElem?_map] at h
  obtain ⟨j, ej, rfl⟩ := Option.map_eq_some_iff.mp h
  obtain ⟨hj, rfl⟩ := List.getElem?_eq_some_iff.mp ej
  rw [List.length_range] at hj
  exact ⟨by rw [List.getElem_range], hj⟩
theorem rngA_len {n : Nat} : (rngA 0 n).length = n := by
  unfold rngA
  rw [List.length_map, List.length_range]
/-- .. whose items leave nothing -/
theorem lc_P {ok : Sto → Prop} {g : MG} {te : ME} {env : AEnv} {xs : List A} {S : Sto} {Q : A → Sto → Prop} (F : A → A) (hok : ∀ l, ok (S ++ l)) (hl : xs.length < 16777216)
    (step : ∀ x ∈ xs, ∃ e1, g x env = some e1 ∧ ∀ l, okR (te e1 (S ++ l)) fun y s => y = F x ∧ s = S ++ l)
    (h : Q (.ref S.length) (S ++ [AO.lst (xs.map F)])) : okR (lcL S.length ok g mYes te env xs (S ++ [.lst []])) Q := by
  have e := lc_pure (n := S.length) (ok := ok) (g := g) (tt := mYes) (te := te) (env := env) (s := S) (xs := xs) (acc := []) (fun _ => true) F rfl (fun acc => hok _) (fun x hx acc => by
    obtain ⟨e1, h1, h2⟩ := step x hx
    obtain ⟨y, s, e, rfl, rfl⟩ := okR_out (h2 [.lst acc])
    exact ⟨e1, h1, rfl, fun _ => e⟩) (by simpa using hl)
  rw [e, List.filter_eq_self.mpr (fun _ _ => rfl)]
  exact h
theorem okR_eq {α : Type} {r r' : Res α} {Q : α → Sto → Prop} (h : r = r') (k : okR r' Q) : okR r Q := by
  rw [h]
  exact k
theorem okF_eq {r r' : RF} {Q : Fl → Sto → Prop} (h : r = r') (k : okF r' Q) : okF r Q := by
  rw [h]
  exact k

/-! ### draws, by what is asked behind them -/
structure Dr (b : Nat) (S s : Sto) : Prop where
  old : Old b S s
  bag : BagAt s b
theorem Dr.refl {b : Nat} {S : Sto} (h : BagAt S b) : Dr b S S := ⟨Old.refl b S, h⟩
theorem Dr.trans {b : Nat} {S s t : Sto} (h : Dr b S s) (g : Dr b s t) : Dr b S t := ⟨h.old.trans g.old, g.bag⟩
theorem Dr.app {b : Nat} {S s : Sto} (h : Dr b S s) (o : AO) : Dr b S (s ++ [o]) := ⟨h.old.trans (Old.app _ _ _), h.bag.app o⟩
theorem Dr.apps {b : Nat} {S s : Sto} (h : Dr b S s) (l : Sto) : Dr b S (s ++ l) := ⟨h.old.trans (Old.apps _ _ _), h.bag.apps l⟩
theorem Dr.le {b : Nat} {S s : Sto} (h : Dr b S s) : S.length ≤ s.length := h.old.le
theorem Dr.lt {b : Nat} {S s : Sto} (h : Dr b S s) : b < s.length := h.bag.lt
theorem Dr.get {b n : Nat} {S s : Sto} {o : AO} (h : Dr b S s) (e : S[n]? = some o) (nb : n ≠ b) : s[n]? = some o := h.old.get e nb
/-- a new cell is changed -/
theorem Dr.put {b n : Nat} {S s : Sto} (h : Dr b S s) (hn : S.length ≤ n) (nb : n ≠ b) (o : AO) : Dr b S (s.set n o) := ⟨h.old.putNew hn, h.bag.put o nb⟩
theorem take_wp {st : Sto} {b : Nat} {m : Int} (hB : BagAt st b) (hm : 0 < m) (hm2 : m < 2 ^ 200) : okR (m__law_take [.ref b, .int m] st) fun a s => ∃ r, a = .int r ∧ 0 ≤ r ∧ r < m ∧ Dr b st s := by
  obtain ⟨r, s, e, r0, r1, o, B, _⟩ := take_ev hB hm hm2
  exact okR_of ⟨_, _, e, r, rfl, r0, r1, o, B⟩
/-- a comprehension whose items draw -/
theorem lc_draw {ok : Sto → Prop} {g : MG} {te : ME} {env : AEnv} {xs : List A} {S : Sto} {b : Nat} {Q : A → Sto → Prop} (P : A → A → Prop) (hB : BagAt S b) (hok : ∀ s, Dr b S s → ok s) (hl : xs.length < 16777216)
    (step : ∀ x ∈ xs, ∀ s, Dr b S s → ∃ e1, g x env = some e1 ∧ okR (te e1 s) fun y s' => P x y ∧ Dr b s s')
    (hend : ∀ ys s, s[S.length]? = some (.lst ys) → ys.length = xs.length → (∀ (i : Nat) x y, xs[i]? = some x → ys[i]? = some y → P x y) → Dr b S s → Q (.ref S.length) s) :
    okR (lcL S.length ok g mYes te env xs (S ++ [.lst []])) Q := by
  have hb := hB.lt
  refine lcL_wp (j := 0) (acc := []) (fun i acc s => s[S.length]? = some (.lst acc) ∧ acc.length = i ∧ (∀ (k : Nat) x y, xs[k]? = some x → acc[k]? = some y → P x y) ∧ Dr b S s) (fun i acc s h => hok s h.2.2.2) ⟨ev_last, rfl, (fun k x y _ h => by simp at h), (Dr.refl hB).app _⟩ (fun i x acc s hx h => ?_) (fun acc s h => hend acc s h.1 (by have := h.2.1; omega) h.2.2.1 h.2.2.2)
  obtain ⟨h1, h2, h3, h4⟩ := h
  obtain ⟨e1, he, ho⟩ := step x (List.mem_of_getElem? hx) s h4
  refine ⟨e1, he, ?_⟩
  rw [ev_yes, wp_okR, if_pos rfl]
  refine okR_use ho fun y s' h => ?_
  obtain ⟨hp, hd⟩ := h
  have g1 := hd.get h1 (by omega)
  have hlt := (List.getElem?_eq_some_iff.mp hx).1
  have hlt2 := (List.getElem?_eq_some_iff.mp g1).1
  refine ⟨g1, by omega, List.getElem?_set_self hlt2, by rw [List.length_append, List.length_singleton]; omega, fun k x' y' hx' hy' => ?_, (h4.trans hd).put (Nat.le_refl _) (by omega) _⟩
  by_cases hk : k < acc.length
  · rw [List.getElem?_append_left hk] at hy'
    exact h3 k x' y' hx' hy'
  · have hk2 : k = acc.length := by
      have := (List.getElem?_eq_some_iff.mp hy').1
      rw [List.length_append, List.length_singleton] at this
      omega
    subst hk2
    rw [List.getElem?_append_right (Nat.le_refl _), Nat.sub_self] at hy'
    cases hy'
    rw [show acc.length = i by omega] at hx'
    rw [hx] at hx'
    cases hx'
    exact hp

theorem name_wp {st : Sto} {b : Nat} (hB : BagAt st b) : okR (m__law_name [.ref b] st) fun a s => ∃ x, a = .str x ∧ nameP x ∧ Dr b st s := by
  obtain ⟨x, s, e, h, o, B⟩ := name_ev hB
  exact okR_of ⟨_, _, e, x, rfl, h, o, B⟩

/-! ### texts: joined and taken apart, numbers written -/
def J (c : Nat) : List (List Nat) → List Nat
  | [] => []
  | [x] => x
  | x :: y :: r => x ++ c :: J c (y :: r)
theorem app_cps (a b : Str) : (a ++ b).cps.toList = a.cps.toList ++ b.cps.toList := by
  show (a.cps ++ b.cps).toList = _
  simp
theorem join_is (c : Nat) (ws : List Str) : Txt.join ⟨#[c]⟩ ws = Str.join ⟨#[c]⟩ ws := StrLaws.glued_eq_join _ _
theorem J_cps (c : Nat) : ∀ ws : List Str, (Str.join ⟨#[c]⟩ ws).cps.toList = J c (ws.map (·.cps.toList))
  | [] => rfl
  | [x] => rfl
  | x :: y :: r => by
    have ih := J_cps c (y :: r)
    show (x ++ (⟨#[c]⟩ : Str) ++ Str.join ⟨#[c]⟩ (y :: r)).cps.toList = x.cps.toList ++ c :: J c ((y :: r).map (·.cps.toList))
    rw [app_cps, app_cps, ih, List.append_assoc]
    rfl
theorem cut_eq {c : Nat} : ∀ {x y X Y : List Nat}, c ∉ x → c ∉ y → x ++ c :: X = y ++ c :: Y → x = y ∧ X = Y
  | [], [], _, _, _, _, e => by
    simp only [List.nil_append, List.cons.injEq, true_and] at e
    exact ⟨rfl, e⟩
  | [], b :: y, _, _, _, hy, e => by
    simp only [List.nil_append, List.cons_append, List.cons.injEq] at e
    exact absurd (e.1 ▸ List.mem_cons_self) hy
  | a :: x, [], _, _, hx, _, e => by
    simp only [List.nil_append, List.cons_append, List.cons.injEq] at e
    exact absurd (e.1 ▸ List.mem_cons_self) hx
  | a :: x, b :: y, X, Y, hx, hy, e => by
    simp only [List.cons_append, List.cons.injEq] at e
    obtain ⟨h1, h2⟩ := cut_eq (fun h => hx (List.mem_cons_of_mem _ h)) (fun h => hy (List.mem_cons_of_mem _ h)) e.2
    exact ⟨by rw [e.1, h1], h2⟩
theorem J_inj {c : Nat} : ∀ {us vs : List (List Nat)}, us ≠ [] → vs ≠ [] → (∀ u ∈ us, c ∉ u) → (∀ v ∈ vs, c ∉ v) → J c us = J c vs → us = vs
  | [], _, h, _, _, _, _ => absurd rfl h
  | _ :: _, [], _, h, _, _, _ => absurd rfl h
  | [x], [y], _, _, _, _, e => by
    have e : x = y := e
    rw [e]
  | [x], y :: y' :: r, _, _, hu, _, e => by
    have e : x = y ++ c :: J c (y' :: r) := e
    exact absurd (by rw [e]; simp) (hu x List.mem_cons_self)
  | x :: x' :: r, [y], _, _, _, hv, e => by
    have e : x ++ c :: J c (x' :: r) = y := e
    exact absurd (by rw [← e]; simp) (hv y List.mem_cons_self)
  | x :: x' :: r, y :: y' :: r', _, _, hu, hv, e => by
    have e : x ++ c :: J c (x' :: r) = y ++ c :: J c (y' :: r') := e
    obtain ⟨h1, h2⟩ := cut_eq (hu x List.mem_cons_self) (hv y List.mem_cons_self) e
    have := J_inj (us := x' :: r) (vs := y' :: r') (fun h => by cases h) (fun h => by cases h) (fun u hu' => hu u (List.mem_cons_of_mem _ hu')) (fun v hv' => hv v (List.mem_cons_of_mem _ hv')) h2
    rw [h1, this]
theorem str_inj {x y : Str} (h : x.cps.toList = y.cps.toList) : x = y := by
  cases x
  cases y
  have := Array.toList_inj.mp h
  simp only at this
  rw [this]
theorem maps_inj : ∀ {us vs : List Str}, us.map (·.cps.toList) = vs.map (·.cps.toList) → us = vs
  | [], [], _ => rfl
  | [], _ :: _, h => by cases h
  | _ :: _, [], h => by cases h
  | u :: us, v :: vs, h => by
    simp only [List.map_cons, List.cons.injEq] at h
    rw [str_inj h.1, maps_inj h.2]
theorem split_join {c : Nat} {ws : List Str} (h0 : ws ≠ []) (h : ∀ x ∈ ws, c ∉ x.cps.toList) : Txt.split (Txt.join ⟨#[c]⟩ ws) ⟨#[c]⟩ = ws := by
  have e := StrLaws.join_split (Txt.join ⟨#[c]⟩ ws) ⟨#[c]⟩
  have p := split_pos (Txt.join ⟨#[c]⟩ ws) ⟨#[c]⟩
  have f := StrLaws.split_free (Txt.join ⟨#[c]⟩ ws) c
  have e2 : (Str.join ⟨#[c]⟩ (Txt.split (Txt.join ⟨#[c]⟩ ws) ⟨#[c]⟩)).cps.toList = (Txt.join ⟨#[c]⟩ ws).cps.toList := congrArg (fun x : Str => x.cps.toList) e
  rw [join_is] at e2
  rw [J_cps, J_cps] at e2
  rw [join_is] at p f ⊢
  refine maps_inj (J_inj (c := c) (fun h => ?_) (fun h => ?_) (fun u hu => ?_) (fun v hv => ?_) e2)
  · rw [List.map_eq_nil_iff] at h
    rw [h] at p
    cases p
  · exact h0 (List.map_eq_nil_iff.mp h)
  · obtain ⟨x, hx, rfl⟩ := List.mem_map.mp hu
    exact f x hx
  · obtain ⟨x, hx, rfl⟩ := List.mem_map.mp hv
    exact h x hx
/-- a number, written -/
def nS (i : Int) : Str := toString i
def figs (x : Str) : Bool := decide (1 ≤ x.length) && decide (x.length ≤ 4) && x.cps.toList.all (fun c => decide (48 ≤ c) && decide (c ≤ 57)) && (!decide (x.cps.toList.head? = some 48) || decide (x = "0"))
theorem nums_ok : ∀ n < 1001, figs (nS (n : Nat)) = true ∧ PySem.intText? (nS (n : Nat)) = some ((n : Nat) : Int) := by decide +kernel

theorem at0_is {α : Type} (a : α) (r : List α) : atI (a :: r) 0 = some a := by
  unfold atI
  rw [ixN_is (by decide) (by rw [List.length_cons]; omega)]
  rfl

/-! ### numbers read from any text -/
def DIG : Str := Str.ofString "0123456789"
def digW (x : Str) : Bool := x.cps.toList.all fun c => decide (c ∈ DIG.cps.toList)
def numK (x : Str) : Bool := (decide (1 ≤ x.length) && decide (x.length ≤ 12)) && digW x && !(decide (x.cps.toList.head? = some 48) && !decide (x = Str.ofString "0"))
def numR (x : Str) : A := if numK x = true then .int ((NumText.digitsVal x.cps.toList : Nat) : Int) else .non
theorem dig_is {c : Nat} (h : c ∈ DIG.cps.toList) : 48 ≤ c ∧ c ≤ 57 := by
  have : ∀ c ∈ DIG.cps.toList, 48 ≤ c ∧ c ≤ 57 := by decide +kernel
  exact this c h
theorem int_dig {x : Str} (h : digW x = true) (h1 : 1 ≤ x.length) (h2 : x.length ≤ 12) : PySem.intText? x = some ((NumText.digitsVal x.cps.toList : Nat) : Int) := by
  unfold digW at h
  refine intText_digits (fun c hc => ?_) (fun z => ?_) (by omega)
  · have := List.all_eq_true.mp h c hc
    exact dig_is (of_decide_eq_true this)
  · have : x.length = 0 := by
      show x.cps.size = 0
      rw [← Array.length_toList, z]
      rfl
    omega
theorem digF_all {x : Str} : ((signs x).map fun a => match a with | .str ⟨cs⟩ => cs.toList.all fun c => decide (c ∈ DIG.cps.toList) | _ => false).all id = digW x := by
  unfold signs digW
  rw [List.map_map, List.all_map]
  congr 1
  funext c
  simp
theorem head_at {x : Str} (h1 : 1 ≤ x.length) : ∃ c0 r, x.cps.toList = c0 :: r := by
  cases hr : x.cps.toList with
  | nil =>
    have : x.length = 0 := by
      show x.cps.size = 0
      rw [← Array.length_toList, hr]
      rfl
    omega
  | cons a r => exact ⟨a, r, rfl⟩
def digA : A → A
  | .str ⟨cs⟩ => .bl (cs.toList.all fun c => decide (c ∈ DIG.cps.toList))
  | _ => .bl false
theorem bls_dig (x : Str) : bls ((signs x).map digA) = some ((signs x).map fun a => match a with | .str ⟨cs⟩ => cs.toList.all fun c => decide (c ∈ DIG.cps.toList) | _ => false) := by
  unfold signs
  rw [List.map_map, List.map_map]
  induction x.cps.toList with
  | nil => rfl
  | cons c r ih => 
    simp only [List.map_cons, Function.comp_apply, digA, bls] at ih ⊢
    rw [ih]
    rfl
theorem number_any {S : Sto} {x : Str} (hx : x.length ≤ 1200000) : okR (m_number_of [.str x] S) fun y t => y = numR x ∧ ∃ l, t = S ++ l := by
  rw [st_number_of]
  unfold b_number_of
  have a3 : x.length ≤ 16777216 := by omega
  have zz : Str.ofString "0" = ⟨#[48]⟩ := by decide +kernel
  have nm : Str.ofString "0123456789" = DIG := rfl
  by_cases a1 : (1 : Int) ≤ (x.length : Nat)
  · by_cases a2 : ((x.length : Nat) : Int) ≤ 12
    · simp only [wp_okR, wp_okF, wp_fin, wp_next, wp_then, wp_bind, wp_nox, wp_tK, wp_bK, wp_fr, wp_fn, wp_nn, wp_nr, wp_nb, wp_nc, wp_ln, wp_lc, wp_lb, wp_lr, wp_jn, wp_jc, ev_bok, ev_bno, ev_bex, ev_tok, ev_tno, ev_tex, ev_nnx, ev_nrt, ev_nbk, ev_nct, ev_nex, ev_nno, ev_frt, ev_fnx, ev_fex, ev_xok, ev_lsome, ev_lnone, ev_seq, ev_if, ev_ret, ev_retN, ev_drop, ev_nop, ev_brk, ev_cont, ev_asgN, ev_asgT, ev_asgO, ev_mgTup, ev_mgN, ev_mgC, ev_mg0, ev_putL, ev_putO, ev_var, ev_vr, ev_c, ev_op, ev_un, ev_test, ev_tb, ev_notT, ev_andT, ev_orT, ev_ifE, ev_not, ev_nb, ev_and, ev_andK, ev_or, ev_orK, ev_chain, ev_chK, ev_nil, ev_cons, ev_tup, ev_lst, ev_new, ev_call, ev_cb, ev_size, ev_addI, ev_addS, ev_addT, ev_addL, ev_catO, ev_sub, ev_mul, ev_div, ev_mod, ev_p5, ev_p6, ev_p12, ev_p18, ev_p30, ev_neg, ev_ltI, ev_ltS, ev_leI, ev_leS, ev_gt, ev_ge, ev_eqI, ev_eqS, ev_neI, ev_neS, ev_neB, ev_eqB, ev_is, ev_isnot, ev_ixT, ev_ixS, ev_ixR, ev_ixL, ev_ixK, ev_getL, ev_getM, ev_gL, ev_gM, ev_at0, ev_at1, ev_at2, ev_at3, ev_at4, ev_lenS, ev_lenR, ev_lenT, ev_lenL, ev_lenO, ev_lenD, ev_abs, ev_min2, ev_max2, ev_intI, ev_intB, ev_set, ev_fc, ev_setset, ev_last, ev_appk, ev_app0, ev_setk, ev_set0, ev_assoc, ev_lapp, ev_lappA, ev_sl, ev_nopart, ev_part, ev_ptK, ev_slT, ev_slS, ev_slR, ev_slK, ev_tyN, ev_tyB, ev_tyI, ev_tyS, ev_tyT, ev_tyL, ev_tyR, ev_tyRL, ev_isi, ev_isi1, ev_isi2, ev_isi3, ev_isi4, ev_isi5, ev_isiT, ev_isi2K, ev_isTy, ev_list, ev_listK, ev_tuple, ev_tupK, ev_getST, ev_getSR, ev_getSL, ev_all, ev_allK, ev_eqXI, ev_eqXS, ev_neXI, ev_neXS, ev_neXB, ev_eqXB, ev_eqXR, ev_neXR, ev_nil2, ev_eqK, ev_neK, ev_meth, ev_meth0, ev_mth1, ev_mth2, ev_mth3, ev_append, ev_m0, ev_m0K, ev_str, ev_for, ev_miR1, ev_rg1K, ev_miL, ev_liK, ev_miT, ev_tiK, ev_lc, ev_wipe0, ev_wipeS, ev_yes, ev_lenSet, ev_lenSetK, ev_listR, ev_lrK, ev_put2, ev_p2A, ev_p2K, ev_p2E, ev_put1, ev_pt1, ev_addXI, ev_addXB, ev_addXS, ev_addXT, ev_addXL, ev_subXI, ev_subXB, ev_mulXI, ev_mulXB, ev_mulXL, ev_negXI, ev_negXB, ev_strXI, ev_strXB, ev_mulYI, ev_mulYB, ev_mulYL, ev_mulYT, ev_dnew, ev_dnewT, ev_dgetE, ev_getD, ev_gD, ev_keyI, ev_keyS, ev_dgK, ev_dinE, ev_diK, ev_dputE, ev_dpK, ev_dget2E, ev_isDA, ev_isSome, ev_isNone, ev_dg2K, ev_dpop2E, ev_dp2K, ev_dp3S, ev_dp3N, ev_sortedE, ev_srO1, ev_srO2, ev_gLd, ev_srKS, ev_srKI, ev_gDT, ev_gT, ev_tinE, ev_tiKK, ev_keysA, ev_keysN, ev_keysC, ev_dputTE, ev_dptK, ev_dispE, ev_mpN, ev_mpC, ev_pcK, ev_dsK, ev_dsK2, ev_lc2E, ev_imp, ev_simp, ev_split, ev_splF, ev_splG, ev_fmt, ev_fmtS, ev_fmtI, ev_addK, ev_js0, ev_js1, ev_joined, ev_star, ev_starK, ev_each2, ev_each2K, ev_unl, ev_unlK, ev_intS, ev_strYS, ev_strYI, ev_fldE, ev_getI, ev_gI, ev_fdK, ev_fldS, ev_fpK, ev_mtE, ev_miK, ev_mkE, ev_mkK, ev_callE, ev_tryAs, ev_raise0, ev_raise1, ev_raiseN, ev_revS, ev_revK, ev_zip, ev_enumF, ev_enum, ev_kget, ev_kgK, ev_index, List.getElem?_cons_zero, List.getElem?_cons_succ, List.set_cons_zero, List.set_cons_succ, List.length_cons, List.length_nil, List.cons_append, List.nil_append, if_true, if_false, Bool.false_eq_true, Bool.true_eq_false, reduceIte, Bool.not_true, Bool.not_false, Bool.and_true, Bool.true_and, Bool.and_false, Bool.false_and, Bool.or_true, Bool.true_or, Bool.or_false, Bool.false_or, decide_eq_true_eq, Nat.reduceAdd, Nat.reduceLeDiff, Nat.zero_add, Int.reduceLT, Int.reduceLE, Int.reduceEq, Int.reduceNeg, Nat.reduceEqDiff, and_self, and_true, true_and, decide_true, decide_false, eq_self, ite_true, ite_false, Int.reduceSub, Int.reduceAdd, Int.cast_ofNat_Int, Int.natCast_add, Int.cast_ofNat_Int, Nat.reduceSub, Nat.add_assoc, String.reduceBEq, String.reduceEq, Bool.or_not_self, beq_self_eq_true, a1, a2, a3, nm]
      have b1 : 1 ≤ x.length := by omega
      have b2 : x.length ≤ 12 := by omega
      have cl : x.cps.toList.length = x.length := by simp [Str.length]
      refine lc_P digA (fun _ => trivial) (by unfold signs; rw [List.length_map]; omega) (fun y hy => ?_) ?_
      · unfold signs at hy
        obtain ⟨c, hc', rfl⟩ := List.mem_map.mp hy
        have e : ∀ k, oInX (.str ⟨#[c]⟩) (.str DIG) (S ++ k) = .ok (.bl (decide (c ∈ DIG.cps.toList))) (S ++ k) := fun _ => rfl
        refine ⟨_, rfl, fun k => ?_⟩
        simp only [wp_okR, wp_okF, wp_fin, wp_next, wp_then, wp_bind, wp_nox, wp_tK, wp_bK, wp_fr, wp_fn, wp_nn, wp_nr, wp_nb, wp_nc, wp_ln, wp_lc, wp_lb, wp_lr, wp_jn, wp_jc, ev_bok, ev_bno, ev_bex, ev_tok, ev_tno, ev_tex, ev_nnx, ev_nrt, ev_nbk, ev_nct, ev_nex, ev_nno, ev_frt, ev_fnx, ev_fex, ev_xok, ev_lsome, ev_lnone, ev_seq, ev_if, ev_ret, ev_retN, ev_drop, ev_nop, ev_brk, ev_cont, ev_asgN, ev_asgT, ev_asgO, ev_mgTup, ev_mgN, ev_mgC, ev_mg0, ev_putL, ev_putO, ev_var, ev_vr, ev_c, ev_op, ev_un, ev_test, ev_tb, ev_notT, ev_andT, ev_orT, ev_ifE, ev_not, ev_nb, ev_and, ev_andK, ev_or, ev_orK, ev_chain, ev_chK, ev_nil, ev_cons, ev_tup, ev_lst, ev_new, ev_call, ev_cb, ev_size, ev_addI, ev_addS, ev_addT, ev_addL, ev_catO, ev_sub, ev_mul, ev_div, ev_mod, ev_p5, ev_p6, ev_p12, ev_p18, ev_p30, ev_neg, ev_ltI, ev_ltS, ev_leI, ev_leS, ev_gt, ev_ge, ev_eqI, ev_eqS, ev_neI, ev_neS, ev_neB, ev_eqB, ev_is, ev_isnot, ev_ixT, ev_ixS, ev_ixR, ev_ixL, ev_ixK, ev_getL, ev_getM, ev_gL, ev_gM, ev_at0, ev_at1, ev_at2, ev_at3, ev_at4, ev_lenS, ev_lenR, ev_lenT, ev_lenL, ev_lenO, ev_lenD, ev_abs, ev_min2, ev_max2, ev_intI, ev_intB, ev_set, ev_fc, ev_setset, ev_last, ev_appk, ev_app0, ev_setk, ev_set0, ev_assoc, ev_lapp, ev_lappA, ev_sl, ev_nopart, ev_part, ev_ptK, ev_slT, ev_slS, ev_slR, ev_slK, ev_tyN, ev_tyB, ev_tyI, ev_tyS, ev_tyT, ev_tyL, ev_tyR, ev_tyRL, ev_isi, ev_isi1, ev_isi2, ev_isi3, ev_isi4, ev_isi5, ev_isiT, ev_isi2K, ev_isTy, ev_list, ev_listK, ev_tuple, ev_tupK, ev_getST, ev_getSR, ev_getSL, ev_all, ev_allK, ev_eqXI, ev_eqXS, ev_neXI, ev_neXS, ev_neXB, ev_eqXB, ev_eqXR, ev_neXR, ev_nil2, ev_eqK, ev_neK, ev_meth, ev_meth0, ev_mth1, ev_mth2, ev_mth3, ev_append, ev_m0, ev_m0K, ev_str, ev_for, ev_miR1, ev_rg1K, ev_miL, ev_liK, ev_miT, ev_tiK, ev_lc, ev_wipe0, ev_wipeS, ev_yes, ev_lenSet, ev_lenSetK, ev_listR, ev_lrK, ev_put2, ev_p2A, ev_p2K, ev_p2E, ev_put1, ev_pt1, ev_addXI, ev_addXB, ev_addXS, ev_addXT, ev_addXL, ev_subXI, ev_subXB, ev_mulXI, ev_mulXB, ev_mulXL, ev_negXI, ev_negXB, ev_strXI, ev_strXB, ev_mulYI, ev_mulYB, ev_mulYL, ev_mulYT, ev_dnew, ev_dnewT, ev_dgetE, ev_getD, ev_gD, ev_keyI, ev_keyS, ev_dgK, ev_dinE, ev_diK, ev_dputE, ev_dpK, ev_dget2E, ev_isDA, ev_isSome, ev_isNone, ev_dg2K, ev_dpop2E, ev_dp2K, ev_dp3S, ev_dp3N, ev_sortedE, ev_srO1, ev_srO2, ev_gLd, ev_srKS, ev_srKI, ev_gDT, ev_gT, ev_tinE, ev_tiKK, ev_keysA, ev_keysN, ev_keysC, ev_dputTE, ev_dptK, ev_dispE, ev_mpN, ev_mpC, ev_pcK, ev_dsK, ev_dsK2, ev_lc2E, ev_imp, ev_simp, ev_split, ev_splF, ev_splG, ev_fmt, ev_fmtS, ev_fmtI, ev_addK, ev_js0, ev_js1, ev_joined, ev_star, ev_starK, ev_each2, ev_each2K, ev_unl, ev_unlK, ev_intS, ev_strYS, ev_strYI, ev_fldE, ev_getI, ev_gI, ev_fdK, ev_fldS, ev_fpK, ev_mtE, ev_miK, ev_mkE, ev_mkK, ev_callE, ev_tryAs, ev_raise0, ev_raise1, ev_raiseN, ev_revS, ev_revK, ev_zip, ev_enumF, ev_enum, ev_kget, ev_kgK, ev_index, List.getElem?_cons_zero, List.getElem?_cons_succ, List.set_cons_zero, List.set_cons_succ, List.length_cons, List.length_nil, List.cons_append, List.nil_append, if_true, if_false, Bool.false_eq_true, Bool.true_eq_false, reduceIte, Bool.not_true, Bool.not_false, Bool.and_true, Bool.true_and, Bool.and_false, Bool.false_and, Bool.or_true, Bool.true_or, Bool.or_false, Bool.false_or, decide_eq_true_eq, Nat.reduceAdd, Nat.reduceLeDiff, Nat.zero_add, Int.reduceLT, Int.reduceLE, Int.reduceEq, Int.reduceNeg, Nat.reduceEqDiff, and_self, and_true, true_and, decide_true, decide_false, eq_self, ite_true, ite_false, Int.reduceSub, Int.reduceAdd, Int.cast_ofNat_Int, Int.natCast_add, Int.cast_ofNat_Int, Nat.reduceSub, Nat.add_assoc, String.reduceBEq, String.reduceEq, Bool.or_not_self, beq_self_eq_true, e, digA]
        simp
      · have lf : ∀ (a : A) (s : Sto), lift (some a) s = .ok a s := fun _ _ => rfl
        obtain ⟨c0, r, hc0⟩ := head_at b1
        have at0 : atI x.cps.toList 0 = some c0 := by
          rw [hc0]
          exact at0_is _ _
        have hh : decide (x.cps.toList.head? = some 48) = decide ((⟨#[c0]⟩ : Str) = Str.ofString "0") := by
          rw [hc0, zz]
          apply decide_eq_decide.mpr
          simp
        cases hd : digW x with
        | false =>
          simp only [wp_okR, wp_okF, wp_fin, wp_next, wp_then, wp_bind, wp_nox, wp_tK, wp_bK, wp_fr, wp_fn, wp_nn, wp_nr, wp_nb, wp_nc, wp_ln, wp_lc, wp_lb, wp_lr, wp_jn, wp_jc, ev_bok, ev_bno, ev_bex, ev_tok, ev_tno, ev_tex, ev_nnx, ev_nrt, ev_nbk, ev_nct, ev_nex, ev_nno, ev_frt, ev_fnx, ev_fex, ev_xok, ev_lsome, ev_lnone, ev_seq, ev_if, ev_ret, ev_retN, ev_drop, ev_nop, ev_brk, ev_cont, ev_asgN, ev_asgT, ev_asgO, ev_mgTup, ev_mgN, ev_mgC, ev_mg0, ev_putL, ev_putO, ev_var, ev_vr, ev_c, ev_op, ev_un, ev_test, ev_tb, ev_notT, ev_andT, ev_orT, ev_ifE, ev_not, ev_nb, ev_and, ev_andK, ev_or, ev_orK, ev_chain, ev_chK, ev_nil, ev_cons, ev_tup, ev_lst, ev_new, ev_call, ev_cb, ev_size, ev_addI, ev_addS, ev_addT, ev_addL, ev_catO, ev_sub, ev_mul, ev_div, ev_mod, ev_p5, ev_p6, ev_p12, ev_p18, ev_p30, ev_neg, ev_ltI, ev_ltS, ev_leI, ev_leS, ev_gt, ev_ge, ev_eqI, ev_eqS, ev_neI, ev_neS, ev_neB, ev_eqB, ev_is, ev_isnot, ev_ixT, ev_ixS, ev_ixR, ev_ixL, ev_ixK, ev_getL, ev_getM, ev_gL, ev_gM, ev_at0, ev_at1, ev_at2, ev_at3, ev_at4, ev_lenS, ev_lenR, ev_lenT, ev_lenL, ev_lenO, ev_lenD, ev_abs, ev_min2, ev_max2, ev_intI, ev_intB, ev_set, ev_fc, ev_setset, ev_last, ev_appk, ev_app0, ev_setk, ev_set0, ev_assoc, ev_lapp, ev_lappA, ev_sl, ev_nopart, ev_part, ev_ptK, ev_slT, ev_slS, ev_slR, ev_slK, ev_tyN, ev_tyB, ev_tyI, ev_tyS, ev_tyT, ev_tyL, ev_tyR, ev_tyRL, ev_isi, ev_isi1, ev_isi2, ev_isi3, ev_isi4, ev_isi5, ev_isiT, ev_isi2K, ev_isTy, ev_list, ev_listK, ev_tuple, ev_tupK, ev_getST, ev_getSR, ev_getSL, ev_all, ev_allK, ev_eqXI, ev_eqXS, ev_neXI, ev_neXS, ev_neXB, ev_eqXB, ev_eqXR, ev_neXR, ev_nil2, ev_eqK, ev_neK, ev_meth, ev_meth0, ev_mth1, ev_mth2, ev_mth3, ev_append, ev_m0, ev_m0K, ev_str, ev_for, ev_miR1, ev_rg1K, ev_miL, ev_liK, ev_miT, ev_tiK, ev_lc, ev_wipe0, ev_wipeS, ev_yes, ev_lenSet, ev_lenSetK, ev_listR, ev_lrK, ev_put2, ev_p2A, ev_p2K, ev_p2E, ev_put1, ev_pt1, ev_addXI, ev_addXB, ev_addXS, ev_addXT, ev_addXL, ev_subXI, ev_subXB, ev_mulXI, ev_mulXB, ev_mulXL, ev_negXI, ev_negXB, ev_strXI, ev_strXB, ev_mulYI, ev_mulYB, ev_mulYL, ev_mulYT, ev_dnew, ev_dnewT, ev_dgetE, ev_getD, ev_gD, ev_keyI, ev_keyS, ev_dgK, ev_dinE, ev_diK, ev_dputE, ev_dpK, ev_dget2E, ev_isDA, ev_isSome, ev_isNone, ev_dg2K, ev_dpop2E, ev_dp2K, ev_dp3S, ev_dp3N, ev_sortedE, ev_srO1, ev_srO2, ev_gLd, ev_srKS, ev_srKI, ev_gDT, ev_gT, ev_tinE, ev_tiKK, ev_keysA, ev_keysN, ev_keysC, ev_dputTE, ev_dptK, ev_dispE, ev_mpN, ev_mpC, ev_pcK, ev_dsK, ev_dsK2, ev_lc2E, ev_imp, ev_simp, ev_split, ev_splF, ev_splG, ev_fmt, ev_fmtS, ev_fmtI, ev_addK, ev_js0, ev_js1, ev_joined, ev_star, ev_starK, ev_each2, ev_each2K, ev_unl, ev_unlK, ev_intS, ev_strYS, ev_strYI, ev_fldE, ev_getI, ev_gI, ev_fdK, ev_fldS, ev_fpK, ev_mtE, ev_miK, ev_mkE, ev_mkK, ev_callE, ev_tryAs, ev_raise0, ev_raise1, ev_raiseN, ev_revS, ev_revK, ev_zip, ev_enumF, ev_enum, ev_kget, ev_kgK, ev_index, List.getElem?_cons_zero, List.getElem?_cons_succ, List.set_cons_zero, List.set_cons_succ, List.length_cons, List.length_nil, List.cons_append, List.nil_append, if_true, if_false, Bool.false_eq_true, Bool.true_eq_false, reduceIte, Bool.not_true, Bool.not_false, Bool.and_true, Bool.true_and, Bool.and_false, Bool.false_and, Bool.or_true, Bool.true_or, Bool.or_false, Bool.false_or, decide_eq_true_eq, Nat.reduceAdd, Nat.reduceLeDiff, Nat.zero_add, Int.reduceLT, Int.reduceLE, Int.reduceEq, Int.reduceNeg, Nat.reduceEqDiff, and_self, and_true, true_and, decide_true, decide_false, eq_self, ite_true, ite_false, Int.reduceSub, Int.reduceAdd, Int.cast_ofNat_Int, Int.natCast_add, Int.cast_ofNat_Int, Nat.reduceSub, Nat.add_assoc, String.reduceBEq, String.reduceEq, Bool.or_not_self, beq_self_eq_true, bls_dig, Option.map_some, digF_all, lf, hd]
          refine ⟨?_, _, rfl⟩
          unfold numR numK
          rw [hd]
          simp
        | true =>
          have hi := int_dig hd b1 b2
          have a4 : x.length ≤ 640 := by omega
          cases d1 : decide ((⟨#[c0]⟩ : Str) = Str.ofString "0") with
          | false =>
            simp only [wp_okR, wp_okF, wp_fin, wp_next, wp_then, wp_bind, wp_nox, wp_tK, wp_bK, wp_fr, wp_fn, wp_nn, wp_nr, wp_nb, wp_nc, wp_ln, wp_lc, wp_lb, wp_lr, wp_jn, wp_jc, ev_bok, ev_bno, ev_bex, ev_tok, ev_tno, ev_tex, ev_nnx, ev_nrt, ev_nbk, ev_nct, ev_nex, ev_nno, ev_frt, ev_fnx, ev_fex, ev_xok, ev_lsome, ev_lnone, ev_seq, ev_if, ev_ret, ev_retN, ev_drop, ev_nop, ev_brk, ev_cont, ev_asgN, ev_asgT, ev_asgO, ev_mgTup, ev_mgN, ev_mgC, ev_mg0, ev_putL, ev_putO, ev_var, ev_vr, ev_c, ev_op, ev_un, ev_test, ev_tb, ev_notT, ev_andT, ev_orT, ev_ifE, ev_not, ev_nb, ev_and, ev_andK, ev_or, ev_orK, ev_chain, ev_chK, ev_nil, ev_cons, ev_tup, ev_lst, ev_new, ev_call, ev_cb, ev_size, ev_addI, ev_addS, ev_addT, ev_addL, ev_catO, ev_sub, ev_mul, ev_div, ev_mod, ev_p5, ev_p6, ev_p12, ev_p18, ev_p30, ev_neg, ev_ltI, ev_ltS, ev_leI, ev_leS, ev_gt, ev_ge, ev_eqI, ev_eqS, ev_neI, ev_neS, ev_neB, ev_eqB, ev_is, ev_isnot, ev_ixT, ev_ixS, ev_ixR, ev_ixL, ev_ixK, ev_getL, ev_getM, ev_gL, ev_gM, ev_at0, ev_at1, ev_at2, ev_at3, ev_at4, ev_lenS, ev_lenR, ev_lenT, ev_lenL, ev_lenO, ev_lenD, ev_abs, ev_min2, ev_max2, ev_intI, ev_intB, ev_set, ev_fc, ev_setset, ev_last, ev_appk, ev_app0, ev_setk, ev_set0, ev_assoc, ev_lapp, ev_lappA, ev_sl, ev_nopart, ev_part, ev_ptK, ev_slT, ev_slS, ev_slR, ev_slK, ev_tyN, ev_tyB, ev_tyI, ev_tyS, ev_tyT, ev_tyL, ev_tyR, ev_tyRL, ev_isi, ev_isi1, ev_isi2, ev_isi3, ev_isi4, ev_isi5, ev_isiT, ev_isi2K, ev_isTy, ev_list, ev_listK, ev_tuple, ev_tupK, ev_getST, ev_getSR, ev_getSL, ev_all, ev_allK, ev_eqXI, ev_eqXS, ev_neXI, ev_neXS, ev_neXB, ev_eqXB, ev_eqXR, ev_neXR, ev_nil2, ev_eqK, ev_neK, ev_meth, ev_meth0, ev_mth1, ev_mth2, ev_mth3, ev_append, ev_m0, ev_m0K, ev_str, ev_for, ev_miR1, ev_rg1K, ev_miL, ev_liK, ev_miT, ev_tiK, ev_lc, ev_wipe0, ev_wipeS, ev_yes, ev_lenSet, ev_lenSetK, ev_listR, ev_lrK, ev_put2, ev_p2A, ev_p2K, ev_p2E, ev_put1, ev_pt1, ev_addXI, ev_addXB, ev_addXS, ev_addXT, ev_addXL, ev_subXI, ev_subXB, ev_mulXI, ev_mulXB, ev_mulXL, ev_negXI, ev_negXB, ev_strXI, ev_strXB, ev_mulYI, ev_mulYB, ev_mulYL, ev_mulYT, ev_dnew, ev_dnewT, ev_dgetE, ev_getD, ev_gD, ev_keyI, ev_keyS, ev_dgK, ev_dinE, ev_diK, ev_dputE, ev_dpK, ev_dget2E, ev_isDA, ev_isSome, ev_isNone, ev_dg2K, ev_dpop2E, ev_dp2K, ev_dp3S, ev_dp3N, ev_sortedE, ev_srO1, ev_srO2, ev_gLd, ev_srKS, ev_srKI, ev_gDT, ev_gT, ev_tinE, ev_tiKK, ev_keysA, ev_keysN, ev_keysC, ev_dputTE, ev_dptK, ev_dispE, ev_mpN, ev_mpC, ev_pcK, ev_dsK, ev_dsK2, ev_lc2E, ev_imp, ev_simp, ev_split, ev_splF, ev_splG, ev_fmt, ev_fmtS, ev_fmtI, ev_addK, ev_js0, ev_js1, ev_joined, ev_star, ev_starK, ev_each2, ev_each2K, ev_unl, ev_unlK, ev_intS, ev_strYS, ev_strYI, ev_fldE, ev_getI, ev_gI, ev_fdK, ev_fldS, ev_fpK, ev_mtE, ev_miK, ev_mkE, ev_mkK, ev_callE, ev_tryAs, ev_raise0, ev_raise1, ev_raiseN, ev_revS, ev_revK, ev_zip, ev_enumF, ev_enum, ev_kget, ev_kgK, ev_index, List.getElem?_cons_zero, List.getElem?_cons_succ, List.set_cons_zero, List.set_cons_succ, List.length_cons, List.length_nil, List.cons_append, List.nil_append, if_true, if_false, Bool.false_eq_true, Bool.true_eq_false, reduceIte, Bool.not_true, Bool.not_false, Bool.and_true, Bool.true_and, Bool.and_false, Bool.false_and, Bool.or_true, Bool.true_or, Bool.or_false, Bool.false_or, decide_eq_true_eq, Nat.reduceAdd, Nat.reduceLeDiff, Nat.zero_add, Int.reduceLT, Int.reduceLE, Int.reduceEq, Int.reduceNeg, Nat.reduceEqDiff, and_self, and_true, true_and, decide_true, decide_false, eq_self, ite_true, ite_false, Int.reduceSub, Int.reduceAdd, Int.cast_ofNat_Int, Int.natCast_add, Int.cast_ofNat_Int, Nat.reduceSub, Nat.add_assoc, String.reduceBEq, String.reduceEq, Bool.or_not_self, beq_self_eq_true, bls_dig, Option.map_some, digF_all, lf, hd, at0, a3, a4, d1, hi]
            refine ⟨?_, _, rfl⟩
            unfold numR numK
            rw [hd, hh, d1]
            simp [b1, b2]
          | true =>
            cases d2 : decide (x = Str.ofString "0") with
            | true =>
              simp only [wp_okR, wp_okF, wp_fin, wp_next, wp_then, wp_bind, wp_nox, wp_tK, wp_bK, wp_fr, wp_fn, wp_nn, wp_nr, wp_nb, wp_nc, wp_ln, wp_lc, wp_lb, wp_lr, wp_jn, wp_jc, ev_bok, ev_bno, ev_bex, ev_tok, ev_tno, ev_tex, ev_nnx, ev_nrt, ev_nbk, ev_nct, ev_nex, ev_nno, ev_frt, ev_fnx, ev_fex, ev_xok, ev_lsome, ev_lnone, ev_seq, ev_if, ev_ret, ev_retN, ev_drop, ev_nop, ev_brk, ev_cont, ev_asgN, ev_asgT, ev_asgO, ev_mgTup, ev_mgN, ev_mgC, ev_mg0, ev_putL, ev_putO, ev_var, ev_vr, ev_c, ev_op, ev_un, ev_test, ev_tb, ev_notT, ev_andT, ev_orT, ev_ifE, ev_not, ev_nb, ev_and, ev_andK, ev_or, ev_orK, ev_chain, ev_chK, ev_nil, ev_cons, ev_tup, ev_lst, ev_new, ev_call, ev_cb, ev_size, ev_addI, ev_addS, ev_addT, ev_addL, ev_catO, ev_sub, ev_mul, ev_div, ev_mod, ev_p5, ev_p6, ev_p12, ev_p18, ev_p30, ev_neg, ev_ltI, ev_ltS, ev_leI, ev_leS, ev_gt, ev_ge, ev_eqI, ev_eqS, ev_neI, ev_neS, ev_neB, ev_eqB, ev_is, ev_isnot, ev_ixT, ev_ixS, ev_ixR, ev_ixL, ev_ixK, ev_getL, ev_getM, ev_gL, ev_gM, ev_at0, ev_at1, ev_at2, ev_at3, ev_at4, ev_lenS, ev_lenR, ev_lenT, ev_lenL, ev_lenO, ev_lenD, ev_abs, ev_min2, ev_max2, ev_intI, ev_intB, ev_set, ev_fc, ev_setset, ev_last, ev_appk, ev_app0, ev_setk, ev_set0, ev_assoc, ev_lapp, ev_lappA, ev_sl, ev_nopart, ev_part, ev_ptK, ev_slT, ev_slS, ev_slR, ev_slK, ev_tyN, ev_tyB, ev_tyI, ev_tyS, ev_tyT, ev_tyL, ev_tyR, ev_tyRL, ev_isi, ev_isi1, ev_isi2, ev_isi3, ev_isi4, ev_isi5, ev_isiT, ev_isi2K, ev_isTy, ev_list, ev_listK, ev_tuple, ev_tupK, ev_getST, ev_getSR, ev_getSL, ev_all, ev_allK, ev_eqXI, ev_eqXS, ev_neXI, ev_neXS, ev_neXB, ev_eqXB, ev_eqXR, ev_neXR, ev_nil2, ev_eqK, ev_neK, ev_meth, ev_meth0, ev_mth1, ev_mth2, ev_mth3, ev_append, ev_m0, ev_m0K, ev_str, ev_for, ev_miR1, ev_rg1K, ev_miL, ev_liK, ev_miT, ev_tiK, ev_lc, ev_wipe0, ev_wipeS, ev_yes, ev_lenSet, ev_lenSetK, ev_listR, ev_lrK, ev_put2, ev_p2A, ev_p2K, ev_p2E, ev_put1, ev_pt1, ev_addXI, ev_addXB, ev_addXS, ev_addXT, ev_addXL, ev_subXI, ev_subXB, ev_mulXI, ev_mulXB, ev_mulXL, ev_negXI, ev_negXB, ev_strXI, ev_strXB, ev_mulYI, ev_mulYB, ev_mulYL, ev_mulYT, ev_dnew, ev_dnewT, ev_dgetE, ev_getD, ev_gD, ev_keyI, ev_keyS, ev_dgK, ev_dinE, ev_diK, ev_dputE, ev_dpK, ev_dget2E, ev_isDA, ev_isSome, ev_isNone, ev_dg2K, ev_dpop2E, ev_dp2K, ev_dp3S, ev_dp3N, ev_sortedE, ev_srO1, ev_srO2, ev_gLd, ev_srKS, ev_srKI, ev_gDT, ev_gT, ev_tinE, ev_tiKK, ev_keysA, ev_keysN, ev_keysC, ev_dputTE, ev_dptK, ev_dispE, ev_mpN, ev_mpC, ev_pcK, ev_dsK, ev_dsK2, ev_lc2E, ev_imp, ev_simp, ev_split, ev_splF, ev_splG, ev_fmt, ev_fmtS, ev_fmtI, ev_addK, ev_js0, ev_js1, ev_joined, ev_star, ev_starK, ev_each2, ev_each2K, ev_unl, ev_unlK, ev_intS, ev_strYS, ev_strYI, ev_fldE, ev_getI, ev_gI, ev_fdK, ev_fldS, ev_fpK, ev_mtE, ev_miK, ev_mkE, ev_mkK, ev_callE, ev_tryAs, ev_raise0, ev_raise1, ev_raiseN, ev_revS, ev_revK, ev_zip, ev_enumF, ev_enum, ev_kget, ev_kgK, ev_index, List.getElem?_cons_zero, List.getElem?_cons_succ, List.set_cons_zero, List.set_cons_succ, List.length_cons, List.length_nil, List.cons_append, List.nil_append, if_true, if_false, Bool.false_eq_true, Bool.true_eq_false, reduceIte, Bool.not_true, Bool.not_false, Bool.and_true, Bool.true_and, Bool.and_false, Bool.false_and, Bool.or_true, Bool.true_or, Bool.or_false, Bool.false_or, decide_eq_true_eq, Nat.reduceAdd, Nat.reduceLeDiff, Nat.zero_add, Int.reduceLT, Int.reduceLE, Int.reduceEq, Int.reduceNeg, Nat.reduceEqDiff, and_self, and_true, true_and, decide_true, decide_false, eq_self, ite_true, ite_false, Int.reduceSub, Int.reduceAdd, Int.cast_ofNat_Int, Int.natCast_add, Int.cast_ofNat_Int, Nat.reduceSub, Nat.add_assoc, String.reduceBEq, String.reduceEq, Bool.or_not_self, beq_self_eq_true, bls_dig, Option.map_some, digF_all, lf, hd, at0, a3, a4, d1, d2, hi]
              refine ⟨?_, _, rfl⟩
              unfold numR numK
              rw [hd, hh, d1, d2]
              simp [b1, b2]
            | false =>
              simp only [wp_okR, wp_okF, wp_fin, wp_next, wp_then, wp_bind, wp_nox, wp_tK, wp_bK, wp_fr, wp_fn, wp_nn, wp_nr, wp_nb, wp_nc, wp_ln, wp_lc, wp_lb, wp_lr, wp_jn, wp_jc, ev_bok, ev_bno, ev_bex, ev_tok, ev_tno, ev_tex, ev_nnx, ev_nrt, ev_nbk, ev_nct, ev_nex, ev_nno, ev_frt, ev_fnx, ev_fex, ev_xok, ev_lsome, ev_lnone, ev_seq, ev_if, ev_ret, ev_retN, ev_drop, ev_nop, ev_brk, ev_cont, ev_asgN, ev_asgT, ev_asgO, ev_mgTup, ev_mgN, ev_mgC, ev_mg0, ev_putL, ev_putO, ev_var, ev_vr, ev_c, ev_op, ev_un, ev_test, ev_tb, ev_notT, ev_andT, ev_orT, ev_ifE, ev_not, ev_nb, ev_and, ev_andK, ev_or, ev_orK, ev_chain, ev_chK, ev_nil, ev_cons, ev_tup, ev_lst, ev_new, ev_call, ev_cb, ev_size, ev_addI, ev_addS, ev_addT, ev_addL, ev_catO, ev_sub, ev_mul, ev_div, ev_mod, ev_p5, ev_p6, ev_p12, ev_p18, ev_p30, ev_neg, ev_ltI, ev_ltS, ev_leI, ev_leS, ev_gt, ev_ge, ev_eqI, ev_eqS, ev_neI, ev_neS, ev_neB, ev_eqB, ev_is, ev_isnot, ev_ixT, ev_ixS, ev_ixR, ev_ixL, ev_ixK, ev_getL, ev_getM, ev_gL, ev_gM, ev_at0, ev_at1, ev_at2, ev_at3, ev_at4, ev_lenS, ev_lenR, ev_lenT, ev_lenL, ev_lenO, ev_lenD, ev_abs, ev_min2, ev_max2, ev_intI, ev_intB, ev_set, ev_fc, ev_setset, ev_last, ev_appk, ev_app0, ev_setk, ev_set0, ev_assoc, ev_lapp, ev_lappA, ev_sl, ev_nopart, ev_part, ev_ptK, ev_slT, ev_slS, ev_slR, ev_slK, ev_tyN, ev_tyB, ev_tyI, ev_tyS, ev_tyT, ev_tyL, ev_tyR, ev_tyRL, ev_isi, ev_isi1, ev_isi2, ev_isi3, ev_isi4, ev_isi5, ev_isiT, ev_isi2K, ev_isTy, ev_list, ev_listK, ev_tuple, ev_tupK, ev_getST, ev_getSR, ev_getSL, ev_all, ev_allK, ev_eqXI, ev_eqXS, ev_neXI, ev_neXS, ev_neXB, ev_eqXB, ev_eqXR, ev_neXR, ev_nil2, ev_eqK, ev_neK, ev_meth, ev_meth0, ev_mth1, ev_mth2, ev_mth3, ev_append, ev_m0, ev_m0K, ev_str, ev_for, ev_miR1, ev_rg1K, ev_miL, ev_liK, ev_miT, ev_tiK, ev_lc, ev_wipe0, ev_wipeS, ev_yes, ev_lenSet, ev_lenSetK, ev_listR, ev_lrK, ev_put2, ev_p2A, ev_p2K, ev_p2E, ev_put1, ev_pt1, ev_addXI, ev_addXB, ev_addXS, ev_addXT, ev_addXL, ev_subXI, ev_subXB, ev_mulXI, ev_mulXB, ev_mulXL, ev_negXI, ev_negXB, ev_strXI, ev_strXB, ev_mulYI, ev_mulYB, ev_mulYL, ev_mulYT, ev_dnew, ev_dnewT, ev_dgetE, ev_getD, ev_gD, ev_keyI, ev_keyS, ev_dgK, ev_dinE, ev_diK, ev_dputE, ev_dpK, ev_dget2E, ev_isDA, ev_isSome, ev_isNone, ev_dg2K, ev_dpop2E, ev_dp2K, ev_dp3S, ev_dp3N, ev_sortedE, ev_srO1, ev_srO2, ev_gLd, ev_srKS, ev_srKI, ev_gDT, ev_gT, ev_tinE, ev_tiKK, ev_keysA, ev_keysN, ev_keysC, ev_dputTE, ev_dptK, ev_dispE, ev_mpN, ev_mpC, ev_pcK, ev_dsK, ev_dsK2, ev_lc2E, ev_imp, ev_simp, ev_split, ev_splF, ev_splG, ev_fmt, ev_fmtS, ev_fmtI, ev_addK, ev_js0, ev_js1, ev_joined, ev_star, ev_starK, ev_each2, ev_each2K, ev_unl, ev_unlK, ev_intS, ev_strYS, ev_strYI, ev_fldE, ev_getI, ev_gI, ev_fdK, ev_fldS, ev_fpK, ev_mtE, ev_miK, ev_mkE, ev_mkK, ev_callE, ev_tryAs, ev_raise0, ev_raise1, ev_raiseN, ev_revS, ev_revK, ev_zip, ev_enumF, ev_enum, ev_kget, ev_kgK, ev_index, List.getElem?_cons_zero, List.getElem?_cons_succ, List.set_cons_zero, List.set_cons_succ, List.length_cons, List.length_nil, List.cons_append, List.nil_append, if_true, if_false, Bool.false_eq_true, Bool.true_eq_false, reduceIte, Bool.not_true, Bool.not_false, Bool.and_true, Bool.true_and, Bool.and_false, Bool.false_and, Bool.or_true, Bool.true_or, Bool.or_false, Bool.false_or, decide_eq_true_eq, Nat.reduceAdd, Nat.reduceLeDiff, Nat.zero_add, Int.reduceLT, Int.reduceLE, Int.reduceEq, Int.reduceNeg, Nat.reduceEqDiff, and_self, and_true, true_and, decide_true, decide_false, eq_self, ite_true, ite_false, Int.reduceSub, Int.reduceAdd, Int.cast_ofNat_Int, Int.natCast_add, Int.cast_ofNat_Int, Nat.reduceSub, Nat.add_assoc, String.reduceBEq, String.reduceEq, Bool.or_not_self, beq_self_eq_true, bls_dig, Option.map_some, digF_all, lf, hd, at0, a3, a4, d1, d2, hi]
              refine ⟨?_, _, rfl⟩
              unfold numR numK
              rw [hd, hh, d1, d2]
              simp
    · simp only [wp_okR, wp_okF, wp_fin, wp_next, wp_then, wp_bind, wp_nox, wp_tK, wp_bK, wp_fr, wp_fn, wp_nn, wp_nr, wp_nb, wp_nc, wp_ln, wp_lc, wp_lb, wp_lr, wp_jn, wp_jc, ev_bok, ev_bno, ev_bex, ev_tok, ev_tno, ev_tex, ev_nnx, ev_nrt, ev_nbk, ev_nct, ev_nex, ev_nno, ev_frt, ev_fnx, ev_fex, ev_xok, ev_lsome, ev_lnone, ev_seq, ev_if, ev_ret, ev_retN, ev_drop, ev_nop, ev_brk, ev_cont, ev_asgN, ev_asgT, ev_asgO, ev_mgTup, ev_mgN, ev_mgC, ev_mg0, ev_putL, ev_putO, ev_var, ev_vr, ev_c, ev_op, ev_un, ev_test, ev_tb, ev_notT, ev_andT, ev_orT, ev_ifE, ev_not, ev_nb, ev_and, ev_andK, ev_or, ev_orK, ev_chain, ev_chK, ev_nil, ev_cons, ev_tup, ev_lst, ev_new, ev_call, ev_cb, ev_size, ev_addI, ev_addS, ev_addT, ev_addL, ev_catO, ev_sub, ev_mul, ev_div, ev_mod, ev_p5, ev_p6, ev_p12, ev_p18, ev_p30, ev_neg, ev_ltI, ev_ltS, ev_leI, ev_leS, ev_gt, ev_ge, ev_eqI, ev_eqS, ev_neI, ev_neS, ev_neB, ev_eqB, ev_is, ev_isnot, ev_ixT, ev_ixS, ev_ixR, ev_ixL, ev_ixK, ev_getL, ev_getM, ev_gL, ev_gM, ev_at0, ev_at1, ev_at2, ev_at3, ev_at4, ev_lenS, ev_lenR, ev_lenT, ev_lenL, ev_lenO, ev_lenD, ev_abs, ev_min2, ev_max2, ev_intI, ev_intB, ev_set, ev_fc, ev_setset, ev_last, ev_appk, ev_app0, ev_setk, ev_set0, ev_assoc, ev_lapp, ev_lappA, ev_sl, ev_nopart, ev_part, ev_ptK, ev_slT, ev_slS, ev_slR, ev_slK, ev_tyN, ev_tyB, ev_tyI, ev_tyS, ev_tyT, ev_tyL, ev_tyR, ev_tyRL, ev_isi, ev_isi1, ev_isi2, ev_isi3, ev_isi4, ev_isi5, ev_isiT, ev_isi2K, ev_isTy, ev_list, ev_listK, ev_tuple, ev_tupK, ev_getST, ev_getSR, ev_getSL, ev_all, ev_allK, ev_eqXI, ev_eqXS, ev_neXI, ev_neXS, ev_neXB, ev_eqXB, ev_eqXR, ev_neXR, ev_nil2, ev_eqK, ev_neK, ev_meth, ev_meth0, ev_mth1, ev_mth2, ev_mth3, ev_append, ev_m0, ev_m0K, ev_str, ev_for, ev_miR1, ev_rg1K, ev_miL, ev_liK, ev_miT, ev_tiK, ev_lc, ev_wipe0, ev_wipeS, ev_yes, ev_lenSet, ev_lenSetK, ev_listR, ev_lrK, ev_put2, ev_p2A, ev_p2K, ev_p2E, ev_put1, ev_pt1, ev_addXI, ev_addXB, ev_addXS, ev_addXT, ev_addXL, ev_subXI, ev_subXB, ev_mulXI, ev_mulXB, ev_mulXL, ev_negXI, ev_negXB, ev_strXI, ev_strXB, ev_mulYI, ev_mulYB, ev_mulYL, ev_mulYT, ev_dnew, ev_dnewT, ev_dgetE, ev_getD, ev_gD, ev_keyI, ev_keyS, ev_dgK, ev_dinE, ev_diK, ev_dputE, ev_dpK, ev_dget2E, ev_isDA, ev_isSome, ev_isNone, ev_dg2K, ev_dpop2E, ev_dp2K, ev_dp3S, ev_dp3N, ev_sortedE, ev_srO1, ev_srO2, ev_gLd, ev_srKS, ev_srKI, ev_gDT, ev_gT, ev_tinE, ev_tiKK, ev_keysA, ev_keysN, ev_keysC, ev_dputTE, ev_dptK, ev_dispE, ev_mpN, ev_mpC, ev_pcK, ev_dsK, ev_dsK2, ev_lc2E, ev_imp, ev_simp, ev_split, ev_splF, ev_splG, ev_fmt, ev_fmtS, ev_fmtI, ev_addK, ev_js0, ev_js1, ev_joined, ev_star, ev_starK, ev_each2, ev_each2K, ev_unl, ev_unlK, ev_intS, ev_strYS, ev_strYI, ev_fldE, ev_getI, ev_gI, ev_fdK, ev_fldS, ev_fpK, ev_mtE, ev_miK, ev_mkE, ev_mkK, ev_callE, ev_tryAs, ev_raise0, ev_raise1, ev_raiseN, ev_revS, ev_revK, ev_zip, ev_enumF, ev_enum, ev_kget, ev_kgK, ev_index, List.getElem?_cons_zero, List.getElem?_cons_succ, List.set_cons_zero, List.set_cons_succ, List.length_cons, List.length_nil, List.cons_append, List.nil_append, if_true, if_false, Bool.false_eq_true, Bool.true_eq_false, reduceIte, Bool.not_true, Bool.not_false, Bool.and_true, Bool.true_and, Bool.and_false, Bool.false_and, Bool.or_true, Bool.true_or, Bool.or_false, Bool.false_or, decide_eq_true_eq, Nat.reduceAdd, Nat.reduceLeDiff, Nat.zero_add, Int.reduceLT, Int.reduceLE, Int.reduceEq, Int.reduceNeg, Nat.reduceEqDiff, and_self, and_true, true_and, decide_true, decide_false, eq_self, ite_true, ite_false, Int.reduceSub, Int.reduceAdd, Int.cast_ofNat_Int, Int.natCast_add, Int.cast_ofNat_Int, Nat.reduceSub, Nat.add_assoc, String.reduceBEq, String.reduceEq, Bool.or_not_self, beq_self_eq_true, a1, a2, a3]
      refine ⟨?_, [], by simp⟩
      unfold numR numK
      rw [decide_eq_false (by omega : ¬ x.length ≤ 12)]
      simp
  · simp only [wp_okR, wp_okF, wp_fin, wp_next, wp_then, wp_bind, wp_nox, wp_tK, wp_bK, wp_fr, wp_fn, wp_nn, wp_nr, wp_nb, wp_nc, wp_ln, wp_lc, wp_lb, wp_lr, wp_jn, wp_jc, ev_bok, ev_bno, ev_bex, ev_tok, ev_tno, ev_tex, ev_nnx, ev_nrt, ev_nbk, ev_nct, ev_nex, ev_nno, ev_frt, ev_fnx, ev_fex, ev_xok, ev_lsome, ev_lnone, ev_seq, ev_if, ev_ret, ev_retN, ev_drop, ev_nop, ev_brk, ev_cont, ev_asgN, ev_asgT, ev_asgO, ev_mgTup, ev_mgN, ev_mgC, ev_mg0, ev_putL, ev_putO, ev_var, ev_vr, ev_c, ev_op, ev_un, ev_test, ev_tb, ev_notT, ev_andT, ev_orT, ev_ifE, ev_not, ev_nb, ev_and, ev_andK, ev_or, ev_orK, ev_chain, ev_chK, ev_nil, ev_cons, ev_tup, ev_lst, ev_new, ev_call, ev_cb, ev_size, ev_addI, ev_addS, ev_addT, ev_addL, ev_catO, ev_sub, ev_mul, ev_div, ev_mod, ev_p5, ev_p6, ev_p12, ev_p18, ev_p30, ev_neg, ev_ltI, ev_ltS, ev_leI, ev_leS, ev_gt, ev_ge, ev_eqI, ev_eqS, ev_neI, ev_neS, ev_neB, ev_eqB, ev_is, ev_isnot, ev_ixT, ev_ixS, ev_ixR, ev_ixL, ev_ixK, ev_getL, ev_getM, ev_gL, ev_gM, ev_at0, ev_at1, ev_at2, ev_at3, ev_at4, ev_lenS, ev_lenR, ev_lenT, ev_lenL, ev_lenO, ev_lenD, ev_abs, ev_min2, ev_max2, ev_intI, ev_intB, ev_set, ev_fc, ev_setset, ev_last, ev_appk, ev_app0, ev_setk, ev_set0, ev_assoc, ev_lapp, ev_lappA, ev_sl, ev_nopart, ev_part, ev_ptK, ev_slT, ev_slS, ev_slR, ev_slK, ev_tyN, ev_tyB, ev_tyI, ev_tyS, ev_tyT, ev_tyL, ev_tyR, ev_tyRL, ev_isi, ev_isi1, ev_isi2, ev_isi3, ev_isi4, ev_isi5, ev_isiT, ev_isi2K, ev_isTy, ev_list, ev_listK, ev_tuple, ev_tupK, ev_getST, ev_getSR, ev_getSL, ev_all, ev_allK, ev_eqXI, ev_eqXS, ev_neXI, ev_neXS, ev_neXB, ev_eqXB, ev_eqXR, ev_neXR, ev_nil2, ev_eqK, ev_neK, ev_meth, ev_meth0, ev_mth1, ev_mth2, ev_mth3, ev_append, ev_m0, ev_m0K, ev_str, ev_for, ev_miR1, ev_rg1K, ev_miL, ev_liK, ev_miT, ev_tiK, ev_lc, ev_wipe0, ev_wipeS, ev_yes, ev_lenSet, ev_lenSetK, ev_listR, ev_lrK, ev_put2, ev_p2A, ev_p2K, ev_p2E, ev_put1, ev_pt1, ev_addXI, ev_addXB, ev_addXS, ev_addXT, ev_addXL, ev_subXI, ev_subXB, ev_mulXI, ev_mulXB, ev_mulXL, ev_negXI, ev_negXB, ev_strXI, ev_strXB, ev_mulYI, ev_mulYB, ev_mulYL, ev_mulYT, ev_dnew, ev_dnewT, ev_dgetE, ev_getD, ev_gD, ev_keyI, ev_keyS, ev_dgK, ev_dinE, ev_diK, ev_dputE, ev_dpK, ev_dget2E, ev_isDA, ev_isSome, ev_isNone, ev_dg2K, ev_dpop2E, ev_dp2K, ev_dp3S, ev_dp3N, ev_sortedE, ev_srO1, ev_srO2, ev_gLd, ev_srKS, ev_srKI, ev_gDT, ev_gT, ev_tinE, ev_tiKK, ev_keysA, ev_keysN, ev_keysC, ev_dputTE, ev_dptK, ev_dispE, ev_mpN, ev_mpC, ev_pcK, ev_dsK, ev_dsK2, ev_lc2E, ev_imp, ev_simp, ev_split, ev_splF, ev_splG, ev_fmt, ev_fmtS, ev_fmtI, ev_addK, ev_js0, ev_js1, ev_joined, ev_star, ev_starK, ev_each2, ev_each2K, ev_unl, ev_unlK, ev_intS, ev_strYS, ev_strYI, ev_fldE, ev_getI, ev_gI, ev_fdK, ev_fldS, ev_fpK, ev_mtE, ev_miK, ev_mkE, ev_mkK, ev_callE, ev_tryAs, ev_raise0, ev_raise1, ev_raiseN, ev_revS, ev_revK, ev_zip, ev_enumF, ev_enum, ev_kget, ev_kgK, ev_index, List.getElem?_cons_zero, List.getElem?_cons_succ, List.set_cons_zero, List.set_cons_succ, List.length_cons, List.length_nil, List.cons_append, List.nil_append, if_true, if_false, Bool.false_eq_true, Bool.true_eq_false, reduceIte, Bool.not_true, Bool.not_false, Bool.and_true, Bool.true_and, Bool.and_false, Bool.false_and, Bool.or_true, Bool.true_or, Bool.or_false, Bool.false_or, decide_eq_true_eq, Nat.reduceAdd, Nat.reduceLeDiff, Nat.zero_add, Int.reduceLT, Int.reduceLE, Int.reduceEq, Int.reduceNeg, Nat.reduceEqDiff, and_self, and_true, true_and, decide_true, decide_false, eq_self, ite_true, ite_false, Int.reduceSub, Int.reduceAdd, Int.cast_ofNat_Int, Int.natCast_add, Int.cast_ofNat_Int, Nat.reduceSub, Nat.add_assoc, String.reduceBEq, String.reduceEq, Bool.or_not_self, beq_self_eq_true, a1, a3]
    refine ⟨?_, [], by simp⟩
    unfold numR numK
    rw [decide_eq_false (by omega : ¬ 1 ≤ x.length)]
    simp

/-! ### any text, taken apart -/
theorem J_piece {c : Nat} : ∀ {us : List (List Nat)} {u : List Nat}, u ∈ us → u.length ≤ (J c us).length ∧ ∀ z ∈ u, z ∈ J c us
  | [x], u, h => by
    rw [List.mem_singleton.mp h]
    exact ⟨Nat.le_refl _, fun z hz => hz⟩
  | x :: y :: r, u, h => by
    show u.length ≤ (x ++ c :: J c (y :: r)).length ∧ ∀ z ∈ u, z ∈ x ++ c :: J c (y :: r)
    rcases List.mem_cons.mp h with rfl | h
    · exact ⟨by rw [List.length_append]; omega, fun z hz => List.mem_append_left _ hz⟩
    · obtain ⟨h1, h2⟩ := J_piece (c := c) h
      exact ⟨by rw [List.length_append, List.length_cons]; omega, fun z hz => List.mem_append_right _ (List.mem_cons_of_mem _ (h2 z hz))⟩
theorem J_many {c : Nat} : ∀ {us : List (List Nat)}, us.length ≤ (J c us).length + 1
  | [] => Nat.zero_le _
  | [x] => by simp
  | x :: y :: r => by
    have := J_many (c := c) (us := y :: r)
    show (y :: r).length + 1 ≤ (x ++ c :: J c (y :: r)).length + 1
    simp only [List.length_append, List.length_cons] at this ⊢
    omega
theorem len_cps (x : Str) : x.cps.toList.length = x.length := by simp [Str.length]
theorem split_J (z : Str) (c : Nat) : J c ((Txt.split z ⟨#[c]⟩).map (·.cps.toList)) = z.cps.toList := by
  have e := StrLaws.join_split z ⟨#[c]⟩
  rw [← J_cps, e]
theorem split_in {z x : Str} {c : Nat} (h : x ∈ Txt.split z ⟨#[c]⟩) : x.length ≤ z.length ∧ ∀ d ∈ x.cps.toList, d ∈ z.cps.toList := by
  obtain ⟨h1, h2⟩ := J_piece (c := c) (List.mem_map.mpr ⟨x, h, rfl⟩)
  rw [split_J] at h1 h2
  rw [len_cps, len_cps] at h1
  exact ⟨h1, h2⟩
theorem split_many (z : Str) (c : Nat) : (Txt.split z ⟨#[c]⟩).length ≤ z.length + 1 := by
  have := J_many (c := c) (us := (Txt.split z ⟨#[c]⟩).map (·.cps.toList))
  rw [split_J, List.length_map, len_cps] at this
  exact this
theorem split_ne (z : Str) (c : Nat) : ∃ w ws, Txt.split z ⟨#[c]⟩ = w :: ws := by
  have p := split_pos z ⟨#[c]⟩
  cases h : Txt.split z ⟨#[c]⟩ with
  | nil => rw [h] at p; cases p
  | cons w ws => exact ⟨w, ws, rfl⟩
def COL : Str := Str.ofString ":"
def COM : Str := Str.ofString ","
def BLK : Str := Str.ofString " "
theorem col_is : COL = ⟨#[58]⟩ := by decide +kernel
theorem com_is : COM = ⟨#[44]⟩ := by decide +kernel
theorem blk_is : BLK = ⟨#[32]⟩ := by decide +kernel
theorem cut_one (a : A) (r : List A) : cutA (a :: r) (some 1) none = r := by
  unfold cutA
  rw [show ((1 : Int)) = ((1 : Nat) : Int) from rfl, HT.sIx_none, HT.sIx_nat]
  rw [List.length_cons, Nat.min_eq_left (by omega)]
  simp

/-! ### names, files and clients of any text -/
def alW (x : Str) : Bool := x.cps.toList.all fun c => decide (c ∈ alpha.cps.toList)
def nameB (x : Str) : Bool := decide (1 ≤ x.length) && decide (x.length ≤ 8) && alW x
def alA : A → A
  | .str ⟨cs⟩ => .bl (cs.toList.all fun c => decide (c ∈ alpha.cps.toList))
  | _ => .bl false
theorem bls_al (x : Str) : ∃ bs, bls ((signs x).map alA) = some bs ∧ bs.all id = alW x := by
  unfold signs alW
  rw [List.map_map]
  induction x.cps.toList with
  | nil => exact ⟨[], rfl, rfl⟩
  | cons c r ih =>
    obtain ⟨bs, h1, h2⟩ := ih
    refine ⟨decide (c ∈ alpha.cps.toList) :: bs, ?_, ?_⟩
    · have e : ∀ l, bls (A.bl (decide (c ∈ alpha.cps.toList)) :: l) = (bls l).map (decide (c ∈ alpha.cps.toList) :: ·) := fun _ => rfl
      have e2 : (alA ∘ fun c => A.str { cps := #[c] }) c = A.bl (decide (c ∈ alpha.cps.toList)) := by
        show A.bl ([c].all fun c => decide (c ∈ alpha.cps.toList)) = _
        rw [List.all_cons, List.all_nil, Bool.and_true]
      rw [List.map_cons, e2, e, h1]
      rfl
    · rw [List.all_cons, List.all_cons, h2]
      rfl
theorem isName_any {S : Sto} {x : Str} (hx : x.length ≤ 1200000) : okR (m_is_name [.str x] S) fun y t => y = .bl (nameB x) ∧ ∃ l, t = S ++ l := by
  rw [st_is_name]
  unfold b_is_name
  have a3 : x.length ≤ 16777216 := by omega
  have cl : x.cps.toList.length = x.length := by simp [Str.length]
  have nm : Str.ofString "abcdefghijklmnopqrstuvwxyz" = alpha := rfl
  by_cases a1 : (1 : Int) ≤ (x.length : Nat)
  · by_cases a2 : ((x.length : Nat) : Int) ≤ 8
    · simp only [wp_okR, wp_okF, wp_fin, wp_next, wp_then, wp_bind, wp_nox, wp_tK, wp_bK, wp_fr, wp_fn, wp_nn, wp_nr, wp_nb, wp_nc, wp_ln, wp_lc, wp_lb, wp_lr, wp_jn, wp_jc, ev_bok, ev_bno, ev_bex, ev_tok, ev_tno, ev_tex, ev_nnx, ev_nrt, ev_nbk, ev_nct, ev_nex, ev_nno, ev_frt, ev_fnx, ev_fex, ev_xok, ev_lsome, ev_lnone, ev_seq, ev_if, ev_ret, ev_retN, ev_drop, ev_nop, ev_brk, ev_cont, ev_asgN, ev_asgT, ev_asgO, ev_mgTup, ev_mgN, ev_mgC, ev_mg0, ev_putL, ev_putO, ev_var, ev_vr, ev_c, ev_op, ev_un, ev_test, ev_tb, ev_notT, ev_andT, ev_orT, ev_ifE, ev_not, ev_nb, ev_and, ev_andK, ev_or, ev_orK, ev_chain, ev_chK, ev_nil, ev_cons, ev_tup, ev_lst, ev_new, ev_call, ev_cb, ev_size, ev_addI, ev_addS, ev_addT, ev_addL, ev_catO, ev_sub, ev_mul, ev_div, ev_mod, ev_p5, ev_p6, ev_p12, ev_p18, ev_p30, ev_neg, ev_ltI, ev_ltS, ev_leI, ev_leS, ev_gt, ev_ge, ev_eqI, ev_eqS, ev_neI, ev_neS, ev_neB, ev_eqB, ev_is, ev_isnot, ev_ixT, ev_ixS, ev_ixR, ev_ixL, ev_ixK, ev_getL, ev_getM, ev_gL, ev_gM, ev_at0, ev_at1, ev_at2, ev_at3, ev_at4, ev_lenS, ev_lenR, ev_lenT, ev_lenL, ev_lenO, ev_lenD, ev_abs, ev_min2, ev_max2, ev_intI, ev_intB, ev_set, ev_fc, ev_setset, ev_last, ev_appk, ev_app0, ev_setk, ev_set0, ev_assoc, ev_lapp, ev_lappA, ev_sl, ev_nopart, ev_part, ev_ptK, ev_slT, ev_slS, ev_slR, ev_slK, ev_tyN, ev_tyB, ev_tyI, ev_tyS, ev_tyT, ev_tyL, ev_tyR, ev_tyRL, ev_isi, ev_isi1, ev_isi2, ev_isi3, ev_isi4, ev_isi5, ev_isiT, ev_isi2K, ev_isTy, ev_list, ev_listK, ev_tuple, ev_tupK, ev_getST, ev_getSR, ev_getSL, ev_all, ev_allK, ev_eqXI, ev_eqXS, ev_neXI, ev_neXS, ev_neXB, ev_eqXB, ev_eqXR, ev_neXR, ev_nil2, ev_eqK, ev_neK, ev_meth, ev_meth0, ev_mth1, ev_mth2, ev_mth3, ev_append, ev_m0, ev_m0K, ev_str, ev_for, ev_miR1, ev_rg1K, ev_miL, ev_liK, ev_miT, ev_tiK, ev_lc, ev_wipe0, ev_wipeS, ev_yes, ev_lenSet, ev_lenSetK, ev_listR, ev_lrK, ev_put2, ev_p2A, ev_p2K, ev_p2E, ev_put1, ev_pt1, ev_addXI, ev_addXB, ev_addXS, ev_addXT, ev_addXL, ev_subXI, ev_subXB, ev_mulXI, ev_mulXB, ev_mulXL, ev_negXI, ev_negXB, ev_strXI, ev_strXB, ev_mulYI, ev_mulYB, ev_mulYL, ev_mulYT, ev_dnew, ev_dnewT, ev_dgetE, ev_getD, ev_gD, ev_keyI, ev_keyS, ev_dgK, ev_dinE, ev_diK, ev_dputE, ev_dpK, ev_dget2E, ev_isDA, ev_isSome, ev_isNone, ev_dg2K, ev_dpop2E, ev_dp2K, ev_dp3S, ev_dp3N, ev_sortedE, ev_srO1, ev_srO2, ev_gLd, ev_srKS, ev_srKI, ev_gDT, ev_gT, ev_tinE, ev_tiKK, ev_keysA, ev_keysN, ev_keysC, ev_dputTE, ev_dptK, ev_dispE, ev_mpN, ev_mpC, ev_pcK, ev_dsK, ev_dsK2, ev_lc2E, ev_imp, ev_simp, ev_split, ev_splF, ev_splG, ev_fmt, ev_fmtS, ev_fmtI, ev_addK, ev_js0, ev_js1, ev_joined, ev_star, ev_starK, ev_each2, ev_each2K, ev_unl, ev_unlK, ev_intS, ev_strYS, ev_strYI, ev_fldE, ev_getI, ev_gI, ev_fdK, ev_fldS, ev_fpK, ev_mtE, ev_miK, ev_mkE, ev_mkK, ev_callE, ev_tryAs, ev_raise0, ev_raise1, ev_raiseN, ev_revS, ev_revK, ev_zip, ev_enumF, ev_enum, ev_kget, ev_kgK, ev_index, List.getElem?_cons_zero, List.getElem?_cons_succ, List.set_cons_zero, List.set_cons_succ, List.length_cons, List.length_nil, List.cons_append, List.nil_append, if_true, if_false, Bool.false_eq_true, Bool.true_eq_false, reduceIte, Bool.not_true, Bool.not_false, Bool.and_true, Bool.true_and, Bool.and_false, Bool.false_and, Bool.or_true, Bool.true_or, Bool.or_false, Bool.false_or, decide_eq_true_eq, Nat.reduceAdd, Nat.reduceLeDiff, Nat.zero_add, Int.reduceLT, Int.reduceLE, Int.reduceEq, Int.reduceNeg, Nat.reduceEqDiff, and_self, and_true, true_and, decide_true, decide_false, eq_self, ite_true, ite_false, Int.reduceSub, Int.reduceAdd, Int.cast_ofNat_Int, Int.natCast_add, Int.cast_ofNat_Int, Nat.reduceSub, Nat.add_assoc, String.reduceBEq, String.reduceEq, Bool.or_not_self, beq_self_eq_true, a1, a2, a3, nm]
      refine lc_P alA (fun _ => trivial) (by unfold signs; rw [List.length_map]; omega) (fun y hy => ?_) ?_
      · unfold signs at hy
        obtain ⟨c, hc', rfl⟩ := List.mem_map.mp hy
        have e : ∀ k, oInX (.str ⟨#[c]⟩) (.str alpha) (S ++ k) = .ok (.bl (decide (c ∈ alpha.cps.toList))) (S ++ k) := fun _ => rfl
        have e2 : alA (.str ⟨#[c]⟩) = A.bl (decide (c ∈ alpha.cps.toList)) := by
          show A.bl ([c].all fun c => decide (c ∈ alpha.cps.toList)) = _
          rw [List.all_cons, List.all_nil, Bool.and_true]
        refine ⟨_, rfl, fun k => ?_⟩
        simp only [wp_okR, wp_okF, wp_fin, wp_next, wp_then, wp_bind, wp_nox, wp_tK, wp_bK, wp_fr, wp_fn, wp_nn, wp_nr, wp_nb, wp_nc, wp_ln, wp_lc, wp_lb, wp_lr, wp_jn, wp_jc, ev_bok, ev_bno, ev_bex, ev_tok, ev_tno, ev_tex, ev_nnx, ev_nrt, ev_nbk, ev_nct, ev_nex, ev_nno, ev_frt, ev_fnx, ev_fex, ev_xok, ev_lsome, ev_lnone, ev_seq, ev_if, ev_ret, ev_retN, ev_drop, ev_nop, ev_brk, ev_cont, ev_asgN, ev_asgT, ev_asgO, ev_mgTup, ev_mgN, ev_mgC, ev_mg0, ev_putL, ev_putO, ev_var, ev_vr, ev_c, ev_op, ev_un, ev_test, ev_tb, ev_notT, ev_andT, ev_orT, ev_ifE, ev_not, ev_nb, ev_and, ev_andK, ev_or, ev_orK, ev_chain, ev_chK, ev_nil, ev_cons, ev_tup, ev_lst, ev_new, ev_call, ev_cb, ev_size, ev_addI, ev_addS, ev_addT, ev_addL, ev_catO, ev_sub, ev_mul, ev_div, ev_mod, ev_p5, ev_p6, ev_p12, ev_p18, ev_p30, ev_neg, ev_ltI, ev_ltS, ev_leI, ev_leS, ev_gt, ev_ge, ev_eqI, ev_eqS, ev_neI, ev_neS, ev_neB, ev_eqB, ev_is, ev_isnot, ev_ixT, ev_ixS, ev_ixR, ev_ixL, ev_ixK, ev_getL, ev_getM, ev_gL, ev_gM, ev_at0, ev_at1, ev_at2, ev_at3, ev_at4, ev_lenS, ev_lenR, ev_lenT, ev_lenL, ev_lenO, ev_lenD, ev_abs, ev_min2, ev_max2, ev_intI, ev_intB, ev_set, ev_fc, ev_setset, ev_last, ev_appk, ev_app0, ev_setk, ev_set0, ev_assoc, ev_lapp, ev_lappA, ev_sl, ev_nopart, ev_part, ev_ptK, ev_slT, ev_slS, ev_slR, ev_slK, ev_tyN, ev_tyB, ev_tyI, ev_tyS, ev_tyT, ev_tyL, ev_tyR, ev_tyRL, ev_isi, ev_isi1, ev_isi2, ev_isi3, ev_isi4, ev_isi5, ev_isiT, ev_isi2K, ev_isTy, ev_list, ev_listK, ev_tuple, ev_tupK, ev_getST, ev_getSR, ev_getSL, ev_all, ev_allK, ev_eqXI, ev_eqXS, ev_neXI, ev_neXS, ev_neXB, ev_eqXB, ev_eqXR, ev_neXR, ev_nil2, ev_eqK, ev_neK, ev_meth, ev_meth0, ev_mth1, ev_mth2, ev_mth3, ev_append, ev_m0, ev_m0K, ev_str, ev_for, ev_miR1, ev_rg1K, ev_miL, ev_liK, ev_miT, ev_tiK, ev_lc, ev_wipe0, ev_wipeS, ev_yes, ev_lenSet, ev_lenSetK, ev_listR, ev_lrK, ev_put2, ev_p2A, ev_p2K, ev_p2E, ev_put1, ev_pt1, ev_addXI, ev_addXB, ev_addXS, ev_addXT, ev_addXL, ev_subXI, ev_subXB, ev_mulXI, ev_mulXB, ev_mulXL, ev_negXI, ev_negXB, ev_strXI, ev_strXB, ev_mulYI, ev_mulYB, ev_mulYL, ev_mulYT, ev_dnew, ev_dnewT, ev_dgetE, ev_getD, ev_gD, ev_keyI, ev_keyS, ev_dgK, ev_dinE, ev_diK, ev_dputE, ev_dpK, ev_dget2E, ev_isDA, ev_isSome, ev_isNone, ev_dg2K, ev_dpop2E, ev_dp2K, ev_dp3S, ev_dp3N, ev_sortedE, ev_srO1, ev_srO2, ev_gLd, ev_srKS, ev_srKI, ev_gDT, ev_gT, ev_tinE, ev_tiKK, ev_keysA, ev_keysN, ev_keysC, ev_dputTE, ev_dptK, ev_dispE, ev_mpN, ev_mpC, ev_pcK, ev_dsK, ev_dsK2, ev_lc2E, ev_imp, ev_simp, ev_split, ev_splF, ev_splG, ev_fmt, ev_fmtS, ev_fmtI, ev_addK, ev_js0, ev_js1, ev_joined, ev_star, ev_starK, ev_each2, ev_each2K, ev_unl, ev_unlK, ev_intS, ev_strYS, ev_strYI, ev_fldE, ev_getI, ev_gI, ev_fdK, ev_fldS, ev_fpK, ev_mtE, ev_miK, ev_mkE, ev_mkK, ev_callE, ev_tryAs, ev_raise0, ev_raise1, ev_raiseN, ev_revS, ev_revK, ev_zip, ev_enumF, ev_enum, ev_kget, ev_kgK, ev_index, List.getElem?_cons_zero, List.getElem?_cons_succ, List.set_cons_zero, List.set_cons_succ, List.length_cons, List.length_nil, List.cons_append, List.nil_append, if_true, if_false, Bool.false_eq_true, Bool.true_eq_false, reduceIte, Bool.not_true, Bool.not_false, Bool.and_true, Bool.true_and, Bool.and_false, Bool.false_and, Bool.or_true, Bool.true_or, Bool.or_false, Bool.false_or, decide_eq_true_eq, Nat.reduceAdd, Nat.reduceLeDiff, Nat.zero_add, Int.reduceLT, Int.reduceLE, Int.reduceEq, Int.reduceNeg, Nat.reduceEqDiff, and_self, and_true, true_and, decide_true, decide_false, eq_self, ite_true, ite_false, Int.reduceSub, Int.reduceAdd, Int.cast_ofNat_Int, Int.natCast_add, Int.cast_ofNat_Int, Nat.reduceSub, Nat.add_assoc, String.reduceBEq, String.reduceEq, Bool.or_not_self, beq_self_eq_true, e, e2]
      · have lf : ∀ (a : A) (s : Sto), lift (some a) s = .ok a s := fun _ _ => rfl
        obtain ⟨bs, h1, h2⟩ := bls_al x
        simp only [wp_okR, wp_okF, wp_fin, wp_next, wp_then, wp_bind, wp_nox, wp_tK, wp_bK, wp_fr, wp_fn, wp_nn, wp_nr, wp_nb, wp_nc, wp_ln, wp_lc, wp_lb, wp_lr, wp_jn, wp_jc, ev_bok, ev_bno, ev_bex, ev_tok, ev_tno, ev_tex, ev_nnx, ev_nrt, ev_nbk, ev_nct, ev_nex, ev_nno, ev_frt, ev_fnx, ev_fex, ev_xok, ev_lsome, ev_lnone, ev_seq, ev_if, ev_ret, ev_retN, ev_drop, ev_nop, ev_brk, ev_cont, ev_asgN, ev_asgT, ev_asgO, ev_mgTup, ev_mgN, ev_mgC, ev_mg0, ev_putL, ev_putO, ev_var, ev_vr, ev_c, ev_op, ev_un, ev_test, ev_tb, ev_notT, ev_andT, ev_orT, ev_ifE, ev_not, ev_nb, ev_and, ev_andK, ev_or, ev_orK, ev_chain, ev_chK, ev_nil, ev_cons, ev_tup, ev_lst, ev_new, ev_call, ev_cb, ev_size, ev_addI, ev_addS, ev_addT, ev_addL, ev_catO, ev_sub, ev_mul, ev_div, ev_mod, ev_p5, ev_p6, ev_p12, ev_p18, ev_p30, ev_neg, ev_ltI, ev_ltS, ev_leI, ev_leS, ev_gt, ev_ge, ev_eqI, ev_eqS, ev_neI, ev_neS, ev_neB, ev_eqB, ev_is, ev_isnot, ev_ixT, ev_ixS, ev_ixR, ev_ixL, ev_ixK, ev_getL, ev_getM, ev_gL, ev_gM, ev_at0, ev_at1, ev_at2, ev_at3, ev_at4, ev_lenS, ev_lenR, ev_lenT, ev_lenL, ev_lenO, ev_lenD, ev_abs, ev_min2, ev_max2, ev_intI, ev_intB, ev_set, ev_fc, ev_setset, ev_last, ev_appk, ev_app0, ev_setk, ev_set0, ev_assoc, ev_lapp, ev_lappA, ev_sl, ev_nopart, ev_part, ev_ptK, ev_slT, ev_slS, ev_slR, ev_slK, ev_tyN, ev_tyB, ev_tyI, ev_tyS, ev_tyT, ev_tyL, ev_tyR, ev_tyRL, ev_isi, ev_isi1, ev_isi2, ev_isi3, ev_isi4, ev_isi5, ev_isiT, ev_isi2K, ev_isTy, ev_list, ev_listK, ev_tuple, ev_tupK, ev_getST, ev_getSR, ev_getSL, ev_all, ev_allK, ev_eqXI, ev_eqXS, ev_neXI, ev_neXS, ev_neXB, ev_eqXB, ev_eqXR, ev_neXR, ev_nil2, ev_eqK, ev_neK, ev_meth, ev_meth0, ev_mth1, ev_mth2, ev_mth3, ev_append, ev_m0, ev_m0K, ev_str, ev_for, ev_miR1, ev_rg1K, ev_miL, ev_liK, ev_miT, ev_tiK, ev_lc, ev_wipe0, ev_wipeS, ev_yes, ev_lenSet, ev_lenSetK, ev_listR, ev_lrK, ev_put2, ev_p2A, ev_p2K, ev_p2E, ev_put1, ev_pt1, ev_addXI, ev_addXB, ev_addXS, ev_addXT, ev_addXL, ev_subXI, ev_subXB, ev_mulXI, ev_mulXB, ev_mulXL, ev_negXI, ev_negXB, ev_strXI, ev_strXB, ev_mulYI, ev_mulYB, ev_mulYL, ev_mulYT, ev_dnew, ev_dnewT, ev_dgetE, ev_getD, ev_gD, ev_keyI, ev_keyS, ev_dgK, ev_dinE, ev_diK, ev_dputE, ev_dpK, ev_dget2E, ev_isDA, ev_isSome, ev_isNone, ev_dg2K, ev_dpop2E, ev_dp2K, ev_dp3S, ev_dp3N, ev_sortedE, ev_srO1, ev_srO2, ev_gLd, ev_srKS, ev_srKI, ev_gDT, ev_gT, ev_tinE, ev_tiKK, ev_keysA, ev_keysN, ev_keysC, ev_dputTE, ev_dptK, ev_dispE, ev_mpN, ev_mpC, ev_pcK, ev_dsK, ev_dsK2, ev_lc2E, ev_imp, ev_simp, ev_split, ev_splF, ev_splG, ev_fmt, ev_fmtS, ev_fmtI, ev_addK, ev_js0, ev_js1, ev_joined, ev_star, ev_starK, ev_each2, ev_each2K, ev_unl, ev_unlK, ev_intS, ev_strYS, ev_strYI, ev_fldE, ev_getI, ev_gI, ev_fdK, ev_fldS, ev_fpK, ev_mtE, ev_miK, ev_mkE, ev_mkK, ev_callE, ev_tryAs, ev_raise0, ev_raise1, ev_raiseN, ev_revS, ev_revK, ev_zip, ev_enumF, ev_enum, ev_kget, ev_kgK, ev_index, List.getElem?_cons_zero, List.getElem?_cons_succ, List.set_cons_zero, List.set_cons_succ, List.length_cons, List.length_nil, List.cons_append, List.nil_append, if_true, if_false, Bool.false_eq_true, Bool.true_eq_false, reduceIte, Bool.not_true, Bool.not_false, Bool.and_true, Bool.true_and, Bool.and_false, Bool.false_and, Bool.or_true, Bool.true_or, Bool.or_false, Bool.false_or, decide_eq_true_eq, Nat.reduceAdd, Nat.reduceLeDiff, Nat.zero_add, Int.reduceLT, Int.reduceLE, Int.reduceEq, Int.reduceNeg, Nat.reduceEqDiff, and_self, and_true, true_and, decide_true, decide_false, eq_self, ite_true, ite_false, Int.reduceSub, Int.reduceAdd, Int.cast_ofNat_Int, Int.natCast_add, Int.cast_ofNat_Int, Nat.reduceSub, Nat.add_assoc, String.reduceBEq, String.reduceEq, Bool.or_not_self, beq_self_eq_true, h1, Option.map_some, lf, h2]
        refine ⟨?_, _, rfl⟩
        unfold nameB
        rw [decide_eq_true (by omega : 1 ≤ x.length), decide_eq_true (by omega : x.length ≤ 8)]
        rfl
    · simp only [wp_okR, wp_okF, wp_fin, wp_next, wp_then, wp_bind, wp_nox, wp_tK, wp_bK, wp_fr, wp_fn, wp_nn, wp_nr, wp_nb, wp_nc, wp_ln, wp_lc, wp_lb, wp_lr, wp_jn, wp_jc, ev_bok, ev_bno, ev_bex, ev_tok, ev_tno, ev_tex, ev_nnx, ev_nrt, ev_nbk, ev_nct, ev_nex, ev_nno, ev_frt, ev_fnx, ev_fex, ev_xok, ev_lsome, ev_lnone, ev_seq, ev_if, ev_ret, ev_retN, ev_drop, ev_nop, ev_brk, ev_cont, ev_asgN, ev_asgT, ev_asgO, ev_mgTup, ev_mgN, ev_mgC, ev_mg0, ev_putL, ev_putO, ev_var, ev_vr, ev_c, ev_op, ev_un, ev_test, ev_tb, ev_notT, ev_andT, ev_orT, ev_ifE, ev_not, ev_nb, ev_and, ev_andK, ev_or, ev_orK, ev_chain, ev_chK, ev_nil, ev_cons, ev_tup, ev_lst, ev_new, ev_call, ev_cb, ev_size, ev_addI, ev_addS, ev_addT, ev_addL, ev_catO, ev_sub, ev_mul, ev_div, ev_mod, ev_p5, ev_p6, ev_p12, ev_p18, ev_p30, ev_neg, ev_ltI, ev_ltS, ev_leI, ev_leS, ev_gt, ev_ge, ev_eqI, ev_eqS, ev_neI, ev_neS, ev_neB, ev_eqB, ev_is, ev_isnot, ev_ixT, ev_ixS, ev_ixR, ev_ixL, ev_ixK, ev_getL, ev_getM, ev_gL, ev_gM, ev_at0, ev_at1, ev_at2, ev_at3, ev_at4, ev_lenS, ev_lenR, ev_lenT, ev_lenL, ev_lenO, ev_lenD, ev_abs, ev_min2, ev_max2, ev_intI, ev_intB, ev_set, ev_fc, ev_setset, ev_last, ev_appk, ev_app0, ev_setk, ev_set0, ev_assoc, ev_lapp, ev_lappA, ev_sl, ev_nopart, ev_part, ev_ptK, ev_slT, ev_slS, ev_slR, ev_slK, ev_tyN, ev_tyB, ev_tyI, ev_tyS, ev_tyT, ev_tyL, ev_tyR, ev_tyRL, ev_isi, ev_isi1, ev_isi2, ev_isi3, ev_isi4, ev_isi5, ev_isiT, ev_isi2K, ev_isTy, ev_list, ev_listK, ev_tuple, ev_tupK, ev_getST, ev_getSR, ev_getSL, ev_all, ev_allK, ev_eqXI, ev_eqXS, ev_neXI, ev_neXS, ev_neXB, ev_eqXB, ev_eqXR, ev_neXR, ev_nil2, ev_eqK, ev_neK, ev_meth, ev_meth0, ev_mth1, ev_mth2, ev_mth3, ev_append, ev_m0, ev_m0K, ev_str, ev_for, ev_miR1, ev_rg1K, ev_miL, ev_liK, ev_miT, ev_tiK, ev_lc, ev_wipe0, ev_wipeS, ev_yes, ev_lenSet, ev_lenSetK, ev_listR, ev_lrK, ev_put2, ev_p2A, ev_p2K, ev_p2E, ev_put1, ev_pt1, ev_addXI, ev_addXB, ev_addXS, ev_addXT, ev_addXL, ev_subXI, ev_subXB, ev_mulXI, ev_mulXB, ev_mulXL, ev_negXI, ev_negXB, ev_strXI, ev_strXB, ev_mulYI, ev_mulYB, ev_mulYL, ev_mulYT, ev_dnew, ev_dnewT, ev_dgetE, ev_getD, ev_gD, ev_keyI, ev_keyS, ev_dgK, ev_dinE, ev_diK, ev_dputE, ev_dpK, ev_dget2E, ev_isDA, ev_isSome, ev_isNone, ev_dg2K, ev_dpop2E, ev_dp2K, ev_dp3S, ev_dp3N, ev_sortedE, ev_srO1, ev_srO2, ev_gLd, ev_srKS, ev_srKI, ev_gDT, ev_gT, ev_tinE, ev_tiKK, ev_keysA, ev_keysN, ev_keysC, ev_dputTE, ev_dptK, ev_dispE, ev_mpN, ev_mpC, ev_pcK, ev_dsK, ev_dsK2, ev_lc2E, ev_imp, ev_simp, ev_split, ev_splF, ev_splG, ev_fmt, ev_fmtS, ev_fmtI, ev_addK, ev_js0, ev_js1, ev_joined, ev_star, ev_starK, ev_each2, ev_each2K, ev_unl, ev_unlK, ev_intS, ev_strYS, ev_strYI, ev_fldE, ev_getI, ev_gI, ev_fdK, ev_fldS, ev_fpK, ev_mtE, ev_miK, ev_mkE, ev_mkK, ev_callE, ev_tryAs, ev_raise0, ev_raise1, ev_raiseN, ev_revS, ev_revK, ev_zip, ev_enumF, ev_enum, ev_kget, ev_kgK, ev_index, List.getElem?_cons_zero, List.getElem?_cons_succ, List.set_cons_zero, List.set_cons_succ, List.length_cons, List.length_nil, List.cons_append, List.nil_append, if_true, if_false, Bool.false_eq_true, Bool.true_eq_false, reduceIte, Bool.not_true, Bool.not_false, Bool.and_true, Bool.true_and, Bool.and_false, Bool.false_and, Bool.or_true, Bool.true_or, Bool.or_false, Bool.false_or, decide_eq_true_eq, Nat.reduceAdd, Nat.reduceLeDiff, Nat.zero_add, Int.reduceLT, Int.reduceLE, Int.reduceEq, Int.reduceNeg, Nat.reduceEqDiff, and_self, and_true, true_and, decide_true, decide_false, eq_self, ite_true, ite_false, Int.reduceSub, Int.reduceAdd, Int.cast_ofNat_Int, Int.natCast_add, Int.cast_ofNat_Int, Nat.reduceSub, Nat.add_assoc, String.reduceBEq, String.reduceEq, Bool.or_not_self, beq_self_eq_true, a1, a2, a3]
      refine ⟨?_, [], by simp⟩
      unfold nameB
      rw [decide_eq_false (by omega : ¬ x.length ≤ 8)]
      simp
  · simp only [wp_okR, wp_okF, wp_fin, wp_next, wp_then, wp_bind, wp_nox, wp_tK, wp_bK, wp_fr, wp_fn, wp_nn, wp_nr, wp_nb, wp_nc, wp_ln, wp_lc, wp_lb, wp_lr, wp_jn, wp_jc, ev_bok, ev_bno, ev_bex, ev_tok, ev_tno, ev_tex, ev_nnx, ev_nrt, ev_nbk, ev_nct, ev_nex, ev_nno, ev_frt, ev_fnx, ev_fex, ev_xok, ev_lsome, ev_lnone, ev_seq, ev_if, ev_ret, ev_retN, ev_drop, ev_nop, ev_brk, ev_cont, ev_asgN, ev_asgT, ev_asgO, ev_mgTup, ev_mgN, ev_mgC, ev_mg0, ev_putL, ev_putO, ev_var, ev_vr, ev_c, ev_op, ev_un, ev_test, ev_tb, ev_notT, ev_andT, ev_orT, ev_ifE, ev_not, ev_nb, ev_and, ev_andK, ev_or, ev_orK, ev_chain, ev_chK, ev_nil, ev_cons, ev_tup, ev_lst, ev_new, ev_call, ev_cb, ev_size, ev_addI, ev_addS, ev_addT, ev_addL, ev_catO, ev_sub, ev_mul, ev_div, ev_mod, ev_p5, ev_p6, ev_p12, ev_p18, ev_p30, ev_neg, ev_ltI, ev_ltS, ev_leI, ev_leS, ev_gt, ev_ge, ev_eqI, ev_eqS, ev_neI, ev_neS, ev_neB, ev_eqB, ev_is, ev_isnot, ev_ixT, ev_ixS, ev_ixR, ev_ixL, ev_ixK, ev_getL, ev_getM, ev_gL, ev_gM, ev_at0, ev_at1, ev_at2, ev_at3, ev_at4, ev_lenS, ev_lenR, ev_lenT, ev_lenL, ev_lenO, ev_lenD, ev_abs, ev_min2, ev_max2, ev_intI, ev_intB, ev_set, ev_fc, ev_setset, ev_last, ev_appk, ev_app0, ev_setk, ev_set0, ev_assoc, ev_lapp, ev_lappA, ev_sl, ev_nopart, ev_part, ev_ptK, ev_slT, ev_slS, ev_slR, ev_slK, ev_tyN, ev_tyB, ev_tyI, ev_tyS, ev_tyT, ev_tyL, ev_tyR, ev_tyRL, ev_isi, ev_isi1, ev_isi2, ev_isi3, ev_isi4, ev_isi5, ev_isiT, ev_isi2K, ev_isTy, ev_list, ev_listK, ev_tuple, ev_tupK, ev_getST, ev_getSR, ev_getSL, ev_all, ev_allK, ev_eqXI, ev_eqXS, ev_neXI, ev_neXS, ev_neXB, ev_eqXB, ev_eqXR, ev_neXR, ev_nil2, ev_eqK, ev_neK, ev_meth, ev_meth0, ev_mth1, ev_mth2, ev_mth3, ev_append, ev_m0, ev_m0K, ev_str, ev_for, ev_miR1, ev_rg1K, ev_miL, ev_liK, ev_miT, ev_tiK, ev_lc, ev_wipe0, ev_wipeS, ev_yes, ev_lenSet, ev_lenSetK, ev_listR, ev_lrK, ev_put2, ev_p2A, ev_p2K, ev_p2E, ev_put1, ev_pt1, ev_addXI, ev_addXB, ev_addXS, ev_addXT, ev_addXL, ev_subXI, ev_subXB, ev_mulXI, ev_mulXB, ev_mulXL, ev_negXI, ev_negXB, ev_strXI, ev_strXB, ev_mulYI, ev_mulYB, ev_mulYL, ev_mulYT, ev_dnew, ev_dnewT, ev_dgetE, ev_getD, ev_gD, ev_keyI, ev_keyS, ev_dgK, ev_dinE, ev_diK, ev_dputE, ev_dpK, ev_dget2E, ev_isDA, ev_isSome, ev_isNone, ev_dg2K, ev_dpop2E, ev_dp2K, ev_dp3S, ev_dp3N, ev_sortedE, ev_srO1, ev_srO2, ev_gLd, ev_srKS, ev_srKI, ev_gDT, ev_gT, ev_tinE, ev_tiKK, ev_keysA, ev_keysN, ev_keysC, ev_dputTE, ev_dptK, ev_dispE, ev_mpN, ev_mpC, ev_pcK, ev_dsK, ev_dsK2, ev_lc2E, ev_imp, ev_simp, ev_split, ev_splF, ev_splG, ev_fmt, ev_fmtS, ev_fmtI, ev_addK, ev_js0, ev_js1, ev_joined, ev_star, ev_starK, ev_each2, ev_each2K, ev_unl, ev_unlK, ev_intS, ev_strYS, ev_strYI, ev_fldE, ev_getI, ev_gI, ev_fdK, ev_fldS, ev_fpK, ev_mtE, ev_miK, ev_mkE, ev_mkK, ev_callE, ev_tryAs, ev_raise0, ev_raise1, ev_raiseN, ev_revS, ev_revK, ev_zip, ev_enumF, ev_enum, ev_kget, ev_kgK, ev_index, List.getElem?_cons_zero, List.getElem?_cons_succ, List.set_cons_zero, List.set_cons_succ, List.length_cons, List.length_nil, List.cons_append, List.nil_append, if_true, if_false, Bool.false_eq_true, Bool.true_eq_false, reduceIte, Bool.not_true, Bool.not_false, Bool.and_true, Bool.true_and, Bool.and_false, Bool.false_and, Bool.or_true, Bool.true_or, Bool.or_false, Bool.false_or, decide_eq_true_eq, Nat.reduceAdd, Nat.reduceLeDiff, Nat.zero_add, Int.reduceLT, Int.reduceLE, Int.reduceEq, Int.reduceNeg, Nat.reduceEqDiff, and_self, and_true, true_and, decide_true, decide_false, eq_self, ite_true, ite_false, Int.reduceSub, Int.reduceAdd, Int.cast_ofNat_Int, Int.natCast_add, Int.cast_ofNat_Int, Nat.reduceSub, Nat.add_assoc, String.reduceBEq, String.reduceEq, Bool.or_not_self, beq_self_eq_true, a1, a3]
    refine ⟨?_, [], by simp⟩
    unfold nameB
    rw [decide_eq_false (by omega : ¬ 1 ≤ x.length)]
    simp

/-! ### the texts that are written -/
theorem ev_mjoin {f g : ME} {env : AEnv} {st : Sto} : mJoin f g env st = (f env st).bind (joinG g env) := rfl
theorem ev_joinG {g : ME} {env : AEnv} {s : Sto} {z : Str} : joinG g env (.str z) s = (g env s).bind fun a s => joinK z ((getS s a).bind strsOf) s := rfl
theorem ev_joinK {z : Str} {ys : List Str} {s : Sto} : joinK z (some ys) s = if (ys.map (·.length)).sum + ys.length * z.length ≤ 16777216 then .ok (.str (Txt.join z ys)) s else .no := rfl
theorem ev_sbind {xs : List A} : (some xs).bind strsOf = strsOf xs := rfl
def siK (a : A) (s : Sto) : Res (List A × (Sto → Prop)) := match a with
  | .str z => .ok (signs z, okT) s
  | _ => .no
theorem ev_miS {f : ME} {env : AEnv} {st : Sto} : miS f env st = (f env st).bind siK := rfl
theorem ev_siK {z : Str} {s : Sto} : siK (.str z) s = .ok (signs z, okT) s := rfl

/-! ### numbers of up to twelve figures, written and read -/
theorem numL_head : ∀ n : Nat, 0 < n → ∃ c r, TL.numL n = c :: r ∧ 49 ≤ c := by
  intro n
  induction n using Nat.strongRecOn with
  | _ n ih =>
    intro h0
    by_cases h : n < 10
    · exact ⟨48 + n, [], TL.numL_lt h, by omega⟩
    · obtain ⟨c, r, e, hc⟩ := ih (n / 10) (by omega) (by omega)
      exact ⟨c, r ++ [48 + n % 10], by rw [TL.numL_step (by omega), e]; rfl, hc⟩
theorem dig_in {c : Nat} (h : 48 ≤ c ∧ c ≤ 57) : c ∈ DIG.cps.toList := by
  have e : DIG.cps.toList = [48, 49, 50, 51, 52, 53, 54, 55, 56, 57] := by decide +kernel
  rw [e]
  simp only [List.mem_cons, List.not_mem_nil, or_false]
  omega
theorem nS_cps (n : Nat) : (nS (n : Nat)).cps.toList = TL.numL n := TL.tl_num n
theorem nS_digs {n c : Nat} (h : c ∈ (nS (n : Nat)).cps.toList) : 48 ≤ c ∧ c ≤ 57 := TL.numL_digits n c (by rw [← nS_cps]; exact h)
theorem nS_len12 {n : Nat} (h : n < 10 ^ 12) : 1 ≤ (nS (n : Nat)).length ∧ (nS (n : Nat)).length ≤ 12 := by
  have e : (nS (n : Nat)).length = (TL.numL n).length := by rw [← len_cps, nS_cps]
  rw [e]
  refine ⟨?_, TL.numL_len (by decide) h⟩
  have := TL.numL_ne n
  cases hh : TL.numL n with
  | nil => exact absurd hh this
  | cons a r => rw [List.length_cons]; omega
theorem num_R {n : Nat} (h : n < 10 ^ 12) : numR (nS (n : Nat)) = .int (n : Nat) := by
  obtain ⟨l1, l2⟩ := nS_len12 h
  have hd : digW (nS (n : Nat)) = true := by
    unfold digW
    exact List.all_eq_true.mpr fun c hc => decide_eq_true (dig_in (nS_digs hc))
  have hk : numK (nS (n : Nat)) = true := by
    by_cases h0 : n = 0
    · subst h0
      decide +kernel
    · obtain ⟨c, r, e, hc⟩ := numL_head n (by omega)
      unfold numK
      rw [hd, nS_cps, e, decide_eq_true l1, decide_eq_true l2, decide_eq_false (p := (c :: r).head? = some 48) (by
        show ¬ some c = some 48
        intro q
        have := Option.some.inj q
        omega)]
      rfl
  unfold numR
  rw [if_pos hk, nS_cps, TL.numL_val]
theorem log12 {i : Int} (h0 : 0 ≤ i) (h1 : i < 10 ^ 12) : i.natAbs.log2 < 1920 := log_small (k := 1920) (Nat.lt_of_le_of_lt (show i.natAbs ≤ 10 ^ 12 by omega) (by decide +kernel)) (by decide)
/-! ### a part, any text -/
def partR (k x : Str) : A := if k = Str.ofString "number" then numR x else if nameB x = true then .str x else .non
theorem part_any {S : Sto} {k x : Str} (hx : x.length ≤ 1200000) : okR (m_part_of [.str k, .str x] S) fun y t => y = partR k x ∧ ∃ l, t = S ++ l := by
  rw [st_part_of]
  unfold b_part_of partR
  by_cases d : k = Str.ofString "number"
  · simp only [wp_okR, wp_okF, wp_fin, wp_next, wp_then, wp_bind, wp_nox, wp_tK, wp_bK, wp_fr, wp_fn, wp_nn, wp_nr, wp_nb, wp_nc, wp_ln, wp_lc, wp_lb, wp_lr, wp_jn, wp_jc, ev_bok, ev_bno, ev_bex, ev_tok, ev_tno, ev_tex, ev_nnx, ev_nrt, ev_nbk, ev_nct, ev_nex, ev_nno, ev_frt, ev_fnx, ev_fex, ev_xok, ev_lsome, ev_lnone, ev_seq, ev_if, ev_ret, ev_retN, ev_drop, ev_nop, ev_brk, ev_cont, ev_asgN, ev_asgT, ev_asgO, ev_mgTup, ev_mgN, ev_mgC, ev_mg0, ev_putL, ev_putO, ev_var, ev_vr, ev_c, ev_op, ev_un, ev_test, ev_tb, ev_notT, ev_andT, ev_orT, ev_ifE, ev_not, ev_nb, ev_and, ev_andK, ev_or, ev_orK, ev_chain, ev_chK, ev_nil, ev_cons, ev_tup, ev_lst, ev_new, ev_call, ev_cb, ev_size, ev_addI, ev_addS, ev_addT, ev_addL, ev_catO, ev_sub, ev_mul, ev_div, ev_mod, ev_p5, ev_p6, ev_p12, ev_p18, ev_p30, ev_neg, ev_ltI, ev_ltS, ev_leI, ev_leS, ev_gt, ev_ge, ev_eqI, ev_eqS, ev_neI, ev_neS, ev_neB, ev_eqB, ev_is, ev_isnot, ev_ixT, ev_ixS, ev_ixR, ev_ixL, ev_ixK, ev_getL, ev_getM, ev_gL, ev_gM, ev_at0, ev_at1, ev_at2, ev_at3, ev_at4, ev_lenS, ev_lenR, ev_lenT, ev_lenL, ev_lenO, ev_lenD, ev_abs, ev_min2, ev_max2, ev_intI, ev_intB, ev_set, ev_fc, ev_setset, ev_last, ev_appk, ev_app0, ev_setk, ev_set0, ev_assoc, ev_lapp, ev_lappA, ev_sl, ev_nopart, ev_part, ev_ptK, ev_slT, ev_slS, ev_slR, ev_slK, ev_tyN, ev_tyB, ev_tyI, ev_tyS, ev_tyT, ev_tyL, ev_tyR, ev_tyRL, ev_isi, ev_isi1, ev_isi2, ev_isi3, ev_isi4, ev_isi5, ev_isiT, ev_isi2K, ev_isTy, ev_list, ev_listK, ev_tuple, ev_tupK, ev_getST, ev_getSR, ev_getSL, ev_all, ev_allK, ev_eqXI, ev_eqXS, ev_neXI, ev_neXS, ev_neXB, ev_eqXB, ev_eqXR, ev_neXR, ev_nil2, ev_eqK, ev_neK, ev_meth, ev_meth0, ev_mth1, ev_mth2, ev_mth3, ev_append, ev_m0, ev_m0K, ev_str, ev_for, ev_miR1, ev_rg1K, ev_miL, ev_liK, ev_miT, ev_tiK, ev_lc, ev_wipe0, ev_wipeS, ev_yes, ev_lenSet, ev_lenSetK, ev_listR, ev_lrK, ev_put2, ev_p2A, ev_p2K, ev_p2E, ev_put1, ev_pt1, ev_addXI, ev_addXB, ev_addXS, ev_addXT, ev_addXL, ev_subXI, ev_subXB, ev_mulXI, ev_mulXB, ev_mulXL, ev_negXI, ev_negXB, ev_strXI, ev_strXB, ev_mulYI, ev_mulYB, ev_mulYL, ev_mulYT, ev_dnew, ev_dnewT, ev_dgetE, ev_getD, ev_gD, ev_keyI, ev_keyS, ev_dgK, ev_dinE, ev_diK, ev_dputE, ev_dpK, ev_dget2E, ev_isDA, ev_isSome, ev_isNone, ev_dg2K, ev_dpop2E, ev_dp2K, ev_dp3S, ev_dp3N, ev_sortedE, ev_srO1, ev_srO2, ev_gLd, ev_srKS, ev_srKI, ev_gDT, ev_gT, ev_tinE, ev_tiKK, ev_keysA, ev_keysN, ev_keysC, ev_dputTE, ev_dptK, ev_dispE, ev_mpN, ev_mpC, ev_pcK, ev_dsK, ev_dsK2, ev_lc2E, ev_imp, ev_simp, ev_split, ev_splF, ev_splG, ev_fmt, ev_fmtS, ev_fmtI, ev_addK, ev_js0, ev_js1, ev_joined, ev_star, ev_starK, ev_each2, ev_each2K, ev_unl, ev_unlK, ev_intS, ev_strYS, ev_strYI, ev_fldE, ev_getI, ev_gI, ev_fdK, ev_fldS, ev_fpK, ev_mtE, ev_miK, ev_mkE, ev_mkK, ev_callE, ev_tryAs, ev_raise0, ev_raise1, ev_raiseN, ev_revS, ev_revK, ev_zip, ev_enumF, ev_enum, ev_kget, ev_kgK, ev_index, ev_mjoin, ev_joinG, ev_joinK, ev_sbind, ev_miS, ev_siK, List.getElem?_cons_zero, List.getElem?_cons_succ, List.set_cons_zero, List.set_cons_succ, List.length_cons, List.length_nil, List.cons_append, List.nil_append, if_true, if_false, Bool.false_eq_true, Bool.true_eq_false, reduceIte, Bool.not_true, Bool.not_false, Bool.and_true, Bool.true_and, Bool.and_false, Bool.false_and, Bool.or_true, Bool.true_or, Bool.or_false, Bool.false_or, decide_eq_true_eq, Nat.reduceAdd, Nat.reduceLeDiff, Nat.zero_add, Int.reduceLT, Int.reduceLE, Int.reduceEq, Int.reduceNeg, Nat.reduceEqDiff, and_self, and_true, true_and, decide_true, decide_false, eq_self, ite_true, ite_false, Int.reduceSub, Int.reduceAdd, Int.cast_ofNat_Int, Int.natCast_add, Int.cast_ofNat_Int, Nat.reduceSub, Nat.add_assoc, String.reduceBEq, String.reduceEq, Bool.or_not_self, beq_self_eq_true, d]
    refine okR_use (number_any hx) fun a s h => ?_
    obtain ⟨rfl, l, rfl⟩ := h
    simp only [wp_okR, wp_okF, wp_fin, wp_next, wp_then, wp_bind, wp_nox, wp_tK, wp_bK, wp_fr, wp_fn, wp_nn, wp_nr, wp_nb, wp_nc, wp_ln, wp_lc, wp_lb, wp_lr, wp_jn, wp_jc, ev_bok, ev_bno, ev_bex, ev_tok, ev_tno, ev_tex, ev_nnx, ev_nrt, ev_nbk, ev_nct, ev_nex, ev_nno, ev_frt, ev_fnx, ev_fex, ev_xok, ev_lsome, ev_lnone, ev_seq, ev_if, ev_ret, ev_retN, ev_drop, ev_nop, ev_brk, ev_cont, ev_asgN, ev_asgT, ev_asgO, ev_mgTup, ev_mgN, ev_mgC, ev_mg0, ev_putL, ev_putO, ev_var, ev_vr, ev_c, ev_op, ev_un, ev_test, ev_tb, ev_notT, ev_andT, ev_orT, ev_ifE, ev_not, ev_nb, ev_and, ev_andK, ev_or, ev_orK, ev_chain, ev_chK, ev_nil, ev_cons, ev_tup, ev_lst, ev_new, ev_call, ev_cb, ev_size, ev_addI, ev_addS, ev_addT, ev_addL, ev_catO, ev_sub, ev_mul, ev_div, ev_mod, ev_p5, ev_p6, ev_p12, ev_p18, ev_p30, ev_neg, ev_ltI, ev_ltS, ev_leI, ev_leS, ev_gt, ev_ge, ev_eqI, ev_eqS, ev_neI, ev_neS, ev_neB, ev_eqB, ev_is, ev_isnot, ev_ixT, ev_ixS, ev_ixR, ev_ixL, ev_ixK, ev_getL, ev_getM, ev_gL, ev_gM, ev_at0, ev_at1, ev_at2, ev_at3, ev_at4, ev_lenS, ev_lenR, ev_lenT, ev_lenL, ev_lenO, ev_lenD, ev_abs, ev_min2, ev_max2, ev_intI, ev_intB, ev_set, ev_fc, ev_setset, ev_last, ev_appk, ev_app0, ev_setk, ev_set0, ev_assoc, ev_lapp, ev_lappA, ev_sl, ev_nopart, ev_part, ev_ptK, ev_slT, ev_slS, ev_slR, ev_slK, ev_tyN, ev_tyB, ev_tyI, ev_tyS, ev_tyT, ev_tyL, ev_tyR, ev_tyRL, ev_isi, ev_isi1, ev_isi2, ev_isi3, ev_isi4, ev_isi5, ev_isiT, ev_isi2K, ev_isTy, ev_list, ev_listK, ev_tuple, ev_tupK, ev_getST, ev_getSR, ev_getSL, ev_all, ev_allK, ev_eqXI, ev_eqXS, ev_neXI, ev_neXS, ev_neXB, ev_eqXB, ev_eqXR, ev_neXR, ev_nil2, ev_eqK, ev_neK, ev_meth, ev_meth0, ev_mth1, ev_mth2, ev_mth3, ev_append, ev_m0, ev_m0K, ev_str, ev_for, ev_miR1, ev_rg1K, ev_miL, ev_liK, ev_miT, ev_tiK, ev_lc, ev_wipe0, ev_wipeS, ev_yes, ev_lenSet, ev_lenSetK, ev_listR, ev_lrK, ev_put2, ev_p2A, ev_p2K, ev_p2E, ev_put1, ev_pt1, ev_addXI, ev_addXB, ev_addXS, ev_addXT, ev_addXL, ev_subXI, ev_subXB, ev_mulXI, ev_mulXB, ev_mulXL, ev_negXI, ev_negXB, ev_strXI, ev_strXB, ev_mulYI, ev_mulYB, ev_mulYL, ev_mulYT, ev_dnew, ev_dnewT, ev_dgetE, ev_getD, ev_gD, ev_keyI, ev_keyS, ev_dgK, ev_dinE, ev_diK, ev_dputE, ev_dpK, ev_dget2E, ev_isDA, ev_isSome, ev_isNone, ev_dg2K, ev_dpop2E, ev_dp2K, ev_dp3S, ev_dp3N, ev_sortedE, ev_srO1, ev_srO2, ev_gLd, ev_srKS, ev_srKI, ev_gDT, ev_gT, ev_tinE, ev_tiKK, ev_keysA, ev_keysN, ev_keysC, ev_dputTE, ev_dptK, ev_dispE, ev_mpN, ev_mpC, ev_pcK, ev_dsK, ev_dsK2, ev_lc2E, ev_imp, ev_simp, ev_split, ev_splF, ev_splG, ev_fmt, ev_fmtS, ev_fmtI, ev_addK, ev_js0, ev_js1, ev_joined, ev_star, ev_starK, ev_each2, ev_each2K, ev_unl, ev_unlK, ev_intS, ev_strYS, ev_strYI, ev_fldE, ev_getI, ev_gI, ev_fdK, ev_fldS, ev_fpK, ev_mtE, ev_miK, ev_mkE, ev_mkK, ev_callE, ev_tryAs, ev_raise0, ev_raise1, ev_raiseN, ev_revS, ev_revK, ev_zip, ev_enumF, ev_enum, ev_kget, ev_kgK, ev_index, ev_mjoin, ev_joinG, ev_joinK, ev_sbind, ev_miS, ev_siK, List.getElem?_cons_zero, List.getElem?_cons_succ, List.set_cons_zero, List.set_cons_succ, List.length_cons, List.length_nil, List.cons_append, List.nil_append, if_true, if_false, Bool.false_eq_true, Bool.true_eq_false, reduceIte, Bool.not_true, Bool.not_false, Bool.and_true, Bool.true_and, Bool.and_false, Bool.false_and, Bool.or_true, Bool.true_or, Bool.or_false, Bool.false_or, decide_eq_true_eq, Nat.reduceAdd, Nat.reduceLeDiff, Nat.zero_add, Int.reduceLT, Int.reduceLE, Int.reduceEq, Int.reduceNeg, Nat.reduceEqDiff, and_self, and_true, true_and, decide_true, decide_false, eq_self, ite_true, ite_false, Int.reduceSub, Int.reduceAdd, Int.cast_ofNat_Int, Int.natCast_add, Int.cast_ofNat_Int, Nat.reduceSub, Nat.add_assoc, String.reduceBEq, String.reduceEq, Bool.or_not_self, beq_self_eq_true]
    exact ⟨l, rfl⟩
  · simp only [wp_okR, wp_okF, wp_fin, wp_next, wp_then, wp_bind, wp_nox, wp_tK, wp_bK, wp_fr, wp_fn, wp_nn, wp_nr, wp_nb, wp_nc, wp_ln, wp_lc, wp_lb, wp_lr, wp_jn, wp_jc, ev_bok, ev_bno, ev_bex, ev_tok, ev_tno, ev_tex, ev_nnx, ev_nrt, ev_nbk, ev_nct, ev_nex, ev_nno, ev_frt, ev_fnx, ev_fex, ev_xok, ev_lsome, ev_lnone, ev_seq, ev_if, ev_ret, ev_retN, ev_drop, ev_nop, ev_brk, ev_cont, ev_asgN, ev_asgT, ev_asgO, ev_mgTup, ev_mgN, ev_mgC, ev_mg0, ev_putL, ev_putO, ev_var, ev_vr, ev_c, ev_op, ev_un, ev_test, ev_tb, ev_notT, ev_andT, ev_orT, ev_ifE, ev_not, ev_nb, ev_and, ev_andK, ev_or, ev_orK, ev_chain, ev_chK, ev_nil, ev_cons, ev_tup, ev_lst, ev_new, ev_call, ev_cb, ev_size, ev_addI, ev_addS, ev_addT, ev_addL, ev_catO, ev_sub, ev_mul, ev_div, ev_mod, ev_p5, ev_p6, ev_p12, ev_p18, ev_p30, ev_neg, ev_ltI, ev_ltS, ev_leI, ev_leS, ev_gt, ev_ge, ev_eqI, ev_eqS, ev_neI, ev_neS, ev_neB, ev_eqB, ev_is, ev_isnot, ev_ixT, ev_ixS, ev_ixR, ev_ixL, ev_ixK, ev_getL, ev_getM, ev_gL, ev_gM, ev_at0, ev_at1, ev_at2, ev_at3, ev_at4, ev_lenS, ev_lenR, ev_lenT, ev_lenL, ev_lenO, ev_lenD, ev_abs, ev_min2, ev_max2, ev_intI, ev_intB, ev_set, ev_fc, ev_setset, ev_last, ev_appk, ev_app0, ev_setk, ev_set0, ev_assoc, ev_lapp, ev_lappA, ev_sl, ev_nopart, ev_part, ev_ptK, ev_slT, ev_slS, ev_slR, ev_slK, ev_tyN, ev_tyB, ev_tyI, ev_tyS, ev_tyT, ev_tyL, ev_tyR, ev_tyRL, ev_isi, ev_isi1, ev_isi2, ev_isi3, ev_isi4, ev_isi5, ev_isiT, ev_isi2K, ev_isTy, ev_list, ev_listK, ev_tuple, ev_tupK, ev_getST, ev_getSR, ev_getSL, ev_all, ev_allK, ev_eqXI, ev_eqXS, ev_neXI, ev_neXS, ev_neXB, ev_eqXB, ev_eqXR, ev_neXR, ev_nil2, ev_eqK, ev_neK, ev_meth, ev_meth0, ev_mth1, ev_mth2, ev_mth3, ev_append, ev_m0, ev_m0K, ev_str, ev_for, ev_miR1, ev_rg1K, ev_miL, ev_liK, ev_miT, ev_tiK, ev_lc, ev_wipe0, ev_wipeS, ev_yes, ev_lenSet, ev_lenSetK, ev_listR, ev_lrK, ev_put2, ev_p2A, ev_p2K, ev_p2E, ev_put1, ev_pt1, ev_addXI, ev_addXB, ev_addXS, ev_addXT, ev_addXL, ev_subXI, ev_subXB, ev_mulXI, ev_mulXB, ev_mulXL, ev_negXI, ev_negXB, ev_strXI, ev_strXB, ev_mulYI, ev_mulYB, ev_mulYL, ev_mulYT, ev_dnew, ev_dnewT, ev_dgetE, ev_getD, ev_gD, ev_keyI, ev_keyS, ev_dgK, ev_dinE, ev_diK, ev_dputE, ev_dpK, ev_dget2E, ev_isDA, ev_isSome, ev_isNone, ev_dg2K, ev_dpop2E, ev_dp2K, ev_dp3S, ev_dp3N, ev_sortedE, ev_srO1, ev_srO2, ev_gLd, ev_srKS, ev_srKI, ev_gDT, ev_gT, ev_tinE, ev_tiKK, ev_keysA, ev_keysN, ev_keysC, ev_dputTE, ev_dptK, ev_dispE, ev_mpN, ev_mpC, ev_pcK, ev_dsK, ev_dsK2, ev_lc2E, ev_imp, ev_simp, ev_split, ev_splF, ev_splG, ev_fmt, ev_fmtS, ev_fmtI, ev_addK, ev_js0, ev_js1, ev_joined, ev_star, ev_starK, ev_each2, ev_each2K, ev_unl, ev_unlK, ev_intS, ev_strYS, ev_strYI, ev_fldE, ev_getI, ev_gI, ev_fdK, ev_fldS, ev_fpK, ev_mtE, ev_miK, ev_mkE, ev_mkK, ev_callE, ev_tryAs, ev_raise0, ev_raise1, ev_raiseN, ev_revS, ev_revK, ev_zip, ev_enumF, ev_enum, ev_kget, ev_kgK, ev_index, ev_mjoin, ev_joinG, ev_joinK, ev_sbind, ev_miS, ev_siK, List.getElem?_cons_zero, List.getElem?_cons_succ, List.set_cons_zero, List.set_cons_succ, List.length_cons, List.length_nil, List.cons_append, List.nil_append, if_true, if_false, Bool.false_eq_true, Bool.true_eq_false, reduceIte, Bool.not_true, Bool.not_false, Bool.and_true, Bool.true_and, Bool.and_false, Bool.false_and, Bool.or_true, Bool.true_or, Bool.or_false, Bool.false_or, decide_eq_true_eq, Nat.reduceAdd, Nat.reduceLeDiff, Nat.zero_add, Int.reduceLT, Int.reduceLE, Int.reduceEq, Int.reduceNeg, Nat.reduceEqDiff, and_self, and_true, true_and, decide_true, decide_false, eq_self, ite_true, ite_false, Int.reduceSub, Int.reduceAdd, Int.cast_ofNat_Int, Int.natCast_add, Int.cast_ofNat_Int, Nat.reduceSub, Nat.add_assoc, String.reduceBEq, String.reduceEq, Bool.or_not_self, beq_self_eq_true, d]
    refine okR_use (isName_any hx) fun a s h => ?_
    obtain ⟨rfl, l, rfl⟩ := h
    cases nameB x
    · simp only [wp_okR, wp_okF, wp_fin, wp_next, wp_then, wp_bind, wp_nox, wp_tK, wp_bK, wp_fr, wp_fn, wp_nn, wp_nr, wp_nb, wp_nc, wp_ln, wp_lc, wp_lb, wp_lr, wp_jn, wp_jc, ev_bok, ev_bno, ev_bex, ev_tok, ev_tno, ev_tex, ev_nnx, ev_nrt, ev_nbk, ev_nct, ev_nex, ev_nno, ev_frt, ev_fnx, ev_fex, ev_xok, ev_lsome, ev_lnone, ev_seq, ev_if, ev_ret, ev_retN, ev_drop, ev_nop, ev_brk, ev_cont, ev_asgN, ev_asgT, ev_asgO, ev_mgTup, ev_mgN, ev_mgC, ev_mg0, ev_putL, ev_putO, ev_var, ev_vr, ev_c, ev_op, ev_un, ev_test, ev_tb, ev_notT, ev_andT, ev_orT, ev_ifE, ev_not, ev_nb, ev_and, ev_andK, ev_or, ev_orK, ev_chain, ev_chK, ev_nil, ev_cons, ev_tup, ev_lst, ev_new, ev_call, ev_cb, ev_size, ev_addI, ev_addS, ev_addT, ev_addL, ev_catO, ev_sub, ev_mul, ev_div, ev_mod, ev_p5, ev_p6, ev_p12, ev_p18, ev_p30, ev_neg, ev_ltI, ev_ltS, ev_leI, ev_leS, ev_gt, ev_ge, ev_eqI, ev_eqS, ev_neI, ev_neS, ev_neB, ev_eqB, ev_is, ev_isnot, ev_ixT, ev_ixS, ev_ixR, ev_ixL, ev_ixK, ev_getL, ev_getM, ev_gL, ev_gM, ev_at0, ev_at1, ev_at2, ev_at3, ev_at4, ev_lenS, ev_lenR, ev_lenT, ev_lenL, ev_lenO, ev_lenD, ev_abs, ev_min2, ev_max2, ev_intI, ev_intB, ev_set, ev_fc, ev_setset, ev_last, ev_appk, ev_app0, ev_setk, ev_set0, ev_assoc, ev_lapp, ev_lappA, ev_sl, ev_nopart, ev_part, ev_ptK, ev_slT, ev_slS, ev_slR, ev_slK, ev_tyN, ev_tyB, ev_tyI, ev_tyS, ev_tyT, ev_tyL, ev_tyR, ev_tyRL, ev_isi, ev_isi1, ev_isi2, ev_isi3, ev_isi4, ev_isi5, ev_isiT, ev_isi2K, ev_isTy, ev_list, ev_listK, ev_tuple, ev_tupK, ev_getST, ev_getSR, ev_getSL, ev_all, ev_allK, ev_eqXI, ev_eqXS, ev_neXI, ev_neXS, ev_neXB, ev_eqXB, ev_eqXR, ev_neXR, ev_nil2, ev_eqK, ev_neK, ev_meth, ev_meth0, ev_mth1, ev_mth2, ev_mth3, ev_append, ev_m0, ev_m0K, ev_str, ev_for, ev_miR1, ev_rg1K, ev_miL, ev_liK, ev_miT, ev_tiK, ev_lc, ev_wipe0, ev_wipeS, ev_yes, ev_lenSet, ev_lenSetK, ev_listR, ev_lrK, ev_put2, ev_p2A, ev_p2K, ev_p2E, ev_put1, ev_pt1, ev_addXI, ev_addXB, ev_addXS, ev_addXT, ev_addXL, ev_subXI, ev_subXB, ev_mulXI, ev_mulXB, ev_mulXL, ev_negXI, ev_negXB, ev_strXI, ev_strXB, ev_mulYI, ev_mulYB, ev_mulYL, ev_mulYT, ev_dnew, ev_dnewT, ev_dgetE, ev_getD, ev_gD, ev_keyI, ev_keyS, ev_dgK, ev_dinE, ev_diK, ev_dputE, ev_dpK, ev_dget2E, ev_isDA, ev_isSome, ev_isNone, ev_dg2K, ev_dpop2E, ev_dp2K, ev_dp3S, ev_dp3N, ev_sortedE, ev_srO1, ev_srO2, ev_gLd, ev_srKS, ev_srKI, ev_gDT, ev_gT, ev_tinE, ev_tiKK, ev_keysA, ev_keysN, ev_keysC, ev_dputTE, ev_dptK, ev_dispE, ev_mpN, ev_mpC, ev_pcK, ev_dsK, ev_dsK2, ev_lc2E, ev_imp, ev_simp, ev_split, ev_splF, ev_splG, ev_fmt, ev_fmtS, ev_fmtI, ev_addK, ev_js0, ev_js1, ev_joined, ev_star, ev_starK, ev_each2, ev_each2K, ev_unl, ev_unlK, ev_intS, ev_strYS, ev_strYI, ev_fldE, ev_getI, ev_gI, ev_fdK, ev_fldS, ev_fpK, ev_mtE, ev_miK, ev_mkE, ev_mkK, ev_callE, ev_tryAs, ev_raise0, ev_raise1, ev_raiseN, ev_revS, ev_revK, ev_zip, ev_enumF, ev_enum, ev_kget, ev_kgK, ev_index, ev_mjoin, ev_joinG, ev_joinK, ev_sbind, ev_miS, ev_siK, List.getElem?_cons_zero, List.getElem?_cons_succ, List.set_cons_zero, List.set_cons_succ, List.length_cons, List.length_nil, List.cons_append, List.nil_append, if_true, if_false, Bool.false_eq_true, Bool.true_eq_false, reduceIte, Bool.not_true, Bool.not_false, Bool.and_true, Bool.true_and, Bool.and_false, Bool.false_and, Bool.or_true, Bool.true_or, Bool.or_false, Bool.false_or, decide_eq_true_eq, Nat.reduceAdd, Nat.reduceLeDiff, Nat.zero_add, Int.reduceLT, Int.reduceLE, Int.reduceEq, Int.reduceNeg, Nat.reduceEqDiff, and_self, and_true, true_and, decide_true, decide_false, eq_self, ite_true, ite_false, Int.reduceSub, Int.reduceAdd, Int.cast_ofNat_Int, Int.natCast_add, Int.cast_ofNat_Int, Nat.reduceSub, Nat.add_assoc, String.reduceBEq, String.reduceEq, Bool.or_not_self, beq_self_eq_true]
      exact ⟨l, rfl⟩
    · simp only [wp_okR, wp_okF, wp_fin, wp_next, wp_then, wp_bind, wp_nox, wp_tK, wp_bK, wp_fr, wp_fn, wp_nn, wp_nr, wp_nb, wp_nc, wp_ln, wp_lc, wp_lb, wp_lr, wp_jn, wp_jc, ev_bok, ev_bno, ev_bex, ev_tok, ev_tno, ev_tex, ev_nnx, ev_nrt, ev_nbk, ev_nct, ev_nex, ev_nno, ev_frt, ev_fnx, ev_fex, ev_xok, ev_lsome, ev_lnone, ev_seq, ev_if, ev_ret, ev_retN, ev_drop, ev_nop, ev_brk, ev_cont, ev_asgN, ev_asgT, ev_asgO, ev_mgTup, ev_mgN, ev_mgC, ev_mg0, ev_putL, ev_putO, ev_var, ev_vr, ev_c, ev_op, ev_un, ev_test, ev_tb, ev_notT, ev_andT, ev_orT, ev_ifE, ev_not, ev_nb, ev_and, ev_andK, ev_or, ev_orK, ev_chain, ev_chK, ev_nil, ev_cons, ev_tup, ev_lst, ev_new, ev_call, ev_cb, ev_size, ev_addI, ev_addS, ev_addT, ev_addL, ev_catO, ev_sub, ev_mul, ev_div, ev_mod, ev_p5, ev_p6, ev_p12, ev_p18, ev_p30, ev_neg, ev_ltI, ev_ltS, ev_leI, ev_leS, ev_gt, ev_ge, ev_eqI, ev_eqS, ev_neI, ev_neS, ev_neB, ev_eqB, ev_is, ev_isnot, ev_ixT, ev_ixS, ev_ixR, ev_ixL, ev_ixK, ev_getL, ev_getM, ev_gL, ev_gM, ev_at0, ev_at1, ev_at2, ev_at3, ev_at4, ev_lenS, ev_lenR, ev_lenT, ev_lenL, ev_lenO, ev_lenD, ev_abs, ev_min2, ev_max2, ev_intI, ev_intB, ev_set, ev_fc, ev_setset, ev_last, ev_appk, ev_app0, ev_setk, ev_set0, ev_assoc, ev_lapp, ev_lappA, ev_sl, ev_nopart, ev_part, ev_ptK, ev_slT, ev_slS, ev_slR, ev_slK, ev_tyN, ev_tyB, ev_tyI, ev_tyS, ev_tyT, ev_tyL, ev_tyR, ev_tyRL, ev_isi, ev_isi1, ev_isi2, ev_isi3, ev_isi4, ev_isi5, ev_isiT, ev_isi2K, ev_isTy, ev_list, ev_listK, ev_tuple, ev_tupK, ev_getST, ev_getSR, ev_getSL, ev_all, ev_allK, ev_eqXI, ev_eqXS, ev_neXI, ev_neXS, ev_neXB, ev_eqXB, ev_eqXR, ev_neXR, ev_nil2, ev_eqK, ev_neK, ev_meth, ev_meth0, ev_mth1, ev_mth2, ev_mth3, ev_append, ev_m0, ev_m0K, ev_str, ev_for, ev_miR1, ev_rg1K, ev_miL, ev_liK, ev_miT, ev_tiK, ev_lc, ev_wipe0, ev_wipeS, ev_yes, ev_lenSet, ev_lenSetK, ev_listR, ev_lrK, ev_put2, ev_p2A, ev_p2K, ev_p2E, ev_put1, ev_pt1, ev_addXI, ev_addXB, ev_addXS, ev_addXT, ev_addXL, ev_subXI, ev_subXB, ev_mulXI, ev_mulXB, ev_mulXL, ev_negXI, ev_negXB, ev_strXI, ev_strXB, ev_mulYI, ev_mulYB, ev_mulYL, ev_mulYT, ev_dnew, ev_dnewT, ev_dgetE, ev_getD, ev_gD, ev_keyI, ev_keyS, ev_dgK, ev_dinE, ev_diK, ev_dputE, ev_dpK, ev_dget2E, ev_isDA, ev_isSome, ev_isNone, ev_dg2K, ev_dpop2E, ev_dp2K, ev_dp3S, ev_dp3N, ev_sortedE, ev_srO1, ev_srO2, ev_gLd, ev_srKS, ev_srKI, ev_gDT, ev_gT, ev_tinE, ev_tiKK, ev_keysA, ev_keysN, ev_keysC, ev_dputTE, ev_dptK, ev_dispE, ev_mpN, ev_mpC, ev_pcK, ev_dsK, ev_dsK2, ev_lc2E, ev_imp, ev_simp, ev_split, ev_splF, ev_splG, ev_fmt, ev_fmtS, ev_fmtI, ev_addK, ev_js0, ev_js1, ev_joined, ev_star, ev_starK, ev_each2, ev_each2K, ev_unl, ev_unlK, ev_intS, ev_strYS, ev_strYI, ev_fldE, ev_getI, ev_gI, ev_fdK, ev_fldS, ev_fpK, ev_mtE, ev_miK, ev_mkE, ev_mkK, ev_callE, ev_tryAs, ev_raise0, ev_raise1, ev_raiseN, ev_revS, ev_revK, ev_zip, ev_enumF, ev_enum, ev_kget, ev_kgK, ev_index, ev_mjoin, ev_joinG, ev_joinK, ev_sbind, ev_miS, ev_siK, List.getElem?_cons_zero, List.getElem?_cons_succ, List.set_cons_zero, List.set_cons_succ, List.length_cons, List.length_nil, List.cons_append, List.nil_append, if_true, if_false, Bool.false_eq_true, Bool.true_eq_false, reduceIte, Bool.not_true, Bool.not_false, Bool.and_true, Bool.true_and, Bool.and_false, Bool.false_and, Bool.or_true, Bool.true_or, Bool.or_false, Bool.false_or, decide_eq_true_eq, Nat.reduceAdd, Nat.reduceLeDiff, Nat.zero_add, Int.reduceLT, Int.reduceLE, Int.reduceEq, Int.reduceNeg, Nat.reduceEqDiff, and_self, and_true, true_and, decide_true, decide_false, eq_self, ite_true, ite_false, Int.reduceSub, Int.reduceAdd, Int.cast_ofNat_Int, Int.natCast_add, Int.cast_ofNat_Int, Nat.reduceSub, Nat.add_assoc, String.reduceBEq, String.reduceEq, Bool.or_not_self, beq_self_eq_true]
      exact ⟨l, rfl⟩

/-! ### a step, any text -/
theorem lookup_mem {z : Str} {ks : List A} : ∀ {tab : List (Str × List A)}, tab.lookup z = some ks → (z, ks) ∈ tab
  | [], h => by cases h
  | (k, xs) :: tab, h => by
    rw [List.lookup_cons] at h
    by_cases g : z = k
    · subst g
      rw [beq_self_eq_true] at h
      cases h
      exact List.mem_cons_self
    · rw [beq_false_of_ne g] at h
      exact List.mem_cons_of_mem _ (lookup_mem h)
theorem tab_ok : ∀ p ∈ tab_PARTS, p.2.length ≤ 4 ∧ p.2.all isSA = true := by decide +kernel
theorem kinds_ok {w : Str} {ks : List A} (h : tab_PARTS.lookup w = some ks) : ks.length ≤ 4 ∧ ∀ k ∈ ks, ∃ s, k = .str s := by
  obtain ⟨h1, h2⟩ := tab_ok _ (lookup_mem h)
  refine ⟨h1, fun k hk => ?_⟩
  have := List.all_eq_true.mp h2 k hk
  cases k <;> first | exact ⟨_, rfl⟩ | cases this
def partP : A → A
  | .tup [.str k, .str x] => partR k x
  | _ => .non
def noneIn (ps : List A) : Bool := ps.any fun y => eqF y .non
def partsR (ks : List A) (ws : List Str) : List A := (zipA ks (ws.map A.str)).map partP
def stepF (w : Str) (ps : List A) : A := if noneIn ps = true then .non else .tup (.str w :: ps)
def stepK (w : Str) (ws : List Str) : A := match tab_PARTS.lookup w with
  | none => .non
  | some ks => if ws.length = ks.length then stepF w (partsR ks ws) else .non
def stepR (z : Str) : A := match Txt.split z BLK with
  | [] => .non
  | w :: ws => stepK w ws
theorem none_in {st : Sto} {n : Nat} {xs : List A} (g : st[n]? = some (.lst xs)) (h : xs.all flatA = true) : oInX .non (.ref n) st = .ok (.bl (noneIn xs)) st := by
  show lift ((inA st .non (.ref n)).map A.bl) st = _
  have e : getS st (.ref n) = some xs := by
    show getL st (.ref n) = some xs
    rw [ev_getL, g]
    rfl
  unfold inA
  rw [e]
  show lift ((if flatA A.non = true ∧ xs.all flatA = true then some (xs.any fun y => eqF y .non) else none).map A.bl) st = _
  rw [if_pos ⟨rfl, h⟩]
  rfl
theorem part_flat (k x : Str) : flatA (partR k x) = true := by
  unfold partR numR
  split
  · split <;> rfl
  · split <;> rfl
theorem parts_flat (ks : List A) (ws : List Str) : (partsR ks ws).all flatA = true := by
  unfold partsR
  rw [List.all_map]
  refine List.all_eq_true.mpr fun p _ => ?_
  show flatA (partP p) = true
  unfold partP
  split
  · exact part_flat _ _
  · rfl
theorem step_any {S : Sto} {z : Str} (hz : z.length ≤ 1200000) : okR (m_step_of [.str z] S) fun y t => y = stepR z ∧ ∃ l, t = S ++ l := by
  have u1 : z.length + 2 ≤ 16777216 := by omega
  have u2 : (BLK.length == 0) = false := by decide +kernel
  have nm : Str.ofString " " = BLK := rfl
  have hm := split_many z 32
  rw [← blk_is] at hm
  obtain ⟨w, ws, e⟩ := split_ne z 32
  rw [← blk_is] at e
  have hin : ∀ x ∈ ws, x.length ≤ 1200000 := fun x hx => by
    have := split_in (z := z) (x := x) (c := 32) (by rw [← blk_is, e]; exact List.mem_cons_of_mem _ hx)
    omega
  rw [e, List.length_cons] at hm
  have er : stepR z = stepK w ws := by
    unfold stepR
    rw [e]
  rw [er, st_step_of]
  unfold b_step_of
  have a0 : atI (A.str w :: ws.map A.str) 0 = some (.str w) := at0_is _ _
  have em : List.map A.str (w :: ws) = A.str w :: ws.map A.str := rfl
  cases hl : tab_PARTS.lookup w with
  | none =>
    have ht : tabA tab_PARTS w = .non := by
      unfold tabA
      rw [hl]
    have i0 : isNon A.non = true := rfl
    have ek : stepK w ws = .non := by
      unfold stepK
      rw [hl]
    rw [ek]
    simp only [wp_okR, wp_okF, wp_fin, wp_next, wp_then, wp_bind, wp_nox, wp_tK, wp_bK, wp_fr, wp_fn, wp_nn, wp_nr, wp_nb, wp_nc, wp_ln, wp_lc, wp_lb, wp_lr, wp_jn, wp_jc, ev_bok, ev_bno, ev_bex, ev_tok, ev_tno, ev_tex, ev_nnx, ev_nrt, ev_nbk, ev_nct, ev_nex, ev_nno, ev_frt, ev_fnx, ev_fex, ev_xok, ev_lsome, ev_lnone, ev_seq, ev_if, ev_ret, ev_retN, ev_drop, ev_nop, ev_brk, ev_cont, ev_asgN, ev_asgT, ev_asgO, ev_mgTup, ev_mgN, ev_mgC, ev_mg0, ev_putL, ev_putO, ev_var, ev_vr, ev_c, ev_op, ev_un, ev_test, ev_tb, ev_notT, ev_andT, ev_orT, ev_ifE, ev_not, ev_nb, ev_and, ev_andK, ev_or, ev_orK, ev_chain, ev_chK, ev_nil, ev_cons, ev_tup, ev_lst, ev_new, ev_call, ev_cb, ev_size, ev_addI, ev_addS, ev_addT, ev_addL, ev_catO, ev_sub, ev_mul, ev_div, ev_mod, ev_p5, ev_p6, ev_p12, ev_p18, ev_p30, ev_neg, ev_ltI, ev_ltS, ev_leI, ev_leS, ev_gt, ev_ge, ev_eqI, ev_eqS, ev_neI, ev_neS, ev_neB, ev_eqB, ev_is, ev_isnot, ev_ixT, ev_ixS, ev_ixR, ev_ixL, ev_ixK, ev_getL, ev_getM, ev_gL, ev_gM, ev_at0, ev_at1, ev_at2, ev_at3, ev_at4, ev_lenS, ev_lenR, ev_lenT, ev_lenL, ev_lenO, ev_lenD, ev_abs, ev_min2, ev_max2, ev_intI, ev_intB, ev_set, ev_fc, ev_setset, ev_last, ev_appk, ev_app0, ev_setk, ev_set0, ev_assoc, ev_lapp, ev_lappA, ev_sl, ev_nopart, ev_part, ev_ptK, ev_slT, ev_slS, ev_slR, ev_slK, ev_tyN, ev_tyB, ev_tyI, ev_tyS, ev_tyT, ev_tyL, ev_tyR, ev_tyRL, ev_isi, ev_isi1, ev_isi2, ev_isi3, ev_isi4, ev_isi5, ev_isiT, ev_isi2K, ev_isTy, ev_list, ev_listK, ev_tuple, ev_tupK, ev_getST, ev_getSR, ev_getSL, ev_all, ev_allK, ev_eqXI, ev_eqXS, ev_neXI, ev_neXS, ev_neXB, ev_eqXB, ev_eqXR, ev_neXR, ev_nil2, ev_eqK, ev_neK, ev_meth, ev_meth0, ev_mth1, ev_mth2, ev_mth3, ev_append, ev_m0, ev_m0K, ev_str, ev_for, ev_miR1, ev_rg1K, ev_miL, ev_liK, ev_miT, ev_tiK, ev_lc, ev_wipe0, ev_wipeS, ev_yes, ev_lenSet, ev_lenSetK, ev_listR, ev_lrK, ev_put2, ev_p2A, ev_p2K, ev_p2E, ev_put1, ev_pt1, ev_addXI, ev_addXB, ev_addXS, ev_addXT, ev_addXL, ev_subXI, ev_subXB, ev_mulXI, ev_mulXB, ev_mulXL, ev_negXI, ev_negXB, ev_strXI, ev_strXB, ev_mulYI, ev_mulYB, ev_mulYL, ev_mulYT, ev_dnew, ev_dnewT, ev_dgetE, ev_getD, ev_gD, ev_keyI, ev_keyS, ev_dgK, ev_dinE, ev_diK, ev_dputE, ev_dpK, ev_dget2E, ev_isDA, ev_isSome, ev_isNone, ev_dg2K, ev_dpop2E, ev_dp2K, ev_dp3S, ev_dp3N, ev_sortedE, ev_srO1, ev_srO2, ev_gLd, ev_srKS, ev_srKI, ev_gDT, ev_gT, ev_tinE, ev_tiKK, ev_keysA, ev_keysN, ev_keysC, ev_dputTE, ev_dptK, ev_dispE, ev_mpN, ev_mpC, ev_pcK, ev_dsK, ev_dsK2, ev_lc2E, ev_imp, ev_simp, ev_split, ev_splF, ev_splG, ev_fmt, ev_fmtS, ev_fmtI, ev_addK, ev_js0, ev_js1, ev_joined, ev_star, ev_starK, ev_each2, ev_each2K, ev_unl, ev_unlK, ev_intS, ev_strYS, ev_strYI, ev_fldE, ev_getI, ev_gI, ev_fdK, ev_fldS, ev_fpK, ev_mtE, ev_miK, ev_mkE, ev_mkK, ev_callE, ev_tryAs, ev_raise0, ev_raise1, ev_raiseN, ev_revS, ev_revK, ev_zip, ev_enumF, ev_enum, ev_kget, ev_kgK, ev_index, ev_mjoin, ev_joinG, ev_joinK, ev_sbind, ev_miS, ev_siK, List.getElem?_cons_zero, List.getElem?_cons_succ, List.set_cons_zero, List.set_cons_succ, List.length_cons, List.length_nil, List.cons_append, List.nil_append, if_true, if_false, Bool.false_eq_true, Bool.true_eq_false, reduceIte, Bool.not_true, Bool.not_false, Bool.and_true, Bool.true_and, Bool.and_false, Bool.false_and, Bool.or_true, Bool.true_or, Bool.or_false, Bool.false_or, decide_eq_true_eq, Nat.reduceAdd, Nat.reduceLeDiff, Nat.zero_add, Int.reduceLT, Int.reduceLE, Int.reduceEq, Int.reduceNeg, Nat.reduceEqDiff, and_self, and_true, true_and, decide_true, decide_false, eq_self, ite_true, ite_false, Int.reduceSub, Int.reduceAdd, Int.cast_ofNat_Int, Int.natCast_add, Int.cast_ofNat_Int, Nat.reduceSub, Nat.add_assoc, String.reduceBEq, String.reduceEq, Bool.or_not_self, beq_self_eq_true, nm, u1, u2, e, em, a0, ht, i0]
    exact ⟨_, rfl⟩
  | some ks =>
    have ht : tabA tab_PARTS w = .tup ks := by
      unfold tabA
      rw [hl]
    obtain ⟨k1, k2⟩ := kinds_ok hl
    have i1 : isNon (A.tup ks) = false := rfl
    by_cases hq : ws.length = ks.length
    · have hd : decide (((List.map A.str ws).length : Int) + 1 = (ks.length : Int) + 1) = true := decide_eq_true (by rw [List.length_map]; omega)
      have ec : cutA (A.str w :: ws.map A.str) (some 1) none = ws.map A.str := cut_one _ _
      have ek : stepK w ws = stepF w (partsR ks ws) := by
        unfold stepK
        rw [hl]
        exact if_pos hq
      rw [ek]
      simp only [wp_okR, wp_okF, wp_fin, wp_next, wp_then, wp_bind, wp_nox, wp_tK, wp_bK, wp_fr, wp_fn, wp_nn, wp_nr, wp_nb, wp_nc, wp_ln, wp_lc, wp_lb, wp_lr, wp_jn, wp_jc, ev_bok, ev_bno, ev_bex, ev_tok, ev_tno, ev_tex, ev_nnx, ev_nrt, ev_nbk, ev_nct, ev_nex, ev_nno, ev_frt, ev_fnx, ev_fex, ev_xok, ev_lsome, ev_lnone, ev_seq, ev_if, ev_ret, ev_retN, ev_drop, ev_nop, ev_brk, ev_cont, ev_asgN, ev_asgT, ev_asgO, ev_mgTup, ev_mgN, ev_mgC, ev_mg0, ev_putL, ev_putO, ev_var, ev_vr, ev_c, ev_op, ev_un, ev_test, ev_tb, ev_notT, ev_andT, ev_orT, ev_ifE, ev_not, ev_nb, ev_and, ev_andK, ev_or, ev_orK, ev_chain, ev_chK, ev_nil, ev_cons, ev_tup, ev_lst, ev_new, ev_call, ev_cb, ev_size, ev_addI, ev_addS, ev_addT, ev_addL, ev_catO, ev_sub, ev_mul, ev_div, ev_mod, ev_p5, ev_p6, ev_p12, ev_p18, ev_p30, ev_neg, ev_ltI, ev_ltS, ev_leI, ev_leS, ev_gt, ev_ge, ev_eqI, ev_eqS, ev_neI, ev_neS, ev_neB, ev_eqB, ev_is, ev_isnot, ev_ixT, ev_ixS, ev_ixR, ev_ixL, ev_ixK, ev_getL, ev_getM, ev_gL, ev_gM, ev_at0, ev_at1, ev_at2, ev_at3, ev_at4, ev_lenS, ev_lenR, ev_lenT, ev_lenL, ev_lenO, ev_lenD, ev_abs, ev_min2, ev_max2, ev_intI, ev_intB, ev_set, ev_fc, ev_setset, ev_last, ev_appk, ev_app0, ev_setk, ev_set0, ev_assoc, ev_lapp, ev_lappA, ev_sl, ev_nopart, ev_part, ev_ptK, ev_slT, ev_slS, ev_slR, ev_slK, ev_tyN, ev_tyB, ev_tyI, ev_tyS, ev_tyT, ev_tyL, ev_tyR, ev_tyRL, ev_isi, ev_isi1, ev_isi2, ev_isi3, ev_isi4, ev_isi5, ev_isiT, ev_isi2K, ev_isTy, ev_list, ev_listK, ev_tuple, ev_tupK, ev_getST, ev_getSR, ev_getSL, ev_all, ev_allK, ev_eqXI, ev_eqXS, ev_neXI, ev_neXS, ev_neXB, ev_eqXB, ev_eqXR, ev_neXR, ev_nil2, ev_eqK, ev_neK, ev_meth, ev_meth0, ev_mth1, ev_mth2, ev_mth3, ev_append, ev_m0, ev_m0K, ev_str, ev_for, ev_miR1, ev_rg1K, ev_miL, ev_liK, ev_miT, ev_tiK, ev_lc, ev_wipe0, ev_wipeS, ev_yes, ev_lenSet, ev_lenSetK, ev_listR, ev_lrK, ev_put2, ev_p2A, ev_p2K, ev_p2E, ev_put1, ev_pt1, ev_addXI, ev_addXB, ev_addXS, ev_addXT, ev_addXL, ev_subXI, ev_subXB, ev_mulXI, ev_mulXB, ev_mulXL, ev_negXI, ev_negXB, ev_strXI, ev_strXB, ev_mulYI, ev_mulYB, ev_mulYL, ev_mulYT, ev_dnew, ev_dnewT, ev_dgetE, ev_getD, ev_gD, ev_keyI, ev_keyS, ev_dgK, ev_dinE, ev_diK, ev_dputE, ev_dpK, ev_dget2E, ev_isDA, ev_isSome, ev_isNone, ev_dg2K, ev_dpop2E, ev_dp2K, ev_dp3S, ev_dp3N, ev_sortedE, ev_srO1, ev_srO2, ev_gLd, ev_srKS, ev_srKI, ev_gDT, ev_gT, ev_tinE, ev_tiKK, ev_keysA, ev_keysN, ev_keysC, ev_dputTE, ev_dptK, ev_dispE, ev_mpN, ev_mpC, ev_pcK, ev_dsK, ev_dsK2, ev_lc2E, ev_imp, ev_simp, ev_split, ev_splF, ev_splG, ev_fmt, ev_fmtS, ev_fmtI, ev_addK, ev_js0, ev_js1, ev_joined, ev_star, ev_starK, ev_each2, ev_each2K, ev_unl, ev_unlK, ev_intS, ev_strYS, ev_strYI, ev_fldE, ev_getI, ev_gI, ev_fdK, ev_fldS, ev_fpK, ev_mtE, ev_miK, ev_mkE, ev_mkK, ev_callE, ev_tryAs, ev_raise0, ev_raise1, ev_raiseN, ev_revS, ev_revK, ev_zip, ev_enumF, ev_enum, ev_kget, ev_kgK, ev_index, ev_mjoin, ev_joinG, ev_joinK, ev_sbind, ev_miS, ev_siK, List.getElem?_cons_zero, List.getElem?_cons_succ, List.set_cons_zero, List.set_cons_succ, List.length_cons, List.length_nil, List.cons_append, List.nil_append, if_true, if_false, Bool.false_eq_true, Bool.true_eq_false, reduceIte, Bool.not_true, Bool.not_false, Bool.and_true, Bool.true_and, Bool.and_false, Bool.false_and, Bool.or_true, Bool.true_or, Bool.or_false, Bool.false_or, decide_eq_true_eq, Nat.reduceAdd, Nat.reduceLeDiff, Nat.zero_add, Int.reduceLT, Int.reduceLE, Int.reduceEq, Int.reduceNeg, Nat.reduceEqDiff, and_self, and_true, true_and, decide_true, decide_false, eq_self, ite_true, ite_false, Int.reduceSub, Int.reduceAdd, Int.cast_ofNat_Int, Int.natCast_add, Int.cast_ofNat_Int, Nat.reduceSub, Nat.add_assoc, String.reduceBEq, String.reduceEq, Bool.or_not_self, beq_self_eq_true, nm, u1, u2, e, em, a0, ht, i1, hd, ec]
      obtain ⟨S1, hS1⟩ : ∃ S1, S1 = S ++ [AO.lst (A.str w :: ws.map A.str), AO.lst (ws.map A.str)] := ⟨_, rfl⟩
      have z1 : S.length + 2 = S1.length := by rw [hS1, List.length_append]; rfl
      have es : S ++ [AO.lst (A.str w :: ws.map A.str), AO.lst (ws.map A.str), AO.lst []] = S1 ++ [AO.lst []] := by
        rw [hS1, List.append_assoc]
        rfl
      have g0 : ∀ k, (S1 ++ k)[S.length]? = some (AO.lst (A.str w :: ws.map A.str)) := fun k => by
        rw [hS1, List.append_assoc, List.getElem?_append_right (by omega), Nat.sub_self]
        rfl
      have g1 : ∀ k, (S1 ++ k)[S.length + 1]? = some (AO.lst (ws.map A.str)) := fun k => by
        rw [hS1, List.append_assoc, List.getElem?_append_right (by omega), Nat.add_sub_cancel_left]
        rfl
      rw [es, z1]
      refine lc_M partP (fun k => ?_) (by unfold zipA; rw [List.length_map, List.length_zip]; omega) (fun x hx => ?_) (fun l' => ?_)
      · show getL (S1 ++ k) (.ref (S.length + 1)) = _
        rw [ev_getL, g1]
        rfl
      · unfold zipA at hx
        obtain ⟨⟨kk, y⟩, hy, rfl⟩ := List.mem_map.mp hx
        have hy1 := List.of_mem_zip hy
        obtain ⟨sk, rfl⟩ := k2 kk hy1.1
        obtain ⟨x, hx2, rfl⟩ := List.mem_map.mp hy1.2
        refine ⟨_, rfl, fun k => ?_⟩
        simp only [wp_okR, wp_okF, wp_fin, wp_next, wp_then, wp_bind, wp_nox, wp_tK, wp_bK, wp_fr, wp_fn, wp_nn, wp_nr, wp_nb, wp_nc, wp_ln, wp_lc, wp_lb, wp_lr, wp_jn, wp_jc, ev_bok, ev_bno, ev_bex, ev_tok, ev_tno, ev_tex, ev_nnx, ev_nrt, ev_nbk, ev_nct, ev_nex, ev_nno, ev_frt, ev_fnx, ev_fex, ev_xok, ev_lsome, ev_lnone, ev_seq, ev_if, ev_ret, ev_retN, ev_drop, ev_nop, ev_brk, ev_cont, ev_asgN, ev_asgT, ev_asgO, ev_mgTup, ev_mgN, ev_mgC, ev_mg0, ev_putL, ev_putO, ev_var, ev_vr, ev_c, ev_op, ev_un, ev_test, ev_tb, ev_notT, ev_andT, ev_orT, ev_ifE, ev_not, ev_nb, ev_and, ev_andK, ev_or, ev_orK, ev_chain, ev_chK, ev_nil, ev_cons, ev_tup, ev_lst, ev_new, ev_call, ev_cb, ev_size, ev_addI, ev_addS, ev_addT, ev_addL, ev_catO, ev_sub, ev_mul, ev_div, ev_mod, ev_p5, ev_p6, ev_p12, ev_p18, ev_p30, ev_neg, ev_ltI, ev_ltS, ev_leI, ev_leS, ev_gt, ev_ge, ev_eqI, ev_eqS, ev_neI, ev_neS, ev_neB, ev_eqB, ev_is, ev_isnot, ev_ixT, ev_ixS, ev_ixR, ev_ixL, ev_ixK, ev_getL, ev_getM, ev_gL, ev_gM, ev_at0, ev_at1, ev_at2, ev_at3, ev_at4, ev_lenS, ev_lenR, ev_lenT, ev_lenL, ev_lenO, ev_lenD, ev_abs, ev_min2, ev_max2, ev_intI, ev_intB, ev_set, ev_fc, ev_setset, ev_last, ev_appk, ev_app0, ev_setk, ev_set0, ev_assoc, ev_lapp, ev_lappA, ev_sl, ev_nopart, ev_part, ev_ptK, ev_slT, ev_slS, ev_slR, ev_slK, ev_tyN, ev_tyB, ev_tyI, ev_tyS, ev_tyT, ev_tyL, ev_tyR, ev_tyRL, ev_isi, ev_isi1, ev_isi2, ev_isi3, ev_isi4, ev_isi5, ev_isiT, ev_isi2K, ev_isTy, ev_list, ev_listK, ev_tuple, ev_tupK, ev_getST, ev_getSR, ev_getSL, ev_all, ev_allK, ev_eqXI, ev_eqXS, ev_neXI, ev_neXS, ev_neXB, ev_eqXB, ev_eqXR, ev_neXR, ev_nil2, ev_eqK, ev_neK, ev_meth, ev_meth0, ev_mth1, ev_mth2, ev_mth3, ev_append, ev_m0, ev_m0K, ev_str, ev_for, ev_miR1, ev_rg1K, ev_miL, ev_liK, ev_miT, ev_tiK, ev_lc, ev_wipe0, ev_wipeS, ev_yes, ev_lenSet, ev_lenSetK, ev_listR, ev_lrK, ev_put2, ev_p2A, ev_p2K, ev_p2E, ev_put1, ev_pt1, ev_addXI, ev_addXB, ev_addXS, ev_addXT, ev_addXL, ev_subXI, ev_subXB, ev_mulXI, ev_mulXB, ev_mulXL, ev_negXI, ev_negXB, ev_strXI, ev_strXB, ev_mulYI, ev_mulYB, ev_mulYL, ev_mulYT, ev_dnew, ev_dnewT, ev_dgetE, ev_getD, ev_gD, ev_keyI, ev_keyS, ev_dgK, ev_dinE, ev_diK, ev_dputE, ev_dpK, ev_dget2E, ev_isDA, ev_isSome, ev_isNone, ev_dg2K, ev_dpop2E, ev_dp2K, ev_dp3S, ev_dp3N, ev_sortedE, ev_srO1, ev_srO2, ev_gLd, ev_srKS, ev_srKI, ev_gDT, ev_gT, ev_tinE, ev_tiKK, ev_keysA, ev_keysN, ev_keysC, ev_dputTE, ev_dptK, ev_dispE, ev_mpN, ev_mpC, ev_pcK, ev_dsK, ev_dsK2, ev_lc2E, ev_imp, ev_simp, ev_split, ev_splF, ev_splG, ev_fmt, ev_fmtS, ev_fmtI, ev_addK, ev_js0, ev_js1, ev_joined, ev_star, ev_starK, ev_each2, ev_each2K, ev_unl, ev_unlK, ev_intS, ev_strYS, ev_strYI, ev_fldE, ev_getI, ev_gI, ev_fdK, ev_fldS, ev_fpK, ev_mtE, ev_miK, ev_mkE, ev_mkK, ev_callE, ev_tryAs, ev_raise0, ev_raise1, ev_raiseN, ev_revS, ev_revK, ev_zip, ev_enumF, ev_enum, ev_kget, ev_kgK, ev_index, ev_mjoin, ev_joinG, ev_joinK, ev_sbind, ev_miS, ev_siK, List.getElem?_cons_zero, List.getElem?_cons_succ, List.set_cons_zero, List.set_cons_succ, List.length_cons, List.length_nil, List.cons_append, List.nil_append, if_true, if_false, Bool.false_eq_true, Bool.true_eq_false, reduceIte, Bool.not_true, Bool.not_false, Bool.and_true, Bool.true_and, Bool.and_false, Bool.false_and, Bool.or_true, Bool.true_or, Bool.or_false, Bool.false_or, decide_eq_true_eq, Nat.reduceAdd, Nat.reduceLeDiff, Nat.zero_add, Int.reduceLT, Int.reduceLE, Int.reduceEq, Int.reduceNeg, Nat.reduceEqDiff, and_self, and_true, true_and, decide_true, decide_false, eq_self, ite_true, ite_false, Int.reduceSub, Int.reduceAdd, Int.cast_ofNat_Int, Int.natCast_add, Int.cast_ofNat_Int, Nat.reduceSub, Nat.add_assoc, String.reduceBEq, String.reduceEq, Bool.or_not_self, beq_self_eq_true]
        refine okR_use (part_any (hin x hx2)) fun a s h => ?_
        obtain ⟨rfl, k2, rfl⟩ := h
        exact ⟨rfl, k2, List.append_assoc _ _ _⟩
      · have ep : (zipA ks (ws.map A.str)).map partP = partsR ks ws := rfl
        rw [ep]
        have gl : (S1 ++ AO.lst (partsR ks ws) :: l')[S1.length]? = some (AO.lst (partsR ks ws)) := by
          rw [List.getElem?_append_right (Nat.le_refl _), Nat.sub_self]
          rfl
        have ni := none_in gl (parts_flat ks ws)
        have hpl : (partsR ks ws).length ≤ 16777215 := by
          unfold partsR zipA
          rw [List.length_map, List.length_map, List.length_zip]
          omega
        unfold stepF
        cases hn : noneIn (partsR ks ws)
        · simp only [wp_okR, wp_okF, wp_fin, wp_next, wp_then, wp_bind, wp_nox, wp_tK, wp_bK, wp_fr, wp_fn, wp_nn, wp_nr, wp_nb, wp_nc, wp_ln, wp_lc, wp_lb, wp_lr, wp_jn, wp_jc, ev_bok, ev_bno, ev_bex, ev_tok, ev_tno, ev_tex, ev_nnx, ev_nrt, ev_nbk, ev_nct, ev_nex, ev_nno, ev_frt, ev_fnx, ev_fex, ev_xok, ev_lsome, ev_lnone, ev_seq, ev_if, ev_ret, ev_retN, ev_drop, ev_nop, ev_brk, ev_cont, ev_asgN, ev_asgT, ev_asgO, ev_mgTup, ev_mgN, ev_mgC, ev_mg0, ev_putL, ev_putO, ev_var, ev_vr, ev_c, ev_op, ev_un, ev_test, ev_tb, ev_notT, ev_andT, ev_orT, ev_ifE, ev_not, ev_nb, ev_and, ev_andK, ev_or, ev_orK, ev_chain, ev_chK, ev_nil, ev_cons, ev_tup, ev_lst, ev_new, ev_call, ev_cb, ev_size, ev_addI, ev_addS, ev_addT, ev_addL, ev_catO, ev_sub, ev_mul, ev_div, ev_mod, ev_p5, ev_p6, ev_p12, ev_p18, ev_p30, ev_neg, ev_ltI, ev_ltS, ev_leI, ev_leS, ev_gt, ev_ge, ev_eqI, ev_eqS, ev_neI, ev_neS, ev_neB, ev_eqB, ev_is, ev_isnot, ev_ixT, ev_ixS, ev_ixR, ev_ixL, ev_ixK, ev_getL, ev_getM, ev_gL, ev_gM, ev_at0, ev_at1, ev_at2, ev_at3, ev_at4, ev_lenS, ev_lenR, ev_lenT, ev_lenL, ev_lenO, ev_lenD, ev_abs, ev_min2, ev_max2, ev_intI, ev_intB, ev_set, ev_fc, ev_setset, ev_last, ev_appk, ev_app0, ev_setk, ev_set0, ev_assoc, ev_lapp, ev_lappA, ev_sl, ev_nopart, ev_part, ev_ptK, ev_slT, ev_slS, ev_slR, ev_slK, ev_tyN, ev_tyB, ev_tyI, ev_tyS, ev_tyT, ev_tyL, ev_tyR, ev_tyRL, ev_isi, ev_isi1, ev_isi2, ev_isi3, ev_isi4, ev_isi5, ev_isiT, ev_isi2K, ev_isTy, ev_list, ev_listK, ev_tuple, ev_tupK, ev_getST, ev_getSR, ev_getSL, ev_all, ev_allK, ev_eqXI, ev_eqXS, ev_neXI, ev_neXS, ev_neXB, ev_eqXB, ev_eqXR, ev_neXR, ev_nil2, ev_eqK, ev_neK, ev_meth, ev_meth0, ev_mth1, ev_mth2, ev_mth3, ev_append, ev_m0, ev_m0K, ev_str, ev_for, ev_miR1, ev_rg1K, ev_miL, ev_liK, ev_miT, ev_tiK, ev_lc, ev_wipe0, ev_wipeS, ev_yes, ev_lenSet, ev_lenSetK, ev_listR, ev_lrK, ev_put2, ev_p2A, ev_p2K, ev_p2E, ev_put1, ev_pt1, ev_addXI, ev_addXB, ev_addXS, ev_addXT, ev_addXL, ev_subXI, ev_subXB, ev_mulXI, ev_mulXB, ev_mulXL, ev_negXI, ev_negXB, ev_strXI, ev_strXB, ev_mulYI, ev_mulYB, ev_mulYL, ev_mulYT, ev_dnew, ev_dnewT, ev_dgetE, ev_getD, ev_gD, ev_keyI, ev_keyS, ev_dgK, ev_dinE, ev_diK, ev_dputE, ev_dpK, ev_dget2E, ev_isDA, ev_isSome, ev_isNone, ev_dg2K, ev_dpop2E, ev_dp2K, ev_dp3S, ev_dp3N, ev_sortedE, ev_srO1, ev_srO2, ev_gLd, ev_srKS, ev_srKI, ev_gDT, ev_gT, ev_tinE, ev_tiKK, ev_keysA, ev_keysN, ev_keysC, ev_dputTE, ev_dptK, ev_dispE, ev_mpN, ev_mpC, ev_pcK, ev_dsK, ev_dsK2, ev_lc2E, ev_imp, ev_simp, ev_split, ev_splF, ev_splG, ev_fmt, ev_fmtS, ev_fmtI, ev_addK, ev_js0, ev_js1, ev_joined, ev_star, ev_starK, ev_each2, ev_each2K, ev_unl, ev_unlK, ev_intS, ev_strYS, ev_strYI, ev_fldE, ev_getI, ev_gI, ev_fdK, ev_fldS, ev_fpK, ev_mtE, ev_miK, ev_mkE, ev_mkK, ev_callE, ev_tryAs, ev_raise0, ev_raise1, ev_raiseN, ev_revS, ev_revK, ev_zip, ev_enumF, ev_enum, ev_kget, ev_kgK, ev_index, ev_mjoin, ev_joinG, ev_joinK, ev_sbind, ev_miS, ev_siK, List.getElem?_cons_zero, List.getElem?_cons_succ, List.set_cons_zero, List.set_cons_succ, List.length_cons, List.length_nil, List.cons_append, List.nil_append, if_true, if_false, Bool.false_eq_true, Bool.true_eq_false, reduceIte, Bool.not_true, Bool.not_false, Bool.and_true, Bool.true_and, Bool.and_false, Bool.false_and, Bool.or_true, Bool.true_or, Bool.or_false, Bool.false_or, decide_eq_true_eq, Nat.reduceAdd, Nat.reduceLeDiff, Nat.zero_add, Int.reduceLT, Int.reduceLE, Int.reduceEq, Int.reduceNeg, Nat.reduceEqDiff, and_self, and_true, true_and, decide_true, decide_false, eq_self, ite_true, ite_false, Int.reduceSub, Int.reduceAdd, Int.cast_ofNat_Int, Int.natCast_add, Int.cast_ofNat_Int, Nat.reduceSub, Nat.add_assoc, String.reduceBEq, String.reduceEq, Bool.or_not_self, beq_self_eq_true, ni, hn, g0, a0, gl, hpl]
          exact ⟨by rw [List.append_nil], _, by rw [hS1, List.append_assoc]⟩
        · simp only [wp_okR, wp_okF, wp_fin, wp_next, wp_then, wp_bind, wp_nox, wp_tK, wp_bK, wp_fr, wp_fn, wp_nn, wp_nr, wp_nb, wp_nc, wp_ln, wp_lc, wp_lb, wp_lr, wp_jn, wp_jc, ev_bok, ev_bno, ev_bex, ev_tok, ev_tno, ev_tex, ev_nnx, ev_nrt, ev_nbk, ev_nct, ev_nex, ev_nno, ev_frt, ev_fnx, ev_fex, ev_xok, ev_lsome, ev_lnone, ev_seq, ev_if, ev_ret, ev_retN, ev_drop, ev_nop, ev_brk, ev_cont, ev_asgN, ev_asgT, ev_asgO, ev_mgTup, ev_mgN, ev_mgC, ev_mg0, ev_putL, ev_putO, ev_var, ev_vr, ev_c, ev_op, ev_un, ev_test, ev_tb, ev_notT, ev_andT, ev_orT, ev_ifE, ev_not, ev_nb, ev_and, ev_andK, ev_or, ev_orK, ev_chain, ev_chK, ev_nil, ev_cons, ev_tup, ev_lst, ev_new, ev_call, ev_cb, ev_size, ev_addI, ev_addS, ev_addT, ev_addL, ev_catO, ev_sub, ev_mul, ev_div, ev_mod, ev_p5, ev_p6, ev_p12, ev_p18, ev_p30, ev_neg, ev_ltI, ev_ltS, ev_leI, ev_leS, ev_gt, ev_ge, ev_eqI, ev_eqS, ev_neI, ev_neS, ev_neB, ev_eqB, ev_is, ev_isnot, ev_ixT, ev_ixS, ev_ixR, ev_ixL, ev_ixK, ev_getL, ev_getM, ev_gL, ev_gM, ev_at0, ev_at1, ev_at2, ev_at3, ev_at4, ev_lenS, ev_lenR, ev_lenT, ev_lenL, ev_lenO, ev_lenD, ev_abs, ev_min2, ev_max2, ev_intI, ev_intB, ev_set, ev_fc, ev_setset, ev_last, ev_appk, ev_app0, ev_setk, ev_set0, ev_assoc, ev_lapp, ev_lappA, ev_sl, ev_nopart, ev_part, ev_ptK, ev_slT, ev_slS, ev_slR, ev_slK, ev_tyN, ev_tyB, ev_tyI, ev_tyS, ev_tyT, ev_tyL, ev_tyR, ev_tyRL, ev_isi, ev_isi1, ev_isi2, ev_isi3, ev_isi4, ev_isi5, ev_isiT, ev_isi2K, ev_isTy, ev_list, ev_listK, ev_tuple, ev_tupK, ev_getST, ev_getSR, ev_getSL, ev_all, ev_allK, ev_eqXI, ev_eqXS, ev_neXI, ev_neXS, ev_neXB, ev_eqXB, ev_eqXR, ev_neXR, ev_nil2, ev_eqK, ev_neK, ev_meth, ev_meth0, ev_mth1, ev_mth2, ev_mth3, ev_append, ev_m0, ev_m0K, ev_str, ev_for, ev_miR1, ev_rg1K, ev_miL, ev_liK, ev_miT, ev_tiK, ev_lc, ev_wipe0, ev_wipeS, ev_yes, ev_lenSet, ev_lenSetK, ev_listR, ev_lrK, ev_put2, ev_p2A, ev_p2K, ev_p2E, ev_put1, ev_pt1, ev_addXI, ev_addXB, ev_addXS, ev_addXT, ev_addXL, ev_subXI, ev_subXB, ev_mulXI, ev_mulXB, ev_mulXL, ev_negXI, ev_negXB, ev_strXI, ev_strXB, ev_mulYI, ev_mulYB, ev_mulYL, ev_mulYT, ev_dnew, ev_dnewT, ev_dgetE, ev_getD, ev_gD, ev_keyI, ev_keyS, ev_dgK, ev_dinE, ev_diK, ev_dputE, ev_dpK, ev_dget2E, ev_isDA, ev_isSome, ev_isNone, ev_dg2K, ev_dpop2E, ev_dp2K, ev_dp3S, ev_dp3N, ev_sortedE, ev_srO1, ev_srO2, ev_gLd, ev_srKS, ev_srKI, ev_gDT, ev_gT, ev_tinE, ev_tiKK, ev_keysA, ev_keysN, ev_keysC, ev_dputTE, ev_dptK, ev_dispE, ev_mpN, ev_mpC, ev_pcK, ev_dsK, ev_dsK2, ev_lc2E, ev_imp, ev_simp, ev_split, ev_splF, ev_splG, ev_fmt, ev_fmtS, ev_fmtI, ev_addK, ev_js0, ev_js1, ev_joined, ev_star, ev_starK, ev_each2, ev_each2K, ev_unl, ev_unlK, ev_intS, ev_strYS, ev_strYI, ev_fldE, ev_getI, ev_gI, ev_fdK, ev_fldS, ev_fpK, ev_mtE, ev_miK, ev_mkE, ev_mkK, ev_callE, ev_tryAs, ev_raise0, ev_raise1, ev_raiseN, ev_revS, ev_revK, ev_zip, ev_enumF, ev_enum, ev_kget, ev_kgK, ev_index, ev_mjoin, ev_joinG, ev_joinK, ev_sbind, ev_miS, ev_siK, List.getElem?_cons_zero, List.getElem?_cons_succ, List.set_cons_zero, List.set_cons_succ, List.length_cons, List.length_nil, List.cons_append, List.nil_append, if_true, if_false, Bool.false_eq_true, Bool.true_eq_false, reduceIte, Bool.not_true, Bool.not_false, Bool.and_true, Bool.true_and, Bool.and_false, Bool.false_and, Bool.or_true, Bool.true_or, Bool.or_false, Bool.false_or, decide_eq_true_eq, Nat.reduceAdd, Nat.reduceLeDiff, Nat.zero_add, Int.reduceLT, Int.reduceLE, Int.reduceEq, Int.reduceNeg, Nat.reduceEqDiff, and_self, and_true, true_and, decide_true, decide_false, eq_self, ite_true, ite_false, Int.reduceSub, Int.reduceAdd, Int.cast_ofNat_Int, Int.natCast_add, Int.cast_ofNat_Int, Nat.reduceSub, Nat.add_assoc, String.reduceBEq, String.reduceEq, Bool.or_not_self, beq_self_eq_true, ni, hn]
          exact ⟨_, by rw [hS1, List.append_assoc]⟩
    · have hd : decide (((List.map A.str ws).length : Int) + 1 = (ks.length : Int) + 1) = false := decide_eq_false (by rw [List.length_map]; omega)
      have ek : stepK w ws = .non := by
        unfold stepK
        rw [hl]
        exact if_neg hq
      rw [ek]
      simp only [wp_okR, wp_okF, wp_fin, wp_next, wp_then, wp_bind, wp_nox, wp_tK, wp_bK, wp_fr, wp_fn, wp_nn, wp_nr, wp_nb, wp_nc, wp_ln, wp_lc, wp_lb, wp_lr, wp_jn, wp_jc, ev_bok, ev_bno, ev_bex, ev_tok, ev_tno, ev_tex, ev_nnx, ev_nrt, ev_nbk, ev_nct, ev_nex, ev_nno, ev_frt, ev_fnx, ev_fex, ev_xok, ev_lsome, ev_lnone, ev_seq, ev_if, ev_ret, ev_retN, ev_drop, ev_nop, ev_brk, ev_cont, ev_asgN, ev_asgT, ev_asgO, ev_mgTup, ev_mgN, ev_mgC, ev_mg0, ev_putL, ev_putO, ev_var, ev_vr, ev_c, ev_op, ev_un, ev_test, ev_tb, ev_notT, ev_andT, ev_orT, ev_ifE, ev_not, ev_nb, ev_and, ev_andK, ev_or, ev_orK, ev_chain, ev_chK, ev_nil, ev_cons, ev_tup, ev_lst, ev_new, ev_call, ev_cb, ev_size, ev_addI, ev_addS, ev_addT, ev_addL, ev_catO, ev_sub, ev_mul, ev_div, ev_mod, ev_p5, ev_p6, ev_p12, ev_p18, ev_p30, ev_neg, ev_ltI, ev_ltS, ev_leI, ev_leS, ev_gt, ev_ge, ev_eqI, ev_eqS, ev_neI, ev_neS, ev_neB, ev_eqB, ev_is, ev_isnot, ev_ixT, ev_ixS, ev_ixR, ev_ixL, ev_ixK, ev_getL, ev_getM, ev_gL, ev_gM, ev_at0, ev_at1, ev_at2, ev_at3, ev_at4, ev_lenS, ev_lenR, ev_lenT, ev_lenL, ev_lenO, ev_lenD, ev_abs, ev_min2, ev_max2, ev_intI, ev_intB, ev_set, ev_fc, ev_setset, ev_last, ev_appk, ev_app0, ev_setk, ev_set0, ev_assoc, ev_lapp, ev_lappA, ev_sl, ev_nopart, ev_part, ev_ptK, ev_slT, ev_slS, ev_slR, ev_slK, ev_tyN, ev_tyB, ev_tyI, ev_tyS, ev_tyT, ev_tyL, ev_tyR, ev_tyRL, ev_isi, ev_isi1, ev_isi2, ev_isi3, ev_isi4, ev_isi5, ev_isiT, ev_isi2K, ev_isTy, ev_list, ev_listK, ev_tuple, ev_tupK, ev_getST, ev_getSR, ev_getSL, ev_all, ev_allK, ev_eqXI, ev_eqXS, ev_neXI, ev_neXS, ev_neXB, ev_eqXB, ev_eqXR, ev_neXR, ev_nil2, ev_eqK, ev_neK, ev_meth, ev_meth0, ev_mth1, ev_mth2, ev_mth3, ev_append, ev_m0, ev_m0K, ev_str, ev_for, ev_miR1, ev_rg1K, ev_miL, ev_liK, ev_miT, ev_tiK, ev_lc, ev_wipe0, ev_wipeS, ev_yes, ev_lenSet, ev_lenSetK, ev_listR, ev_lrK, ev_put2, ev_p2A, ev_p2K, ev_p2E, ev_put1, ev_pt1, ev_addXI, ev_addXB, ev_addXS, ev_addXT, ev_addXL, ev_subXI, ev_subXB, ev_mulXI, ev_mulXB, ev_mulXL, ev_negXI, ev_negXB, ev_strXI, ev_strXB, ev_mulYI, ev_mulYB, ev_mulYL, ev_mulYT, ev_dnew, ev_dnewT, ev_dgetE, ev_getD, ev_gD, ev_keyI, ev_keyS, ev_dgK, ev_dinE, ev_diK, ev_dputE, ev_dpK, ev_dget2E, ev_isDA, ev_isSome, ev_isNone, ev_dg2K, ev_dpop2E, ev_dp2K, ev_dp3S, ev_dp3N, ev_sortedE, ev_srO1, ev_srO2, ev_gLd, ev_srKS, ev_srKI, ev_gDT, ev_gT, ev_tinE, ev_tiKK, ev_keysA, ev_keysN, ev_keysC, ev_dputTE, ev_dptK, ev_dispE, ev_mpN, ev_mpC, ev_pcK, ev_dsK, ev_dsK2, ev_lc2E, ev_imp, ev_simp, ev_split, ev_splF, ev_splG, ev_fmt, ev_fmtS, ev_fmtI, ev_addK, ev_js0, ev_js1, ev_joined, ev_star, ev_starK, ev_each2, ev_each2K, ev_unl, ev_unlK, ev_intS, ev_strYS, ev_strYI, ev_fldE, ev_getI, ev_gI, ev_fdK, ev_fldS, ev_fpK, ev_mtE, ev_miK, ev_mkE, ev_mkK, ev_callE, ev_tryAs, ev_raise0, ev_raise1, ev_raiseN, ev_revS, ev_revK, ev_zip, ev_enumF, ev_enum, ev_kget, ev_kgK, ev_index, ev_mjoin, ev_joinG, ev_joinK, ev_sbind, ev_miS, ev_siK, List.getElem?_cons_zero, List.getElem?_cons_succ, List.set_cons_zero, List.set_cons_succ, List.length_cons, List.length_nil, List.cons_append, List.nil_append, if_true, if_false, Bool.false_eq_true, Bool.true_eq_false, reduceIte, Bool.not_true, Bool.not_false, Bool.and_true, Bool.true_and, Bool.and_false, Bool.false_and, Bool.or_true, Bool.true_or, Bool.or_false, Bool.false_or, decide_eq_true_eq, Nat.reduceAdd, Nat.reduceLeDiff, Nat.zero_add, Int.reduceLT, Int.reduceLE, Int.reduceEq, Int.reduceNeg, Nat.reduceEqDiff, and_self, and_true, true_and, decide_true, decide_false, eq_self, ite_true, ite_false, Int.reduceSub, Int.reduceAdd, Int.cast_ofNat_Int, Int.natCast_add, Int.cast_ofNat_Int, Nat.reduceSub, Nat.add_assoc, String.reduceBEq, String.reduceEq, Bool.or_not_self, beq_self_eq_true, nm, u1, u2, e, em, a0, ht, i1, hd]
      exact ⟨_, rfl⟩

/-! ### good steps and their lines -/
def wordA : A → Str
  | .str x => x
  | .int i => nS i
  | _ => ""
theorem join_len (c : Nat) (ws : List Str) : (Txt.join ⟨#[c]⟩ ws).length ≤ (ws.map (·.length)).sum + ws.length := by
  rw [join_is]
  have := StrLaws.join_length_le ⟨#[c]⟩ ws
  have e : (⟨#[c]⟩ : Str).length = 1 := rfl
  rw [e, Nat.mul_one] at this
  exact this
theorem sum_le2 {α : Type} {f : α → Nat} {m : Nat} : ∀ {r : List α}, (∀ a ∈ r, f a ≤ m) → (r.map f).sum ≤ r.length * m
  | [], _ => Nat.zero_le _
  | a :: r, h => by
    have h1 := h a List.mem_cons_self
    have h2 := sum_le2 (r := r) fun b hb => h b (List.mem_cons_of_mem _ hb)
    simp only [List.map_cons, List.sum_cons, List.length_cons, Nat.succ_mul]
    omega
def NUM : Str := Str.ofString "number"
def NAM : Str := Str.ofString "name"
def fitP (k p : A) : Prop := (k = .str NUM ∧ ∃ n : Nat, p = .int (n : Nat) ∧ n < 10 ^ 12) ∨ (k = .str NAM ∧ ∃ x, p = .str x ∧ nameP x)
inductive Fits : List A → List A → Prop where
  | nil : Fits [] []
  | cons {k p : A} {ks ps : List A} : fitP k p → Fits ks ps → Fits (k :: ks) (p :: ps)
theorem Fits.len : ∀ {ks ps : List A}, Fits ks ps → ks.length = ps.length
  | _, _, .nil => rfl
  | _, _, .cons _ h => by rw [List.length_cons, List.length_cons, h.len]
structure StepG (w : Str) (ps : List A) : Prop where
  ex : ∃ ks, tab_PARTS.lookup w = some ks ∧ Fits ks ps
/-- a word of a line -/
structure WordP (x : Str) : Prop where
  l : x.length ≤ 12
  m : ∀ c ∈ x.cps.toList, 48 ≤ c ∧ c ≤ 122
theorem alpha_in {c : Nat} (h : 97 ≤ c ∧ c ≤ 122) : c ∈ alpha.cps.toList := by
  have e : alpha.cps.toList = [97, 98, 99, 100, 101, 102, 103, 104, 105, 106, 107, 108, 109, 110, 111, 112, 113, 114, 115, 116, 117, 118, 119, 120, 121, 122] := by decide +kernel
  rw [e]
  simp only [List.mem_cons, List.not_mem_nil, or_false]
  omega
theorem name_B {x : Str} (h : nameP x) : nameB x = true := by
  unfold nameB alW
  rw [decide_eq_true h.1, decide_eq_true h.2.1]
  exact List.all_eq_true.mpr fun c hc => decide_eq_true (alpha_in (h.2.2 c hc))
theorem fit_word {k p : A} (h : fitP k p) : WordP (wordA p) := by
  rcases h with ⟨_, n, rfl, hn⟩ | ⟨_, x, rfl, hx⟩
  · exact ⟨(nS_len12 hn).2, fun c hc => by have := nS_digs hc; omega⟩
  · exact ⟨by have := hx.2.1; show x.length ≤ 12; omega, fun c hc => by have := hx.2.2 c hc; omega⟩
theorem fits_words : ∀ {ks ps : List A}, Fits ks ps → ∀ x ∈ ps.map wordA, WordP x
  | _, _, .nil, x, hx => by cases hx
  | _, _, .cons h r, x, hx => by
    rw [List.map_cons] at hx
    rcases List.mem_cons.mp hx with rfl | hx
    · exact fit_word h
    · exact fits_words r x hx
theorem tab_keys : ∀ p ∈ tab_PARTS, p.1.length ≤ 12 ∧ ∀ c ∈ p.1.cps.toList, 48 ≤ c ∧ c ≤ 122 := by decide +kernel
theorem StepG.words {w : Str} {ps : List A} (h : StepG w ps) : ∀ x ∈ w :: ps.map wordA, WordP x := by
  obtain ⟨ks, h1, h2⟩ := h.ex
  intro x hx
  rcases List.mem_cons.mp hx with rfl | hx
  · have := tab_keys _ (lookup_mem h1)
    exact ⟨this.1, this.2⟩
  · exact fits_words h2 x hx
theorem StepG.few {w : Str} {ps : List A} (h : StepG w ps) : ps.length ≤ 4 := by
  obtain ⟨ks, h1, h2⟩ := h.ex
  rw [← h2.len]
  exact (kinds_ok h1).1
def lineT (w : Str) (ps : List A) : Str := Txt.join BLK (w :: ps.map wordA)
theorem line_sum {w : Str} {ps : List A} (h : StepG w ps) : ((w :: ps.map wordA).map (·.length)).sum + (w :: ps.map wordA).length ≤ 65 := by
  have h1 := sum_le2 (f := fun x : Str => x.length) (m := 12) (r := w :: ps.map wordA) fun x hx => (h.words x hx).l
  have h2 := h.few
  rw [List.length_cons, List.length_map] at h1 ⊢
  omega
theorem line_len {w : Str} {ps : List A} (h : StepG w ps) : (lineT w ps).length ≤ 65 := by
  unfold lineT
  rw [blk_is]
  exact Nat.le_trans (join_len _ _) (line_sum h)
theorem J_mem {c z : Nat} : ∀ {us : List (List Nat)}, z ∈ J c us → z = c ∨ ∃ u ∈ us, z ∈ u
  | [], h => by cases h
  | [x], h => .inr ⟨x, List.mem_cons_self, h⟩
  | x :: y :: r, h => by
    have h : z ∈ x ++ c :: J c (y :: r) := h
    rcases List.mem_append.mp h with h | h
    · exact .inr ⟨x, List.mem_cons_self, h⟩
    · rcases List.mem_cons.mp h with h | h
      · exact .inl h
      · rcases J_mem h with h | ⟨u, hu, hz⟩
        · exact .inl h
        · exact .inr ⟨u, List.mem_cons_of_mem _ hu, hz⟩
theorem join_mem {c z : Nat} {ws : List Str} (h : z ∈ (Txt.join ⟨#[c]⟩ ws).cps.toList) : z = c ∨ ∃ x ∈ ws, z ∈ x.cps.toList := by
  rw [join_is, J_cps] at h
  rcases J_mem h with h | ⟨u, hu, hz⟩
  · exact .inl h
  · obtain ⟨x, hx, rfl⟩ := List.mem_map.mp hu
    exact .inr ⟨x, hx, hz⟩
theorem line_mem {w : Str} {ps : List A} (h : StepG w ps) {c : Nat} (hc : c ∈ (lineT w ps).cps.toList) : c = 32 ∨ 48 ≤ c ∧ c ≤ 122 := by
  unfold lineT at hc
  rw [blk_is] at hc
  rcases join_mem hc with h1 | ⟨x, hx, hz⟩
  · exact .inl h1
  · exact .inr ((h.words x hx).m c hz)
/-- .. read back -/
theorem fit_part {k p : A} (h : fitP k p) : partP (.tup [k, .str (wordA p)]) = p ∧ eqF p .non = false := by
  rcases h with ⟨rfl, n, rfl, hn⟩ | ⟨rfl, x, rfl, hx⟩
  · refine ⟨?_, rfl⟩
    show partR NUM (nS (n : Nat)) = _
    unfold partR
    rw [if_pos (show NUM = Str.ofString "number" from rfl)]
    exact num_R hn
  · refine ⟨?_, rfl⟩
    show partR NAM x = _
    unfold partR
    rw [if_neg (by decide +kernel), if_pos (name_B hx)]
theorem fits_parts : ∀ {ks ps : List A}, Fits ks ps → partsR ks (ps.map wordA) = ps ∧ noneIn ps = false
  | _, _, .nil => ⟨rfl, rfl⟩
  | _, _, .cons (k := k) (p := p) (ks := ks) (ps := ps) h r => by
    obtain ⟨h1, h2⟩ := fit_part h
    obtain ⟨h3, h4⟩ := fits_parts r
    refine ⟨?_, ?_⟩
    · show partP (.tup [k, .str (wordA p)]) :: partsR ks (ps.map wordA) = p :: ps
      rw [h1, h3]
    · show (eqF p .non || noneIn ps) = false
      rw [h2, h4]
      rfl
theorem step_back {w : Str} {ps : List A} (h : StepG w ps) : stepR (lineT w ps) = .tup (.str w :: ps) := by
  have hs : Txt.split (lineT w ps) BLK = w :: ps.map wordA := by
    unfold lineT
    rw [blk_is]
    exact split_join (fun z => by cases z) fun x hx hc => by
      have := (h.words x hx).m 32 hc
      omega
  obtain ⟨ks, h1, h2⟩ := h.ex
  obtain ⟨h3, h4⟩ := fits_parts h2
  unfold stepR
  rw [hs]
  show stepK w (ps.map wordA) = _
  unfold stepK
  rw [h1]
  show (if (ps.map wordA).length = ks.length then stepF w (partsR ks (ps.map wordA)) else .non) = _
  rw [if_pos (by rw [List.length_map, h2.len]), h3]
  unfold stepF
  rw [h4]
  rfl
theorem step_nil : stepR (Str.ofString "") = .non := by
  have e : Txt.split (Str.ofString "") BLK = [Str.ofString ""] := by decide +kernel
  unfold stepR
  rw [e]
  show stepK (Str.ofString "") [] = _
  unfold stepK
  rw [show tab_PARTS.lookup (Str.ofString "") = none by rfl]
theorem step_blank : stepR BLK = .non := by
  have e : Txt.split BLK BLK = [Str.ofString "", Str.ofString ""] := by decide +kernel
  unfold stepR
  rw [e]
  show stepK (Str.ofString "") [Str.ofString ""] = _
  unfold stepK
  rw [show tab_PARTS.lookup (Str.ofString "") = none by rfl]
/-! ### lines written -/
theorem strsOf_is (xs : List A) : strsOf (xs.map fun a => A.str (wordA a)) = some (xs.map wordA) := by
  rw [← strsOf_map, List.map_map]
  rfl
theorem fits_any {ks ps : List A} : Fits ks ps → ∀ p ∈ ps, ∃ k, fitP k p
  | .nil, p, h => by cases h
  | .cons h r, p, hp => by
    rcases List.mem_cons.mp hp with rfl | hp
    · exact ⟨_, h⟩
    · exact fits_any r p hp
theorem stepText_wp {S : Sto} {w : Str} {ps : List A} (h : StepG w ps) : okR (m_step_text [.tup (.str w :: ps)] S) fun y t => y = .str (lineT w ps) ∧ ∃ l, t = S ++ l := by
  have nm : Str.ofString " " = BLK := rfl
  have hf := h.few
  rw [st_step_text]
  unfold b_step_text
  simp only [wp_okR, wp_okF, wp_fin, wp_next, wp_then, wp_bind, wp_nox, wp_tK, wp_bK, wp_fr, wp_fn, wp_nn, wp_nr, wp_nb, wp_nc, wp_ln, wp_lc, wp_lb, wp_lr, wp_jn, wp_jc, ev_bok, ev_bno, ev_bex, ev_tok, ev_tno, ev_tex, ev_nnx, ev_nrt, ev_nbk, ev_nct, ev_nex, ev_nno, ev_frt, ev_fnx, ev_fex, ev_xok, ev_lsome, ev_lnone, ev_seq, ev_if, ev_ret, ev_retN, ev_drop, ev_nop, ev_brk, ev_cont, ev_asgN, ev_asgT, ev_asgO, ev_mgTup, ev_mgN, ev_mgC, ev_mg0, ev_putL, ev_putO, ev_var, ev_vr, ev_c, ev_op, ev_un, ev_test, ev_tb, ev_notT, ev_andT, ev_orT, ev_ifE, ev_not, ev_nb, ev_and, ev_andK, ev_or, ev_orK, ev_chain, ev_chK, ev_nil, ev_cons, ev_tup, ev_lst, ev_new, ev_call, ev_cb, ev_size, ev_addI, ev_addS, ev_addT, ev_addL, ev_catO, ev_sub, ev_mul, ev_div, ev_mod, ev_p5, ev_p6, ev_p12, ev_p18, ev_p30, ev_neg, ev_ltI, ev_ltS, ev_leI, ev_leS, ev_gt, ev_ge, ev_eqI, ev_eqS, ev_neI, ev_neS, ev_neB, ev_eqB, ev_is, ev_isnot, ev_ixT, ev_ixS, ev_ixR, ev_ixL, ev_ixK, ev_getL, ev_getM, ev_gL, ev_gM, ev_at0, ev_at1, ev_at2, ev_at3, ev_at4, ev_lenS, ev_lenR, ev_lenT, ev_lenL, ev_lenO, ev_lenD, ev_abs, ev_min2, ev_max2, ev_intI, ev_intB, ev_set, ev_fc, ev_setset, ev_last, ev_appk, ev_app0, ev_setk, ev_set0, ev_assoc, ev_lapp, ev_lappA, ev_sl, ev_nopart, ev_part, ev_ptK, ev_slT, ev_slS, ev_slR, ev_slK, ev_tyN, ev_tyB, ev_tyI, ev_tyS, ev_tyT, ev_tyL, ev_tyR, ev_tyRL, ev_isi, ev_isi1, ev_isi2, ev_isi3, ev_isi4, ev_isi5, ev_isiT, ev_isi2K, ev_isTy, ev_list, ev_listK, ev_tuple, ev_tupK, ev_getST, ev_getSR, ev_getSL, ev_all, ev_allK, ev_eqXI, ev_eqXS, ev_neXI, ev_neXS, ev_neXB, ev_eqXB, ev_eqXR, ev_neXR, ev_nil2, ev_eqK, ev_neK, ev_meth, ev_meth0, ev_mth1, ev_mth2, ev_mth3, ev_append, ev_m0, ev_m0K, ev_str, ev_for, ev_miR1, ev_rg1K, ev_miL, ev_liK, ev_miT, ev_tiK, ev_lc, ev_wipe0, ev_wipeS, ev_yes, ev_lenSet, ev_lenSetK, ev_listR, ev_lrK, ev_put2, ev_p2A, ev_p2K, ev_p2E, ev_put1, ev_pt1, ev_addXI, ev_addXB, ev_addXS, ev_addXT, ev_addXL, ev_subXI, ev_subXB, ev_mulXI, ev_mulXB, ev_mulXL, ev_negXI, ev_negXB, ev_strXI, ev_strXB, ev_mulYI, ev_mulYB, ev_mulYL, ev_mulYT, ev_dnew, ev_dnewT, ev_dgetE, ev_getD, ev_gD, ev_keyI, ev_keyS, ev_dgK, ev_dinE, ev_diK, ev_dputE, ev_dpK, ev_dget2E, ev_isDA, ev_isSome, ev_isNone, ev_dg2K, ev_dpop2E, ev_dp2K, ev_dp3S, ev_dp3N, ev_sortedE, ev_srO1, ev_srO2, ev_gLd, ev_srKS, ev_srKI, ev_gDT, ev_gT, ev_tinE, ev_tiKK, ev_keysA, ev_keysN, ev_keysC, ev_dputTE, ev_dptK, ev_dispE, ev_mpN, ev_mpC, ev_pcK, ev_dsK, ev_dsK2, ev_lc2E, ev_imp, ev_simp, ev_split, ev_splF, ev_splG, ev_fmt, ev_fmtS, ev_fmtI, ev_addK, ev_js0, ev_js1, ev_joined, ev_star, ev_starK, ev_each2, ev_each2K, ev_unl, ev_unlK, ev_intS, ev_strYS, ev_strYI, ev_fldE, ev_getI, ev_gI, ev_fdK, ev_fldS, ev_fpK, ev_mtE, ev_miK, ev_mkE, ev_mkK, ev_callE, ev_tryAs, ev_raise0, ev_raise1, ev_raiseN, ev_revS, ev_revK, ev_zip, ev_enumF, ev_enum, ev_kget, ev_kgK, ev_index, ev_mjoin, ev_joinG, ev_joinK, ev_sbind, ev_miS, ev_siK, List.getElem?_cons_zero, List.getElem?_cons_succ, List.set_cons_zero, List.set_cons_succ, List.length_cons, List.length_nil, List.cons_append, List.nil_append, if_true, if_false, Bool.false_eq_true, Bool.true_eq_false, reduceIte, Bool.not_true, Bool.not_false, Bool.and_true, Bool.true_and, Bool.and_false, Bool.false_and, Bool.or_true, Bool.true_or, Bool.or_false, Bool.false_or, decide_eq_true_eq, Nat.reduceAdd, Nat.reduceLeDiff, Nat.zero_add, Int.reduceLT, Int.reduceLE, Int.reduceEq, Int.reduceNeg, Nat.reduceEqDiff, and_self, and_true, true_and, decide_true, decide_false, eq_self, ite_true, ite_false, Int.reduceSub, Int.reduceAdd, Int.cast_ofNat_Int, Int.natCast_add, Int.cast_ofNat_Int, Nat.reduceSub, Nat.add_assoc, String.reduceBEq, String.reduceEq, Bool.or_not_self, beq_self_eq_true, nm]
  refine lc_P (fun a => .str (wordA a)) (fun _ => trivial) (by rw [List.length_cons]; omega) (fun y hy => ?_) ?_
  · refine ⟨_, rfl, fun k => ?_⟩
    rcases List.mem_cons.mp hy with rfl | hy
    · simp only [wp_okR, wp_okF, wp_fin, wp_next, wp_then, wp_bind, wp_nox, wp_tK, wp_bK, wp_fr, wp_fn, wp_nn, wp_nr, wp_nb, wp_nc, wp_ln, wp_lc, wp_lb, wp_lr, wp_jn, wp_jc, ev_bok, ev_bno, ev_bex, ev_tok, ev_tno, ev_tex, ev_nnx, ev_nrt, ev_nbk, ev_nct, ev_nex, ev_nno, ev_frt, ev_fnx, ev_fex, ev_xok, ev_lsome, ev_lnone, ev_seq, ev_if, ev_ret, ev_retN, ev_drop, ev_nop, ev_brk, ev_cont, ev_asgN, ev_asgT, ev_asgO, ev_mgTup, ev_mgN, ev_mgC, ev_mg0, ev_putL, ev_putO, ev_var, ev_vr, ev_c, ev_op, ev_un, ev_test, ev_tb, ev_notT, ev_andT, ev_orT, ev_ifE, ev_not, ev_nb, ev_and, ev_andK, ev_or, ev_orK, ev_chain, ev_chK, ev_nil, ev_cons, ev_tup, ev_lst, ev_new, ev_call, ev_cb, ev_size, ev_addI, ev_addS, ev_addT, ev_addL, ev_catO, ev_sub, ev_mul, ev_div, ev_mod, ev_p5, ev_p6, ev_p12, ev_p18, ev_p30, ev_neg, ev_ltI, ev_ltS, ev_leI, ev_leS, ev_gt, ev_ge, ev_eqI, ev_eqS, ev_neI, ev_neS, ev_neB, ev_eqB, ev_is, ev_isnot, ev_ixT, ev_ixS, ev_ixR, ev_ixL, ev_ixK, ev_getL, ev_getM, ev_gL, ev_gM, ev_at0, ev_at1, ev_at2, ev_at3, ev_at4, ev_lenS, ev_lenR, ev_lenT, ev_lenL, ev_lenO, ev_lenD, ev_abs, ev_min2, ev_max2, ev_intI, ev_intB, ev_set, ev_fc, ev_setset, ev_last, ev_appk, ev_app0, ev_setk, ev_set0, ev_assoc, ev_lapp, ev_lappA, ev_sl, ev_nopart, ev_part, ev_ptK, ev_slT, ev_slS, ev_slR, ev_slK, ev_tyN, ev_tyB, ev_tyI, ev_tyS, ev_tyT, ev_tyL, ev_tyR, ev_tyRL, ev_isi, ev_isi1, ev_isi2, ev_isi3, ev_isi4, ev_isi5, ev_isiT, ev_isi2K, ev_isTy, ev_list, ev_listK, ev_tuple, ev_tupK, ev_getST, ev_getSR, ev_getSL, ev_all, ev_allK, ev_eqXI, ev_eqXS, ev_neXI, ev_neXS, ev_neXB, ev_eqXB, ev_eqXR, ev_neXR, ev_nil2, ev_eqK, ev_neK, ev_meth, ev_meth0, ev_mth1, ev_mth2, ev_mth3, ev_append, ev_m0, ev_m0K, ev_str, ev_for, ev_miR1, ev_rg1K, ev_miL, ev_liK, ev_miT, ev_tiK, ev_lc, ev_wipe0, ev_wipeS, ev_yes, ev_lenSet, ev_lenSetK, ev_listR, ev_lrK, ev_put2, ev_p2A, ev_p2K, ev_p2E, ev_put1, ev_pt1, ev_addXI, ev_addXB, ev_addXS, ev_addXT, ev_addXL, ev_subXI, ev_subXB, ev_mulXI, ev_mulXB, ev_mulXL, ev_negXI, ev_negXB, ev_strXI, ev_strXB, ev_mulYI, ev_mulYB, ev_mulYL, ev_mulYT, ev_dnew, ev_dnewT, ev_dgetE, ev_getD, ev_gD, ev_keyI, ev_keyS, ev_dgK, ev_dinE, ev_diK, ev_dputE, ev_dpK, ev_dget2E, ev_isDA, ev_isSome, ev_isNone, ev_dg2K, ev_dpop2E, ev_dp2K, ev_dp3S, ev_dp3N, ev_sortedE, ev_srO1, ev_srO2, ev_gLd, ev_srKS, ev_srKI, ev_gDT, ev_gT, ev_tinE, ev_tiKK, ev_keysA, ev_keysN, ev_keysC, ev_dputTE, ev_dptK, ev_dispE, ev_mpN, ev_mpC, ev_pcK, ev_dsK, ev_dsK2, ev_lc2E, ev_imp, ev_simp, ev_split, ev_splF, ev_splG, ev_fmt, ev_fmtS, ev_fmtI, ev_addK, ev_js0, ev_js1, ev_joined, ev_star, ev_starK, ev_each2, ev_each2K, ev_unl, ev_unlK, ev_intS, ev_strYS, ev_strYI, ev_fldE, ev_getI, ev_gI, ev_fdK, ev_fldS, ev_fpK, ev_mtE, ev_miK, ev_mkE, ev_mkK, ev_callE, ev_tryAs, ev_raise0, ev_raise1, ev_raiseN, ev_revS, ev_revK, ev_zip, ev_enumF, ev_enum, ev_kget, ev_kgK, ev_index, ev_mjoin, ev_joinG, ev_joinK, ev_sbind, ev_miS, ev_siK, List.getElem?_cons_zero, List.getElem?_cons_succ, List.set_cons_zero, List.set_cons_succ, List.length_cons, List.length_nil, List.cons_append, List.nil_append, if_true, if_false, Bool.false_eq_true, Bool.true_eq_false, reduceIte, Bool.not_true, Bool.not_false, Bool.and_true, Bool.true_and, Bool.and_false, Bool.false_and, Bool.or_true, Bool.true_or, Bool.or_false, Bool.false_or, decide_eq_true_eq, Nat.reduceAdd, Nat.reduceLeDiff, Nat.zero_add, Int.reduceLT, Int.reduceLE, Int.reduceEq, Int.reduceNeg, Nat.reduceEqDiff, and_self, and_true, true_and, decide_true, decide_false, eq_self, ite_true, ite_false, Int.reduceSub, Int.reduceAdd, Int.cast_ofNat_Int, Int.natCast_add, Int.cast_ofNat_Int, Nat.reduceSub, Nat.add_assoc, String.reduceBEq, String.reduceEq, Bool.or_not_self, beq_self_eq_true]
      rfl
    · obtain ⟨ks, _, h2⟩ := h.ex
      obtain ⟨kk, hk⟩ := fits_any h2 y hy
      rcases hk with ⟨_, n, rfl, hn⟩ | ⟨_, x, rfl, hx⟩
      · have lg := log12 (i := (n : Nat)) (by omega) (by omega)
        simp only [wp_okR, wp_okF, wp_fin, wp_next, wp_then, wp_bind, wp_nox, wp_tK, wp_bK, wp_fr, wp_fn, wp_nn, wp_nr, wp_nb, wp_nc, wp_ln, wp_lc, wp_lb, wp_lr, wp_jn, wp_jc, ev_bok, ev_bno, ev_bex, ev_tok, ev_tno, ev_tex, ev_nnx, ev_nrt, ev_nbk, ev_nct, ev_nex, ev_nno, ev_frt, ev_fnx, ev_fex, ev_xok, ev_lsome, ev_lnone, ev_seq, ev_if, ev_ret, ev_retN, ev_drop, ev_nop, ev_brk, ev_cont, ev_asgN, ev_asgT, ev_asgO, ev_mgTup, ev_mgN, ev_mgC, ev_mg0, ev_putL, ev_putO, ev_var, ev_vr, ev_c, ev_op, ev_un, ev_test, ev_tb, ev_notT, ev_andT, ev_orT, ev_ifE, ev_not, ev_nb, ev_and, ev_andK, ev_or, ev_orK, ev_chain, ev_chK, ev_nil, ev_cons, ev_tup, ev_lst, ev_new, ev_call, ev_cb, ev_size, ev_addI, ev_addS, ev_addT, ev_addL, ev_catO, ev_sub, ev_mul, ev_div, ev_mod, ev_p5, ev_p6, ev_p12, ev_p18, ev_p30, ev_neg, ev_ltI, ev_ltS, ev_leI, ev_leS, ev_gt, ev_ge, ev_eqI, ev_eqS, ev_neI, ev_neS, ev_neB, ev_eqB, ev_is, ev_isnot, ev_ixT, ev_ixS, ev_ixR, ev_ixL, ev_ixK, ev_getL, ev_getM, ev_gL, ev_gM, ev_at0, ev_at1, ev_at2, ev_at3, ev_at4, ev_lenS, ev_lenR, ev_lenT, ev_lenL, ev_lenO, ev_lenD, ev_abs, ev_min2, ev_max2, ev_intI, ev_intB, ev_set, ev_fc, ev_setset, ev_last, ev_appk, ev_app0, ev_setk, ev_set0, ev_assoc, ev_lapp, ev_lappA, ev_sl, ev_nopart, ev_part, ev_ptK, ev_slT, ev_slS, ev_slR, ev_slK, ev_tyN, ev_tyB, ev_tyI, ev_tyS, ev_tyT, ev_tyL, ev_tyR, ev_tyRL, ev_isi, ev_isi1, ev_isi2, ev_isi3, ev_isi4, ev_isi5, ev_isiT, ev_isi2K, ev_isTy, ev_list, ev_listK, ev_tuple, ev_tupK, ev_getST, ev_getSR, ev_getSL, ev_all, ev_allK, ev_eqXI, ev_eqXS, ev_neXI, ev_neXS, ev_neXB, ev_eqXB, ev_eqXR, ev_neXR, ev_nil2, ev_eqK, ev_neK, ev_meth, ev_meth0, ev_mth1, ev_mth2, ev_mth3, ev_append, ev_m0, ev_m0K, ev_str, ev_for, ev_miR1, ev_rg1K, ev_miL, ev_liK, ev_miT, ev_tiK, ev_lc, ev_wipe0, ev_wipeS, ev_yes, ev_lenSet, ev_lenSetK, ev_listR, ev_lrK, ev_put2, ev_p2A, ev_p2K, ev_p2E, ev_put1, ev_pt1, ev_addXI, ev_addXB, ev_addXS, ev_addXT, ev_addXL, ev_subXI, ev_subXB, ev_mulXI, ev_mulXB, ev_mulXL, ev_negXI, ev_negXB, ev_strXI, ev_strXB, ev_mulYI, ev_mulYB, ev_mulYL, ev_mulYT, ev_dnew, ev_dnewT, ev_dgetE, ev_getD, ev_gD, ev_keyI, ev_keyS, ev_dgK, ev_dinE, ev_diK, ev_dputE, ev_dpK, ev_dget2E, ev_isDA, ev_isSome, ev_isNone, ev_dg2K, ev_dpop2E, ev_dp2K, ev_dp3S, ev_dp3N, ev_sortedE, ev_srO1, ev_srO2, ev_gLd, ev_srKS, ev_srKI, ev_gDT, ev_gT, ev_tinE, ev_tiKK, ev_keysA, ev_keysN, ev_keysC, ev_dputTE, ev_dptK, ev_dispE, ev_mpN, ev_mpC, ev_pcK, ev_dsK, ev_dsK2, ev_lc2E, ev_imp, ev_simp, ev_split, ev_splF, ev_splG, ev_fmt, ev_fmtS, ev_fmtI, ev_addK, ev_js0, ev_js1, ev_joined, ev_star, ev_starK, ev_each2, ev_each2K, ev_unl, ev_unlK, ev_intS, ev_strYS, ev_strYI, ev_fldE, ev_getI, ev_gI, ev_fdK, ev_fldS, ev_fpK, ev_mtE, ev_miK, ev_mkE, ev_mkK, ev_callE, ev_tryAs, ev_raise0, ev_raise1, ev_raiseN, ev_revS, ev_revK, ev_zip, ev_enumF, ev_enum, ev_kget, ev_kgK, ev_index, ev_mjoin, ev_joinG, ev_joinK, ev_sbind, ev_miS, ev_siK, List.getElem?_cons_zero, List.getElem?_cons_succ, List.set_cons_zero, List.set_cons_succ, List.length_cons, List.length_nil, List.cons_append, List.nil_append, if_true, if_false, Bool.false_eq_true, Bool.true_eq_false, reduceIte, Bool.not_true, Bool.not_false, Bool.and_true, Bool.true_and, Bool.and_false, Bool.false_and, Bool.or_true, Bool.true_or, Bool.or_false, Bool.false_or, decide_eq_true_eq, Nat.reduceAdd, Nat.reduceLeDiff, Nat.zero_add, Int.reduceLT, Int.reduceLE, Int.reduceEq, Int.reduceNeg, Nat.reduceEqDiff, and_self, and_true, true_and, decide_true, decide_false, eq_self, ite_true, ite_false, Int.reduceSub, Int.reduceAdd, Int.cast_ofNat_Int, Int.natCast_add, Int.cast_ofNat_Int, Nat.reduceSub, Nat.add_assoc, String.reduceBEq, String.reduceEq, Bool.or_not_self, beq_self_eq_true, lg]
        rfl
      · simp only [wp_okR, wp_okF, wp_fin, wp_next, wp_then, wp_bind, wp_nox, wp_tK, wp_bK, wp_fr, wp_fn, wp_nn, wp_nr, wp_nb, wp_nc, wp_ln, wp_lc, wp_lb, wp_lr, wp_jn, wp_jc, ev_bok, ev_bno, ev_bex, ev_tok, ev_tno, ev_tex, ev_nnx, ev_nrt, ev_nbk, ev_nct, ev_nex, ev_nno, ev_frt, ev_fnx, ev_fex, ev_xok, ev_lsome, ev_lnone, ev_seq, ev_if, ev_ret, ev_retN, ev_drop, ev_nop, ev_brk, ev_cont, ev_asgN, ev_asgT, ev_asgO, ev_mgTup, ev_mgN, ev_mgC, ev_mg0, ev_putL, ev_putO, ev_var, ev_vr, ev_c, ev_op, ev_un, ev_test, ev_tb, ev_notT, ev_andT, ev_orT, ev_ifE, ev_not, ev_nb, ev_and, ev_andK, ev_or, ev_orK, ev_chain, ev_chK, ev_nil, ev_cons, ev_tup, ev_lst, ev_new, ev_call, ev_cb, ev_size, ev_addI, ev_addS, ev_addT, ev_addL, ev_catO, ev_sub, ev_mul, ev_div, ev_mod, ev_p5, ev_p6, ev_p12, ev_p18, ev_p30, ev_neg, ev_ltI, ev_ltS, ev_leI, ev_leS, ev_gt, ev_ge, ev_eqI, ev_eqS, ev_neI, ev_neS, ev_neB, ev_eqB, ev_is, ev_isnot, ev_ixT, ev_ixS, ev_ixR, ev_ixL, ev_ixK, ev_getL, ev_getM, ev_gL, ev_gM, ev_at0, ev_at1, ev_at2, ev_at3, ev_at4, ev_lenS, ev_lenR, ev_lenT, ev_lenL, ev_lenO, ev_lenD, ev_abs, ev_min2, ev_max2, ev_intI, ev_intB, ev_set, ev_fc, ev_setset, ev_last, ev_appk, ev_app0, ev_setk, ev_set0, ev_assoc, ev_lapp, ev_lappA, ev_sl, ev_nopart, ev_part, ev_ptK, ev_slT, ev_slS, ev_slR, ev_slK, ev_tyN, ev_tyB, ev_tyI, ev_tyS, ev_tyT, ev_tyL, ev_tyR, ev_tyRL, ev_isi, ev_isi1, ev_isi2, ev_isi3, ev_isi4, ev_isi5, ev_isiT, ev_isi2K, ev_isTy, ev_list, ev_listK, ev_tuple, ev_tupK, ev_getST, ev_getSR, ev_getSL, ev_all, ev_allK, ev_eqXI, ev_eqXS, ev_neXI, ev_neXS, ev_neXB, ev_eqXB, ev_eqXR, ev_neXR, ev_nil2, ev_eqK, ev_neK, ev_meth, ev_meth0, ev_mth1, ev_mth2, ev_mth3, ev_append, ev_m0, ev_m0K, ev_str, ev_for, ev_miR1, ev_rg1K, ev_miL, ev_liK, ev_miT, ev_tiK, ev_lc, ev_wipe0, ev_wipeS, ev_yes, ev_lenSet, ev_lenSetK, ev_listR, ev_lrK, ev_put2, ev_p2A, ev_p2K, ev_p2E, ev_put1, ev_pt1, ev_addXI, ev_addXB, ev_addXS, ev_addXT, ev_addXL, ev_subXI, ev_subXB, ev_mulXI, ev_mulXB, ev_mulXL, ev_negXI, ev_negXB, ev_strXI, ev_strXB, ev_mulYI, ev_mulYB, ev_mulYL, ev_mulYT, ev_dnew, ev_dnewT, ev_dgetE, ev_getD, ev_gD, ev_keyI, ev_keyS, ev_dgK, ev_dinE, ev_diK, ev_dputE, ev_dpK, ev_dget2E, ev_isDA, ev_isSome, ev_isNone, ev_dg2K, ev_dpop2E, ev_dp2K, ev_dp3S, ev_dp3N, ev_sortedE, ev_srO1, ev_srO2, ev_gLd, ev_srKS, ev_srKI, ev_gDT, ev_gT, ev_tinE, ev_tiKK, ev_keysA, ev_keysN, ev_keysC, ev_dputTE, ev_dptK, ev_dispE, ev_mpN, ev_mpC, ev_pcK, ev_dsK, ev_dsK2, ev_lc2E, ev_imp, ev_simp, ev_split, ev_splF, ev_splG, ev_fmt, ev_fmtS, ev_fmtI, ev_addK, ev_js0, ev_js1, ev_joined, ev_star, ev_starK, ev_each2, ev_each2K, ev_unl, ev_unlK, ev_intS, ev_strYS, ev_strYI, ev_fldE, ev_getI, ev_gI, ev_fdK, ev_fldS, ev_fpK, ev_mtE, ev_miK, ev_mkE, ev_mkK, ev_callE, ev_tryAs, ev_raise0, ev_raise1, ev_raiseN, ev_revS, ev_revK, ev_zip, ev_enumF, ev_enum, ev_kget, ev_kgK, ev_index, ev_mjoin, ev_joinG, ev_joinK, ev_sbind, ev_miS, ev_siK, List.getElem?_cons_zero, List.getElem?_cons_succ, List.set_cons_zero, List.set_cons_succ, List.length_cons, List.length_nil, List.cons_append, List.nil_append, if_true, if_false, Bool.false_eq_true, Bool.true_eq_false, reduceIte, Bool.not_true, Bool.not_false, Bool.and_true, Bool.true_and, Bool.and_false, Bool.false_and, Bool.or_true, Bool.true_or, Bool.or_false, Bool.false_or, decide_eq_true_eq, Nat.reduceAdd, Nat.reduceLeDiff, Nat.zero_add, Int.reduceLT, Int.reduceLE, Int.reduceEq, Int.reduceNeg, Nat.reduceEqDiff, and_self, and_true, true_and, decide_true, decide_false, eq_self, ite_true, ite_false, Int.reduceSub, Int.reduceAdd, Int.cast_ofNat_Int, Int.natCast_add, Int.cast_ofNat_Int, Nat.reduceSub, Nat.add_assoc, String.reduceBEq, String.reduceEq, Bool.or_not_self, beq_self_eq_true]
        rfl
  · have e1 := strsOf_is (A.str w :: ps)
    have e2 : (A.str w :: ps).map wordA = w :: ps.map wordA := rfl
    have hs := line_sum h
    have hb : BLK.length = 1 := by decide +kernel
    have u : ((w :: ps.map wordA).map (·.length)).sum + ((ps.map wordA).length + 1) * 1 ≤ 16777216 := by
      rw [List.length_cons] at hs
      omega
    simp only [wp_okR, wp_okF, wp_fin, wp_next, wp_then, wp_bind, wp_nox, wp_tK, wp_bK, wp_fr, wp_fn, wp_nn, wp_nr, wp_nb, wp_nc, wp_ln, wp_lc, wp_lb, wp_lr, wp_jn, wp_jc, ev_bok, ev_bno, ev_bex, ev_tok, ev_tno, ev_tex, ev_nnx, ev_nrt, ev_nbk, ev_nct, ev_nex, ev_nno, ev_frt, ev_fnx, ev_fex, ev_xok, ev_lsome, ev_lnone, ev_seq, ev_if, ev_ret, ev_retN, ev_drop, ev_nop, ev_brk, ev_cont, ev_asgN, ev_asgT, ev_asgO, ev_mgTup, ev_mgN, ev_mgC, ev_mg0, ev_putL, ev_putO, ev_var, ev_vr, ev_c, ev_op, ev_un, ev_test, ev_tb, ev_notT, ev_andT, ev_orT, ev_ifE, ev_not, ev_nb, ev_and, ev_andK, ev_or, ev_orK, ev_chain, ev_chK, ev_nil, ev_cons, ev_tup, ev_lst, ev_new, ev_call, ev_cb, ev_size, ev_addI, ev_addS, ev_addT, ev_addL, ev_catO, ev_sub, ev_mul, ev_div, ev_mod, ev_p5, ev_p6, ev_p12, ev_p18, ev_p30, ev_neg, ev_ltI, ev_ltS, ev_leI, ev_leS, ev_gt, ev_ge, ev_eqI, ev_eqS, ev_neI, ev_neS, ev_neB, ev_eqB, ev_is, ev_isnot, ev_ixT, ev_ixS, ev_ixR, ev_ixL, ev_ixK, ev_getL, ev_getM, ev_gL, ev_gM, ev_at0, ev_at1, ev_at2, ev_at3, ev_at4, ev_lenS, ev_lenR, ev_lenT, ev_lenL, ev_lenO, ev_lenD, ev_abs, ev_min2, ev_max2, ev_intI, ev_intB, ev_set, ev_fc, ev_setset, ev_last, ev_appk, ev_app0, ev_setk, ev_set0, ev_assoc, ev_lapp, ev_lappA, ev_sl, ev_nopart, ev_part, ev_ptK, ev_slT, ev_slS, ev_slR, ev_slK, ev_tyN, ev_tyB, ev_tyI, ev_tyS, ev_tyT, ev_tyL, ev_tyR, ev_tyRL, ev_isi, ev_isi1, ev_isi2, ev_isi3, ev_isi4, ev_isi5, ev_isiT, ev_isi2K, ev_isTy, ev_list, ev_listK, ev_tuple, ev_tupK, ev_getST, ev_getSR, ev_getSL, ev_all, ev_allK, ev_eqXI, ev_eqXS, ev_neXI, ev_neXS, ev_neXB, ev_eqXB, ev_eqXR, ev_neXR, ev_nil2, ev_eqK, ev_neK, ev_meth, ev_meth0, ev_mth1, ev_mth2, ev_mth3, ev_append, ev_m0, ev_m0K, ev_str, ev_for, ev_miR1, ev_rg1K, ev_miL, ev_liK, ev_miT, ev_tiK, ev_lc, ev_wipe0, ev_wipeS, ev_yes, ev_lenSet, ev_lenSetK, ev_listR, ev_lrK, ev_put2, ev_p2A, ev_p2K, ev_p2E, ev_put1, ev_pt1, ev_addXI, ev_addXB, ev_addXS, ev_addXT, ev_addXL, ev_subXI, ev_subXB, ev_mulXI, ev_mulXB, ev_mulXL, ev_negXI, ev_negXB, ev_strXI, ev_strXB, ev_mulYI, ev_mulYB, ev_mulYL, ev_mulYT, ev_dnew, ev_dnewT, ev_dgetE, ev_getD, ev_gD, ev_keyI, ev_keyS, ev_dgK, ev_dinE, ev_diK, ev_dputE, ev_dpK, ev_dget2E, ev_isDA, ev_isSome, ev_isNone, ev_dg2K, ev_dpop2E, ev_dp2K, ev_dp3S, ev_dp3N, ev_sortedE, ev_srO1, ev_srO2, ev_gLd, ev_srKS, ev_srKI, ev_gDT, ev_gT, ev_tinE, ev_tiKK, ev_keysA, ev_keysN, ev_keysC, ev_dputTE, ev_dptK, ev_dispE, ev_mpN, ev_mpC, ev_pcK, ev_dsK, ev_dsK2, ev_lc2E, ev_imp, ev_simp, ev_split, ev_splF, ev_splG, ev_fmt, ev_fmtS, ev_fmtI, ev_addK, ev_js0, ev_js1, ev_joined, ev_star, ev_starK, ev_each2, ev_each2K, ev_unl, ev_unlK, ev_intS, ev_strYS, ev_strYI, ev_fldE, ev_getI, ev_gI, ev_fdK, ev_fldS, ev_fpK, ev_mtE, ev_miK, ev_mkE, ev_mkK, ev_callE, ev_tryAs, ev_raise0, ev_raise1, ev_raiseN, ev_revS, ev_revK, ev_zip, ev_enumF, ev_enum, ev_kget, ev_kgK, ev_index, ev_mjoin, ev_joinG, ev_joinK, ev_sbind, ev_miS, ev_siK, List.getElem?_cons_zero, List.getElem?_cons_succ, List.set_cons_zero, List.set_cons_succ, List.length_cons, List.length_nil, List.cons_append, List.nil_append, if_true, if_false, Bool.false_eq_true, Bool.true_eq_false, reduceIte, Bool.not_true, Bool.not_false, Bool.and_true, Bool.true_and, Bool.and_false, Bool.false_and, Bool.or_true, Bool.true_or, Bool.or_false, Bool.false_or, decide_eq_true_eq, Nat.reduceAdd, Nat.reduceLeDiff, Nat.zero_add, Int.reduceLT, Int.reduceLE, Int.reduceEq, Int.reduceNeg, Nat.reduceEqDiff, and_self, and_true, true_and, decide_true, decide_false, eq_self, ite_true, ite_false, Int.reduceSub, Int.reduceAdd, Int.cast_ofNat_Int, Int.natCast_add, Int.cast_ofNat_Int, Nat.reduceSub, Nat.add_assoc, String.reduceBEq, String.reduceEq, Bool.or_not_self, beq_self_eq_true, e1, e2, hb, u]
    exact ⟨rfl, _, rfl⟩
theorem lline_wp {S : Sto} {w : Str} {ps : List A} (h : StepG w ps) : okR (m__law_line [.tup (.str w :: ps)] S) fun y t => y = .str (lineT w ps) ∧ ∃ l, t = S ++ l := stepText_wp h

/-! ### any step drawn -/
theorem pickA {xs : List A} {i : Int} (h0 : 0 ≤ i) (h1 : i < xs.length) : ∃ a, a ∈ xs ∧ atI xs i = some a := by
  obtain ⟨k, rfl⟩ : ∃ k : Nat, i = (k : Int) := ⟨i.toNat, by omega⟩
  have hk : k < xs.length := by omega
  exact ⟨xs[k], List.getElem_mem hk, atI_nat (List.getElem?_eq_getElem hk)⟩
theorem lit_name : nameP (Str.ofString "read") ∧ nameP (Str.ofString "crash") ∧ nameP (Str.ofString "server") := by
  unfold nameP
  decide +kernel
def stepsL (one other : Str) (ver num : Nat) : List A := [.tup [.str (Str.ofString "read"), .str one, .str other, .int (num : Nat)], .tup [.str (Str.ofString "write"), .str one, .str other, .int (ver : Nat), .int (num : Nat)], .tup [.str (Str.ofString "ask"), .str other],
  .tup [.str (Str.ofString "pass"), .int (num : Nat)], .tup [.str (Str.ofString "deliver"), .int (num : Nat)], .tup [.str (Str.ofString "drop"), .int (num : Nat)], .tup [.str (Str.ofString "save"), .str other, .str one],
  .tup [.str (Str.ofString "yield"), .str one, .str other], .tup [.str (Str.ofString "fall"), .str one], .tup [.str (Str.ofString "crash")]]
theorem stepsL_ok {one other : Str} {ver num : Nat} (h1 : nameP one) (h2 : nameP other) (hv : ver < 10 ^ 12) (hn : num < 10 ^ 12) : ∀ y ∈ stepsL one other ver num, ∃ w ps, y = .tup (.str w :: ps) ∧ StepG w ps := by
  have f1 : fitP (.str NAM) (.str one) := .inr ⟨rfl, one, rfl, h1⟩
  have f2 : fitP (.str NAM) (.str other) := .inr ⟨rfl, other, rfl, h2⟩
  have f3 : fitP (.str NUM) (.int (num : Nat)) := .inl ⟨rfl, num, rfl, hn⟩
  have f4 : fitP (.str NUM) (.int (ver : Nat)) := .inl ⟨rfl, ver, rfl, hv⟩
  intro y hy
  simp only [stepsL, List.mem_cons, List.not_mem_nil, or_false] at hy
  rcases hy with rfl | rfl | rfl | rfl | rfl | rfl | rfl | rfl | rfl | rfl
  · exact ⟨_, _, rfl, ⟨_, rfl, .cons f1 (.cons f2 (.cons f3 .nil))⟩⟩
  · exact ⟨_, _, rfl, ⟨_, rfl, .cons f1 (.cons f2 (.cons f4 (.cons f3 .nil)))⟩⟩
  · exact ⟨_, _, rfl, ⟨_, rfl, .cons f2 .nil⟩⟩
  · exact ⟨_, _, rfl, ⟨_, rfl, .cons f3 .nil⟩⟩
  · exact ⟨_, _, rfl, ⟨_, rfl, .cons f3 .nil⟩⟩
  · exact ⟨_, _, rfl, ⟨_, rfl, .cons f3 .nil⟩⟩
  · exact ⟨_, _, rfl, ⟨_, rfl, .cons f2 (.cons f1 .nil)⟩⟩
  · exact ⟨_, _, rfl, ⟨_, rfl, .cons f1 (.cons f2 .nil)⟩⟩
  · exact ⟨_, _, rfl, ⟨_, rfl, .cons f1 .nil⟩⟩
  · exact ⟨_, _, rfl, ⟨_, rfl, .nil⟩⟩
theorem anyStep_wp {S : Sto} {b : Nat} (hB : BagAt S b) : okR (m__law_any_step [.ref b] S) fun y s => (∃ w ps, y = .tup (.str w :: ps) ∧ StepG w ps) ∧ Dr b S s := by
  rw [st__law_any_step]
  unfold b__law_any_step
  simp only [wp_okR, wp_okF, wp_fin, wp_next, wp_then, wp_bind, wp_nox, wp_tK, wp_bK, wp_fr, wp_fn, wp_nn, wp_nr, wp_nb, wp_nc, wp_ln, wp_lc, wp_lb, wp_lr, wp_jn, wp_jc, ev_bok, ev_bno, ev_bex, ev_tok, ev_tno, ev_tex, ev_nnx, ev_nrt, ev_nbk, ev_nct, ev_nex, ev_nno, ev_frt, ev_fnx, ev_fex, ev_xok, ev_lsome, ev_lnone, ev_seq, ev_if, ev_ret, ev_retN, ev_drop, ev_nop, ev_brk, ev_cont, ev_asgN, ev_asgT, ev_asgO, ev_mgTup, ev_mgN, ev_mgC, ev_mg0, ev_putL, ev_putO, ev_var, ev_vr, ev_c, ev_op, ev_un, ev_test, ev_tb, ev_notT, ev_andT, ev_orT, ev_ifE, ev_not, ev_nb, ev_and, ev_andK, ev_or, ev_orK, ev_chain, ev_chK, ev_nil, ev_cons, ev_tup, ev_lst, ev_new, ev_call, ev_cb, ev_size, ev_addI, ev_addS, ev_addT, ev_addL, ev_catO, ev_sub, ev_mul, ev_div, ev_mod, ev_p5, ev_p6, ev_p12, ev_p18, ev_p30, ev_neg, ev_ltI, ev_ltS, ev_leI, ev_leS, ev_gt, ev_ge, ev_eqI, ev_eqS, ev_neI, ev_neS, ev_neB, ev_eqB, ev_is, ev_isnot, ev_ixT, ev_ixS, ev_ixR, ev_ixL, ev_ixK, ev_getL, ev_getM, ev_gL, ev_gM, ev_at0, ev_at1, ev_at2, ev_at3, ev_at4, ev_lenS, ev_lenR, ev_lenT, ev_lenL, ev_lenO, ev_lenD, ev_abs, ev_min2, ev_max2, ev_intI, ev_intB, ev_set, ev_fc, ev_setset, ev_last, ev_appk, ev_app0, ev_setk, ev_set0, ev_assoc, ev_lapp, ev_lappA, ev_sl, ev_nopart, ev_part, ev_ptK, ev_slT, ev_slS, ev_slR, ev_slK, ev_tyN, ev_tyB, ev_tyI, ev_tyS, ev_tyT, ev_tyL, ev_tyR, ev_tyRL, ev_isi, ev_isi1, ev_isi2, ev_isi3, ev_isi4, ev_isi5, ev_isiT, ev_isi2K, ev_isTy, ev_list, ev_listK, ev_tuple, ev_tupK, ev_getST, ev_getSR, ev_getSL, ev_all, ev_allK, ev_eqXI, ev_eqXS, ev_neXI, ev_neXS, ev_neXB, ev_eqXB, ev_eqXR, ev_neXR, ev_nil2, ev_eqK, ev_neK, ev_meth, ev_meth0, ev_mth1, ev_mth2, ev_mth3, ev_append, ev_m0, ev_m0K, ev_str, ev_for, ev_miR1, ev_rg1K, ev_miL, ev_liK, ev_miT, ev_tiK, ev_lc, ev_wipe0, ev_wipeS, ev_yes, ev_lenSet, ev_lenSetK, ev_listR, ev_lrK, ev_put2, ev_p2A, ev_p2K, ev_p2E, ev_put1, ev_pt1, ev_addXI, ev_addXB, ev_addXS, ev_addXT, ev_addXL, ev_subXI, ev_subXB, ev_mulXI, ev_mulXB, ev_mulXL, ev_negXI, ev_negXB, ev_strXI, ev_strXB, ev_mulYI, ev_mulYB, ev_mulYL, ev_mulYT, ev_dnew, ev_dnewT, ev_dgetE, ev_getD, ev_gD, ev_keyI, ev_keyS, ev_dgK, ev_dinE, ev_diK, ev_dputE, ev_dpK, ev_dget2E, ev_isDA, ev_isSome, ev_isNone, ev_dg2K, ev_dpop2E, ev_dp2K, ev_dp3S, ev_dp3N, ev_sortedE, ev_srO1, ev_srO2, ev_gLd, ev_srKS, ev_srKI, ev_gDT, ev_gT, ev_tinE, ev_tiKK, ev_keysA, ev_keysN, ev_keysC, ev_dputTE, ev_dptK, ev_dispE, ev_mpN, ev_mpC, ev_pcK, ev_dsK, ev_dsK2, ev_lc2E, ev_imp, ev_simp, ev_split, ev_splF, ev_splG, ev_fmt, ev_fmtS, ev_fmtI, ev_addK, ev_js0, ev_js1, ev_joined, ev_star, ev_starK, ev_each2, ev_each2K, ev_unl, ev_unlK, ev_intS, ev_strYS, ev_strYI, ev_fldE, ev_getI, ev_gI, ev_fdK, ev_fldS, ev_fpK, ev_mtE, ev_miK, ev_mkE, ev_mkK, ev_callE, ev_tryAs, ev_raise0, ev_raise1, ev_raiseN, ev_revS, ev_revK, ev_zip, ev_enumF, ev_enum, ev_kget, ev_kgK, ev_index, ev_mjoin, ev_joinG, ev_joinK, ev_sbind, ev_miS, ev_siK, List.getElem?_cons_zero, List.getElem?_cons_succ, List.set_cons_zero, List.set_cons_succ, List.length_cons, List.length_nil, List.cons_append, List.nil_append, if_true, if_false, Bool.false_eq_true, Bool.true_eq_false, reduceIte, Bool.not_true, Bool.not_false, Bool.and_true, Bool.true_and, Bool.and_false, Bool.false_and, Bool.or_true, Bool.true_or, Bool.or_false, Bool.false_or, decide_eq_true_eq, Nat.reduceAdd, Nat.reduceLeDiff, Nat.zero_add, Int.reduceLT, Int.reduceLE, Int.reduceEq, Int.reduceNeg, Nat.reduceEqDiff, and_self, and_true, true_and, decide_true, decide_false, eq_self, ite_true, ite_false, Int.reduceSub, Int.reduceAdd, Int.cast_ofNat_Int, Int.natCast_add, Int.cast_ofNat_Int, Nat.reduceSub, Nat.add_assoc, String.reduceBEq, String.reduceEq, Bool.or_not_self, beq_self_eq_true]
  refine okR_use (name_wp hB) fun a s1 h => ?_
  obtain ⟨one, rfl, h1, D1⟩ := h
  simp only [wp_okR, wp_okF, wp_fin, wp_next, wp_then, wp_bind, wp_nox, wp_tK, wp_bK, wp_fr, wp_fn, wp_nn, wp_nr, wp_nb, wp_nc, wp_ln, wp_lc, wp_lb, wp_lr, wp_jn, wp_jc, ev_bok, ev_bno, ev_bex, ev_tok, ev_tno, ev_tex, ev_nnx, ev_nrt, ev_nbk, ev_nct, ev_nex, ev_nno, ev_frt, ev_fnx, ev_fex, ev_xok, ev_lsome, ev_lnone, ev_seq, ev_if, ev_ret, ev_retN, ev_drop, ev_nop, ev_brk, ev_cont, ev_asgN, ev_asgT, ev_asgO, ev_mgTup, ev_mgN, ev_mgC, ev_mg0, ev_putL, ev_putO, ev_var, ev_vr, ev_c, ev_op, ev_un, ev_test, ev_tb, ev_notT, ev_andT, ev_orT, ev_ifE, ev_not, ev_nb, ev_and, ev_andK, ev_or, ev_orK, ev_chain, ev_chK, ev_nil, ev_cons, ev_tup, ev_lst, ev_new, ev_call, ev_cb, ev_size, ev_addI, ev_addS, ev_addT, ev_addL, ev_catO, ev_sub, ev_mul, ev_div, ev_mod, ev_p5, ev_p6, ev_p12, ev_p18, ev_p30, ev_neg, ev_ltI, ev_ltS, ev_leI, ev_leS, ev_gt, ev_ge, ev_eqI, ev_eqS, ev_neI, ev_neS, ev_neB, ev_eqB, ev_is, ev_isnot, ev_ixT, ev_ixS, ev_ixR, ev_ixL, ev_ixK, ev_getL, ev_getM, ev_gL, ev_gM, ev_at0, ev_at1, ev_at2, ev_at3, ev_at4, ev_lenS, ev_lenR, ev_lenT, ev_lenL, ev_lenO, ev_lenD, ev_abs, ev_min2, ev_max2, ev_intI, ev_intB, ev_set, ev_fc, ev_setset, ev_last, ev_appk, ev_app0, ev_setk, ev_set0, ev_assoc, ev_lapp, ev_lappA, ev_sl, ev_nopart, ev_part, ev_ptK, ev_slT, ev_slS, ev_slR, ev_slK, ev_tyN, ev_tyB, ev_tyI, ev_tyS, ev_tyT, ev_tyL, ev_tyR, ev_tyRL, ev_isi, ev_isi1, ev_isi2, ev_isi3, ev_isi4, ev_isi5, ev_isiT, ev_isi2K, ev_isTy, ev_list, ev_listK, ev_tuple, ev_tupK, ev_getST, ev_getSR, ev_getSL, ev_all, ev_allK, ev_eqXI, ev_eqXS, ev_neXI, ev_neXS, ev_neXB, ev_eqXB, ev_eqXR, ev_neXR, ev_nil2, ev_eqK, ev_neK, ev_meth, ev_meth0, ev_mth1, ev_mth2, ev_mth3, ev_append, ev_m0, ev_m0K, ev_str, ev_for, ev_miR1, ev_rg1K, ev_miL, ev_liK, ev_miT, ev_tiK, ev_lc, ev_wipe0, ev_wipeS, ev_yes, ev_lenSet, ev_lenSetK, ev_listR, ev_lrK, ev_put2, ev_p2A, ev_p2K, ev_p2E, ev_put1, ev_pt1, ev_addXI, ev_addXB, ev_addXS, ev_addXT, ev_addXL, ev_subXI, ev_subXB, ev_mulXI, ev_mulXB, ev_mulXL, ev_negXI, ev_negXB, ev_strXI, ev_strXB, ev_mulYI, ev_mulYB, ev_mulYL, ev_mulYT, ev_dnew, ev_dnewT, ev_dgetE, ev_getD, ev_gD, ev_keyI, ev_keyS, ev_dgK, ev_dinE, ev_diK, ev_dputE, ev_dpK, ev_dget2E, ev_isDA, ev_isSome, ev_isNone, ev_dg2K, ev_dpop2E, ev_dp2K, ev_dp3S, ev_dp3N, ev_sortedE, ev_srO1, ev_srO2, ev_gLd, ev_srKS, ev_srKI, ev_gDT, ev_gT, ev_tinE, ev_tiKK, ev_keysA, ev_keysN, ev_keysC, ev_dputTE, ev_dptK, ev_dispE, ev_mpN, ev_mpC, ev_pcK, ev_dsK, ev_dsK2, ev_lc2E, ev_imp, ev_simp, ev_split, ev_splF, ev_splG, ev_fmt, ev_fmtS, ev_fmtI, ev_addK, ev_js0, ev_js1, ev_joined, ev_star, ev_starK, ev_each2, ev_each2K, ev_unl, ev_unlK, ev_intS, ev_strYS, ev_strYI, ev_fldE, ev_getI, ev_gI, ev_fdK, ev_fldS, ev_fpK, ev_mtE, ev_miK, ev_mkE, ev_mkK, ev_callE, ev_tryAs, ev_raise0, ev_raise1, ev_raiseN, ev_revS, ev_revK, ev_zip, ev_enumF, ev_enum, ev_kget, ev_kgK, ev_index, ev_mjoin, ev_joinG, ev_joinK, ev_sbind, ev_miS, ev_siK, List.getElem?_cons_zero, List.getElem?_cons_succ, List.set_cons_zero, List.set_cons_succ, List.length_cons, List.length_nil, List.cons_append, List.nil_append, if_true, if_false, Bool.false_eq_true, Bool.true_eq_false, reduceIte, Bool.not_true, Bool.not_false, Bool.and_true, Bool.true_and, Bool.and_false, Bool.false_and, Bool.or_true, Bool.true_or, Bool.or_false, Bool.false_or, decide_eq_true_eq, Nat.reduceAdd, Nat.reduceLeDiff, Nat.zero_add, Int.reduceLT, Int.reduceLE, Int.reduceEq, Int.reduceNeg, Nat.reduceEqDiff, and_self, and_true, true_and, decide_true, decide_false, eq_self, ite_true, ite_false, Int.reduceSub, Int.reduceAdd, Int.cast_ofNat_Int, Int.natCast_add, Int.cast_ofNat_Int, Nat.reduceSub, Nat.add_assoc, String.reduceBEq, String.reduceEq, Bool.or_not_self, beq_self_eq_true]
  refine okR_use (name_wp D1.bag) fun a s2 h => ?_
  obtain ⟨nam, rfl, h2, D2⟩ := h
  simp only [wp_okR, wp_okF, wp_fin, wp_next, wp_then, wp_bind, wp_nox, wp_tK, wp_bK, wp_fr, wp_fn, wp_nn, wp_nr, wp_nb, wp_nc, wp_ln, wp_lc, wp_lb, wp_lr, wp_jn, wp_jc, ev_bok, ev_bno, ev_bex, ev_tok, ev_tno, ev_tex, ev_nnx, ev_nrt, ev_nbk, ev_nct, ev_nex, ev_nno, ev_frt, ev_fnx, ev_fex, ev_xok, ev_lsome, ev_lnone, ev_seq, ev_if, ev_ret, ev_retN, ev_drop, ev_nop, ev_brk, ev_cont, ev_asgN, ev_asgT, ev_asgO, ev_mgTup, ev_mgN, ev_mgC, ev_mg0, ev_putL, ev_putO, ev_var, ev_vr, ev_c, ev_op, ev_un, ev_test, ev_tb, ev_notT, ev_andT, ev_orT, ev_ifE, ev_not, ev_nb, ev_and, ev_andK, ev_or, ev_orK, ev_chain, ev_chK, ev_nil, ev_cons, ev_tup, ev_lst, ev_new, ev_call, ev_cb, ev_size, ev_addI, ev_addS, ev_addT, ev_addL, ev_catO, ev_sub, ev_mul, ev_div, ev_mod, ev_p5, ev_p6, ev_p12, ev_p18, ev_p30, ev_neg, ev_ltI, ev_ltS, ev_leI, ev_leS, ev_gt, ev_ge, ev_eqI, ev_eqS, ev_neI, ev_neS, ev_neB, ev_eqB, ev_is, ev_isnot, ev_ixT, ev_ixS, ev_ixR, ev_ixL, ev_ixK, ev_getL, ev_getM, ev_gL, ev_gM, ev_at0, ev_at1, ev_at2, ev_at3, ev_at4, ev_lenS, ev_lenR, ev_lenT, ev_lenL, ev_lenO, ev_lenD, ev_abs, ev_min2, ev_max2, ev_intI, ev_intB, ev_set, ev_fc, ev_setset, ev_last, ev_appk, ev_app0, ev_setk, ev_set0, ev_assoc, ev_lapp, ev_lappA, ev_sl, ev_nopart, ev_part, ev_ptK, ev_slT, ev_slS, ev_slR, ev_slK, ev_tyN, ev_tyB, ev_tyI, ev_tyS, ev_tyT, ev_tyL, ev_tyR, ev_tyRL, ev_isi, ev_isi1, ev_isi2, ev_isi3, ev_isi4, ev_isi5, ev_isiT, ev_isi2K, ev_isTy, ev_list, ev_listK, ev_tuple, ev_tupK, ev_getST, ev_getSR, ev_getSL, ev_all, ev_allK, ev_eqXI, ev_eqXS, ev_neXI, ev_neXS, ev_neXB, ev_eqXB, ev_eqXR, ev_neXR, ev_nil2, ev_eqK, ev_neK, ev_meth, ev_meth0, ev_mth1, ev_mth2, ev_mth3, ev_append, ev_m0, ev_m0K, ev_str, ev_for, ev_miR1, ev_rg1K, ev_miL, ev_liK, ev_miT, ev_tiK, ev_lc, ev_wipe0, ev_wipeS, ev_yes, ev_lenSet, ev_lenSetK, ev_listR, ev_lrK, ev_put2, ev_p2A, ev_p2K, ev_p2E, ev_put1, ev_pt1, ev_addXI, ev_addXB, ev_addXS, ev_addXT, ev_addXL, ev_subXI, ev_subXB, ev_mulXI, ev_mulXB, ev_mulXL, ev_negXI, ev_negXB, ev_strXI, ev_strXB, ev_mulYI, ev_mulYB, ev_mulYL, ev_mulYT, ev_dnew, ev_dnewT, ev_dgetE, ev_getD, ev_gD, ev_keyI, ev_keyS, ev_dgK, ev_dinE, ev_diK, ev_dputE, ev_dpK, ev_dget2E, ev_isDA, ev_isSome, ev_isNone, ev_dg2K, ev_dpop2E, ev_dp2K, ev_dp3S, ev_dp3N, ev_sortedE, ev_srO1, ev_srO2, ev_gLd, ev_srKS, ev_srKI, ev_gDT, ev_gT, ev_tinE, ev_tiKK, ev_keysA, ev_keysN, ev_keysC, ev_dputTE, ev_dptK, ev_dispE, ev_mpN, ev_mpC, ev_pcK, ev_dsK, ev_dsK2, ev_lc2E, ev_imp, ev_simp, ev_split, ev_splF, ev_splG, ev_fmt, ev_fmtS, ev_fmtI, ev_addK, ev_js0, ev_js1, ev_joined, ev_star, ev_starK, ev_each2, ev_each2K, ev_unl, ev_unlK, ev_intS, ev_strYS, ev_strYI, ev_fldE, ev_getI, ev_gI, ev_fdK, ev_fldS, ev_fpK, ev_mtE, ev_miK, ev_mkE, ev_mkK, ev_callE, ev_tryAs, ev_raise0, ev_raise1, ev_raiseN, ev_revS, ev_revK, ev_zip, ev_enumF, ev_enum, ev_kget, ev_kgK, ev_index, ev_mjoin, ev_joinG, ev_joinK, ev_sbind, ev_miS, ev_siK, List.getElem?_cons_zero, List.getElem?_cons_succ, List.set_cons_zero, List.set_cons_succ, List.length_cons, List.length_nil, List.cons_append, List.nil_append, if_true, if_false, Bool.false_eq_true, Bool.true_eq_false, reduceIte, Bool.not_true, Bool.not_false, Bool.and_true, Bool.true_and, Bool.and_false, Bool.false_and, Bool.or_true, Bool.true_or, Bool.or_false, Bool.false_or, decide_eq_true_eq, Nat.reduceAdd, Nat.reduceLeDiff, Nat.zero_add, Int.reduceLT, Int.reduceLE, Int.reduceEq, Int.reduceNeg, Nat.reduceEqDiff, and_self, and_true, true_and, decide_true, decide_false, eq_self, ite_true, ite_false, Int.reduceSub, Int.reduceAdd, Int.cast_ofNat_Int, Int.natCast_add, Int.cast_ofNat_Int, Nat.reduceSub, Nat.add_assoc, String.reduceBEq, String.reduceEq, Bool.or_not_self, beq_self_eq_true]
  refine okR_use (take_wp (D2.bag.app _) (by decide) (by decide)) fun a s3 h => ?_
  obtain ⟨r, rfl, r0, r1, D3⟩ := h
  obtain ⟨oth, ho, eo⟩ := pickA (xs := [A.str (Str.ofString "read"), .str (Str.ofString "crash"), .str (Str.ofString "server"), .str nam]) r0 r1
  obtain ⟨other, rfl, h3⟩ : ∃ x, oth = .str x ∧ nameP x := by
    obtain ⟨l1, l2, l3⟩ := lit_name
    simp only [List.mem_cons, List.not_mem_nil, or_false] at ho
    rcases ho with rfl | rfl | rfl | rfl
    · exact ⟨_, rfl, l1⟩
    · exact ⟨_, rfl, l2⟩
    · exact ⟨_, rfl, l3⟩
    · exact ⟨_, rfl, h2⟩
  have g3 := D3.get (n := s2.length) ev_last (by have := D2.lt; omega)
  simp only [wp_okR, wp_okF, wp_fin, wp_next, wp_then, wp_bind, wp_nox, wp_tK, wp_bK, wp_fr, wp_fn, wp_nn, wp_nr, wp_nb, wp_nc, wp_ln, wp_lc, wp_lb, wp_lr, wp_jn, wp_jc, ev_bok, ev_bno, ev_bex, ev_tok, ev_tno, ev_tex, ev_nnx, ev_nrt, ev_nbk, ev_nct, ev_nex, ev_nno, ev_frt, ev_fnx, ev_fex, ev_xok, ev_lsome, ev_lnone, ev_seq, ev_if, ev_ret, ev_retN, ev_drop, ev_nop, ev_brk, ev_cont, ev_asgN, ev_asgT, ev_asgO, ev_mgTup, ev_mgN, ev_mgC, ev_mg0, ev_putL, ev_putO, ev_var, ev_vr, ev_c, ev_op, ev_un, ev_test, ev_tb, ev_notT, ev_andT, ev_orT, ev_ifE, ev_not, ev_nb, ev_and, ev_andK, ev_or, ev_orK, ev_chain, ev_chK, ev_nil, ev_cons, ev_tup, ev_lst, ev_new, ev_call, ev_cb, ev_size, ev_addI, ev_addS, ev_addT, ev_addL, ev_catO, ev_sub, ev_mul, ev_div, ev_mod, ev_p5, ev_p6, ev_p12, ev_p18, ev_p30, ev_neg, ev_ltI, ev_ltS, ev_leI, ev_leS, ev_gt, ev_ge, ev_eqI, ev_eqS, ev_neI, ev_neS, ev_neB, ev_eqB, ev_is, ev_isnot, ev_ixT, ev_ixS, ev_ixR, ev_ixL, ev_ixK, ev_getL, ev_getM, ev_gL, ev_gM, ev_at0, ev_at1, ev_at2, ev_at3, ev_at4, ev_lenS, ev_lenR, ev_lenT, ev_lenL, ev_lenO, ev_lenD, ev_abs, ev_min2, ev_max2, ev_intI, ev_intB, ev_set, ev_fc, ev_setset, ev_last, ev_appk, ev_app0, ev_setk, ev_set0, ev_assoc, ev_lapp, ev_lappA, ev_sl, ev_nopart, ev_part, ev_ptK, ev_slT, ev_slS, ev_slR, ev_slK, ev_tyN, ev_tyB, ev_tyI, ev_tyS, ev_tyT, ev_tyL, ev_tyR, ev_tyRL, ev_isi, ev_isi1, ev_isi2, ev_isi3, ev_isi4, ev_isi5, ev_isiT, ev_isi2K, ev_isTy, ev_list, ev_listK, ev_tuple, ev_tupK, ev_getST, ev_getSR, ev_getSL, ev_all, ev_allK, ev_eqXI, ev_eqXS, ev_neXI, ev_neXS, ev_neXB, ev_eqXB, ev_eqXR, ev_neXR, ev_nil2, ev_eqK, ev_neK, ev_meth, ev_meth0, ev_mth1, ev_mth2, ev_mth3, ev_append, ev_m0, ev_m0K, ev_str, ev_for, ev_miR1, ev_rg1K, ev_miL, ev_liK, ev_miT, ev_tiK, ev_lc, ev_wipe0, ev_wipeS, ev_yes, ev_lenSet, ev_lenSetK, ev_listR, ev_lrK, ev_put2, ev_p2A, ev_p2K, ev_p2E, ev_put1, ev_pt1, ev_addXI, ev_addXB, ev_addXS, ev_addXT, ev_addXL, ev_subXI, ev_subXB, ev_mulXI, ev_mulXB, ev_mulXL, ev_negXI, ev_negXB, ev_strXI, ev_strXB, ev_mulYI, ev_mulYB, ev_mulYL, ev_mulYT, ev_dnew, ev_dnewT, ev_dgetE, ev_getD, ev_gD, ev_keyI, ev_keyS, ev_dgK, ev_dinE, ev_diK, ev_dputE, ev_dpK, ev_dget2E, ev_isDA, ev_isSome, ev_isNone, ev_dg2K, ev_dpop2E, ev_dp2K, ev_dp3S, ev_dp3N, ev_sortedE, ev_srO1, ev_srO2, ev_gLd, ev_srKS, ev_srKI, ev_gDT, ev_gT, ev_tinE, ev_tiKK, ev_keysA, ev_keysN, ev_keysC, ev_dputTE, ev_dptK, ev_dispE, ev_mpN, ev_mpC, ev_pcK, ev_dsK, ev_dsK2, ev_lc2E, ev_imp, ev_simp, ev_split, ev_splF, ev_splG, ev_fmt, ev_fmtS, ev_fmtI, ev_addK, ev_js0, ev_js1, ev_joined, ev_star, ev_starK, ev_each2, ev_each2K, ev_unl, ev_unlK, ev_intS, ev_strYS, ev_strYI, ev_fldE, ev_getI, ev_gI, ev_fdK, ev_fldS, ev_fpK, ev_mtE, ev_miK, ev_mkE, ev_mkK, ev_callE, ev_tryAs, ev_raise0, ev_raise1, ev_raiseN, ev_revS, ev_revK, ev_zip, ev_enumF, ev_enum, ev_kget, ev_kgK, ev_index, ev_mjoin, ev_joinG, ev_joinK, ev_sbind, ev_miS, ev_siK, List.getElem?_cons_zero, List.getElem?_cons_succ, List.set_cons_zero, List.set_cons_succ, List.length_cons, List.length_nil, List.cons_append, List.nil_append, if_true, if_false, Bool.false_eq_true, Bool.true_eq_false, reduceIte, Bool.not_true, Bool.not_false, Bool.and_true, Bool.true_and, Bool.and_false, Bool.false_and, Bool.or_true, Bool.true_or, Bool.or_false, Bool.false_or, decide_eq_true_eq, Nat.reduceAdd, Nat.reduceLeDiff, Nat.zero_add, Int.reduceLT, Int.reduceLE, Int.reduceEq, Int.reduceNeg, Nat.reduceEqDiff, and_self, and_true, true_and, decide_true, decide_false, eq_self, ite_true, ite_false, Int.reduceSub, Int.reduceAdd, Int.cast_ofNat_Int, Int.natCast_add, Int.cast_ofNat_Int, Nat.reduceSub, Nat.add_assoc, String.reduceBEq, String.reduceEq, Bool.or_not_self, beq_self_eq_true, g3, eo]
  refine okR_use (take_wp (D3.bag.app _) (by decide) (by decide)) fun a s4 h => ?_
  obtain ⟨r, rfl, r0, r1, D4⟩ := h
  obtain ⟨mo, hm, em⟩ := pickI (ns := [5, 1000, 1000000000000]) r0 r1
  have em : atI [A.int 5, A.int 1000, A.int 1000000000000] r = some (.int mo) := em.1
  have m1 : 0 < mo ∧ mo ≤ 10 ^ 12 := by
    simp only [List.mem_cons, List.not_mem_nil, or_false] at hm
    rcases hm with rfl | rfl | rfl <;> decide
  have g4 := D4.get (n := s3.length) ev_last (by have := D3.lt; omega)
  simp only [wp_okR, wp_okF, wp_fin, wp_next, wp_then, wp_bind, wp_nox, wp_tK, wp_bK, wp_fr, wp_fn, wp_nn, wp_nr, wp_nb, wp_nc, wp_ln, wp_lc, wp_lb, wp_lr, wp_jn, wp_jc, ev_bok, ev_bno, ev_bex, ev_tok, ev_tno, ev_tex, ev_nnx, ev_nrt, ev_nbk, ev_nct, ev_nex, ev_nno, ev_frt, ev_fnx, ev_fex, ev_xok, ev_lsome, ev_lnone, ev_seq, ev_if, ev_ret, ev_retN, ev_drop, ev_nop, ev_brk, ev_cont, ev_asgN, ev_asgT, ev_asgO, ev_mgTup, ev_mgN, ev_mgC, ev_mg0, ev_putL, ev_putO, ev_var, ev_vr, ev_c, ev_op, ev_un, ev_test, ev_tb, ev_notT, ev_andT, ev_orT, ev_ifE, ev_not, ev_nb, ev_and, ev_andK, ev_or, ev_orK, ev_chain, ev_chK, ev_nil, ev_cons, ev_tup, ev_lst, ev_new, ev_call, ev_cb, ev_size, ev_addI, ev_addS, ev_addT, ev_addL, ev_catO, ev_sub, ev_mul, ev_div, ev_mod, ev_p5, ev_p6, ev_p12, ev_p18, ev_p30, ev_neg, ev_ltI, ev_ltS, ev_leI, ev_leS, ev_gt, ev_ge, ev_eqI, ev_eqS, ev_neI, ev_neS, ev_neB, ev_eqB, ev_is, ev_isnot, ev_ixT, ev_ixS, ev_ixR, ev_ixL, ev_ixK, ev_getL, ev_getM, ev_gL, ev_gM, ev_at0, ev_at1, ev_at2, ev_at3, ev_at4, ev_lenS, ev_lenR, ev_lenT, ev_lenL, ev_lenO, ev_lenD, ev_abs, ev_min2, ev_max2, ev_intI, ev_intB, ev_set, ev_fc, ev_setset, ev_last, ev_appk, ev_app0, ev_setk, ev_set0, ev_assoc, ev_lapp, ev_lappA, ev_sl, ev_nopart, ev_part, ev_ptK, ev_slT, ev_slS, ev_slR, ev_slK, ev_tyN, ev_tyB, ev_tyI, ev_tyS, ev_tyT, ev_tyL, ev_tyR, ev_tyRL, ev_isi, ev_isi1, ev_isi2, ev_isi3, ev_isi4, ev_isi5, ev_isiT, ev_isi2K, ev_isTy, ev_list, ev_listK, ev_tuple, ev_tupK, ev_getST, ev_getSR, ev_getSL, ev_all, ev_allK, ev_eqXI, ev_eqXS, ev_neXI, ev_neXS, ev_neXB, ev_eqXB, ev_eqXR, ev_neXR, ev_nil2, ev_eqK, ev_neK, ev_meth, ev_meth0, ev_mth1, ev_mth2, ev_mth3, ev_append, ev_m0, ev_m0K, ev_str, ev_for, ev_miR1, ev_rg1K, ev_miL, ev_liK, ev_miT, ev_tiK, ev_lc, ev_wipe0, ev_wipeS, ev_yes, ev_lenSet, ev_lenSetK, ev_listR, ev_lrK, ev_put2, ev_p2A, ev_p2K, ev_p2E, ev_put1, ev_pt1, ev_addXI, ev_addXB, ev_addXS, ev_addXT, ev_addXL, ev_subXI, ev_subXB, ev_mulXI, ev_mulXB, ev_mulXL, ev_negXI, ev_negXB, ev_strXI, ev_strXB, ev_mulYI, ev_mulYB, ev_mulYL, ev_mulYT, ev_dnew, ev_dnewT, ev_dgetE, ev_getD, ev_gD, ev_keyI, ev_keyS, ev_dgK, ev_dinE, ev_diK, ev_dputE, ev_dpK, ev_dget2E, ev_isDA, ev_isSome, ev_isNone, ev_dg2K, ev_dpop2E, ev_dp2K, ev_dp3S, ev_dp3N, ev_sortedE, ev_srO1, ev_srO2, ev_gLd, ev_srKS, ev_srKI, ev_gDT, ev_gT, ev_tinE, ev_tiKK, ev_keysA, ev_keysN, ev_keysC, ev_dputTE, ev_dptK, ev_dispE, ev_mpN, ev_mpC, ev_pcK, ev_dsK, ev_dsK2, ev_lc2E, ev_imp, ev_simp, ev_split, ev_splF, ev_splG, ev_fmt, ev_fmtS, ev_fmtI, ev_addK, ev_js0, ev_js1, ev_joined, ev_star, ev_starK, ev_each2, ev_each2K, ev_unl, ev_unlK, ev_intS, ev_strYS, ev_strYI, ev_fldE, ev_getI, ev_gI, ev_fdK, ev_fldS, ev_fpK, ev_mtE, ev_miK, ev_mkE, ev_mkK, ev_callE, ev_tryAs, ev_raise0, ev_raise1, ev_raiseN, ev_revS, ev_revK, ev_zip, ev_enumF, ev_enum, ev_kget, ev_kgK, ev_index, ev_mjoin, ev_joinG, ev_joinK, ev_sbind, ev_miS, ev_siK, List.getElem?_cons_zero, List.getElem?_cons_succ, List.set_cons_zero, List.set_cons_succ, List.length_cons, List.length_nil, List.cons_append, List.nil_append, if_true, if_false, Bool.false_eq_true, Bool.true_eq_false, reduceIte, Bool.not_true, Bool.not_false, Bool.and_true, Bool.true_and, Bool.and_false, Bool.false_and, Bool.or_true, Bool.true_or, Bool.or_false, Bool.false_or, decide_eq_true_eq, Nat.reduceAdd, Nat.reduceLeDiff, Nat.zero_add, Int.reduceLT, Int.reduceLE, Int.reduceEq, Int.reduceNeg, Nat.reduceEqDiff, and_self, and_true, true_and, decide_true, decide_false, eq_self, ite_true, ite_false, Int.reduceSub, Int.reduceAdd, Int.cast_ofNat_Int, Int.natCast_add, Int.cast_ofNat_Int, Nat.reduceSub, Nat.add_assoc, String.reduceBEq, String.reduceEq, Bool.or_not_self, beq_self_eq_true, g4, em]
  refine okR_use (take_wp D4.bag m1.1 (by omega)) fun a s5 h => ?_
  obtain ⟨num, rfl, n0, n1, D5⟩ := h
  simp only [wp_okR, wp_okF, wp_fin, wp_next, wp_then, wp_bind, wp_nox, wp_tK, wp_bK, wp_fr, wp_fn, wp_nn, wp_nr, wp_nb, wp_nc, wp_ln, wp_lc, wp_lb, wp_lr, wp_jn, wp_jc, ev_bok, ev_bno, ev_bex, ev_tok, ev_tno, ev_tex, ev_nnx, ev_nrt, ev_nbk, ev_nct, ev_nex, ev_nno, ev_frt, ev_fnx, ev_fex, ev_xok, ev_lsome, ev_lnone, ev_seq, ev_if, ev_ret, ev_retN, ev_drop, ev_nop, ev_brk, ev_cont, ev_asgN, ev_asgT, ev_asgO, ev_mgTup, ev_mgN, ev_mgC, ev_mg0, ev_putL, ev_putO, ev_var, ev_vr, ev_c, ev_op, ev_un, ev_test, ev_tb, ev_notT, ev_andT, ev_orT, ev_ifE, ev_not, ev_nb, ev_and, ev_andK, ev_or, ev_orK, ev_chain, ev_chK, ev_nil, ev_cons, ev_tup, ev_lst, ev_new, ev_call, ev_cb, ev_size, ev_addI, ev_addS, ev_addT, ev_addL, ev_catO, ev_sub, ev_mul, ev_div, ev_mod, ev_p5, ev_p6, ev_p12, ev_p18, ev_p30, ev_neg, ev_ltI, ev_ltS, ev_leI, ev_leS, ev_gt, ev_ge, ev_eqI, ev_eqS, ev_neI, ev_neS, ev_neB, ev_eqB, ev_is, ev_isnot, ev_ixT, ev_ixS, ev_ixR, ev_ixL, ev_ixK, ev_getL, ev_getM, ev_gL, ev_gM, ev_at0, ev_at1, ev_at2, ev_at3, ev_at4, ev_lenS, ev_lenR, ev_lenT, ev_lenL, ev_lenO, ev_lenD, ev_abs, ev_min2, ev_max2, ev_intI, ev_intB, ev_set, ev_fc, ev_setset, ev_last, ev_appk, ev_app0, ev_setk, ev_set0, ev_assoc, ev_lapp, ev_lappA, ev_sl, ev_nopart, ev_part, ev_ptK, ev_slT, ev_slS, ev_slR, ev_slK, ev_tyN, ev_tyB, ev_tyI, ev_tyS, ev_tyT, ev_tyL, ev_tyR, ev_tyRL, ev_isi, ev_isi1, ev_isi2, ev_isi3, ev_isi4, ev_isi5, ev_isiT, ev_isi2K, ev_isTy, ev_list, ev_listK, ev_tuple, ev_tupK, ev_getST, ev_getSR, ev_getSL, ev_all, ev_allK, ev_eqXI, ev_eqXS, ev_neXI, ev_neXS, ev_neXB, ev_eqXB, ev_eqXR, ev_neXR, ev_nil2, ev_eqK, ev_neK, ev_meth, ev_meth0, ev_mth1, ev_mth2, ev_mth3, ev_append, ev_m0, ev_m0K, ev_str, ev_for, ev_miR1, ev_rg1K, ev_miL, ev_liK, ev_miT, ev_tiK, ev_lc, ev_wipe0, ev_wipeS, ev_yes, ev_lenSet, ev_lenSetK, ev_listR, ev_lrK, ev_put2, ev_p2A, ev_p2K, ev_p2E, ev_put1, ev_pt1, ev_addXI, ev_addXB, ev_addXS, ev_addXT, ev_addXL, ev_subXI, ev_subXB, ev_mulXI, ev_mulXB, ev_mulXL, ev_negXI, ev_negXB, ev_strXI, ev_strXB, ev_mulYI, ev_mulYB, ev_mulYL, ev_mulYT, ev_dnew, ev_dnewT, ev_dgetE, ev_getD, ev_gD, ev_keyI, ev_keyS, ev_dgK, ev_dinE, ev_diK, ev_dputE, ev_dpK, ev_dget2E, ev_isDA, ev_isSome, ev_isNone, ev_dg2K, ev_dpop2E, ev_dp2K, ev_dp3S, ev_dp3N, ev_sortedE, ev_srO1, ev_srO2, ev_gLd, ev_srKS, ev_srKI, ev_gDT, ev_gT, ev_tinE, ev_tiKK, ev_keysA, ev_keysN, ev_keysC, ev_dputTE, ev_dptK, ev_dispE, ev_mpN, ev_mpC, ev_pcK, ev_dsK, ev_dsK2, ev_lc2E, ev_imp, ev_simp, ev_split, ev_splF, ev_splG, ev_fmt, ev_fmtS, ev_fmtI, ev_addK, ev_js0, ev_js1, ev_joined, ev_star, ev_starK, ev_each2, ev_each2K, ev_unl, ev_unlK, ev_intS, ev_strYS, ev_strYI, ev_fldE, ev_getI, ev_gI, ev_fdK, ev_fldS, ev_fpK, ev_mtE, ev_miK, ev_mkE, ev_mkK, ev_callE, ev_tryAs, ev_raise0, ev_raise1, ev_raiseN, ev_revS, ev_revK, ev_zip, ev_enumF, ev_enum, ev_kget, ev_kgK, ev_index, ev_mjoin, ev_joinG, ev_joinK, ev_sbind, ev_miS, ev_siK, List.getElem?_cons_zero, List.getElem?_cons_succ, List.set_cons_zero, List.set_cons_succ, List.length_cons, List.length_nil, List.cons_append, List.nil_append, if_true, if_false, Bool.false_eq_true, Bool.true_eq_false, reduceIte, Bool.not_true, Bool.not_false, Bool.and_true, Bool.true_and, Bool.and_false, Bool.false_and, Bool.or_true, Bool.true_or, Bool.or_false, Bool.false_or, decide_eq_true_eq, Nat.reduceAdd, Nat.reduceLeDiff, Nat.zero_add, Int.reduceLT, Int.reduceLE, Int.reduceEq, Int.reduceNeg, Nat.reduceEqDiff, and_self, and_true, true_and, decide_true, decide_false, eq_self, ite_true, ite_false, Int.reduceSub, Int.reduceAdd, Int.cast_ofNat_Int, Int.natCast_add, Int.cast_ofNat_Int, Nat.reduceSub, Nat.add_assoc, String.reduceBEq, String.reduceEq, Bool.or_not_self, beq_self_eq_true]
  refine okR_use (take_wp D5.bag m1.1 (by omega)) fun a s6 h => ?_
  obtain ⟨ver, rfl, v0, v1, D6⟩ := h
  obtain ⟨num, rfl⟩ : ∃ n : Nat, num = (n : Int) := ⟨num.toNat, by omega⟩
  obtain ⟨ver, rfl⟩ : ∃ n : Nat, ver = (n : Int) := ⟨ver.toNat, by omega⟩
  simp only [wp_okR, wp_okF, wp_fin, wp_next, wp_then, wp_bind, wp_nox, wp_tK, wp_bK, wp_fr, wp_fn, wp_nn, wp_nr, wp_nb, wp_nc, wp_ln, wp_lc, wp_lb, wp_lr, wp_jn, wp_jc, ev_bok, ev_bno, ev_bex, ev_tok, ev_tno, ev_tex, ev_nnx, ev_nrt, ev_nbk, ev_nct, ev_nex, ev_nno, ev_frt, ev_fnx, ev_fex, ev_xok, ev_lsome, ev_lnone, ev_seq, ev_if, ev_ret, ev_retN, ev_drop, ev_nop, ev_brk, ev_cont, ev_asgN, ev_asgT, ev_asgO, ev_mgTup, ev_mgN, ev_mgC, ev_mg0, ev_putL, ev_putO, ev_var, ev_vr, ev_c, ev_op, ev_un, ev_test, ev_tb, ev_notT, ev_andT, ev_orT, ev_ifE, ev_not, ev_nb, ev_and, ev_andK, ev_or, ev_orK, ev_chain, ev_chK, ev_nil, ev_cons, ev_tup, ev_lst, ev_new, ev_call, ev_cb, ev_size, ev_addI, ev_addS, ev_addT, ev_addL, ev_catO, ev_sub, ev_mul, ev_div, ev_mod, ev_p5, ev_p6, ev_p12, ev_p18, ev_p30, ev_neg, ev_ltI, ev_ltS, ev_leI, ev_leS, ev_gt, ev_ge, ev_eqI, ev_eqS, ev_neI, ev_neS, ev_neB, ev_eqB, ev_is, ev_isnot, ev_ixT, ev_ixS, ev_ixR, ev_ixL, ev_ixK, ev_getL, ev_getM, ev_gL, ev_gM, ev_at0, ev_at1, ev_at2, ev_at3, ev_at4, ev_lenS, ev_lenR, ev_lenT, ev_lenL, ev_lenO, ev_lenD, ev_abs, ev_min2, ev_max2, ev_intI, ev_intB, ev_set, ev_fc, ev_setset, ev_last, ev_appk, ev_app0, ev_setk, ev_set0, ev_assoc, ev_lapp, ev_lappA, ev_sl, ev_nopart, ev_part, ev_ptK, ev_slT, ev_slS, ev_slR, ev_slK, ev_tyN, ev_tyB, ev_tyI, ev_tyS, ev_tyT, ev_tyL, ev_tyR, ev_tyRL, ev_isi, ev_isi1, ev_isi2, ev_isi3, ev_isi4, ev_isi5, ev_isiT, ev_isi2K, ev_isTy, ev_list, ev_listK, ev_tuple, ev_tupK, ev_getST, ev_getSR, ev_getSL, ev_all, ev_allK, ev_eqXI, ev_eqXS, ev_neXI, ev_neXS, ev_neXB, ev_eqXB, ev_eqXR, ev_neXR, ev_nil2, ev_eqK, ev_neK, ev_meth, ev_meth0, ev_mth1, ev_mth2, ev_mth3, ev_append, ev_m0, ev_m0K, ev_str, ev_for, ev_miR1, ev_rg1K, ev_miL, ev_liK, ev_miT, ev_tiK, ev_lc, ev_wipe0, ev_wipeS, ev_yes, ev_lenSet, ev_lenSetK, ev_listR, ev_lrK, ev_put2, ev_p2A, ev_p2K, ev_p2E, ev_put1, ev_pt1, ev_addXI, ev_addXB, ev_addXS, ev_addXT, ev_addXL, ev_subXI, ev_subXB, ev_mulXI, ev_mulXB, ev_mulXL, ev_negXI, ev_negXB, ev_strXI, ev_strXB, ev_mulYI, ev_mulYB, ev_mulYL, ev_mulYT, ev_dnew, ev_dnewT, ev_dgetE, ev_getD, ev_gD, ev_keyI, ev_keyS, ev_dgK, ev_dinE, ev_diK, ev_dputE, ev_dpK, ev_dget2E, ev_isDA, ev_isSome, ev_isNone, ev_dg2K, ev_dpop2E, ev_dp2K, ev_dp3S, ev_dp3N, ev_sortedE, ev_srO1, ev_srO2, ev_gLd, ev_srKS, ev_srKI, ev_gDT, ev_gT, ev_tinE, ev_tiKK, ev_keysA, ev_keysN, ev_keysC, ev_dputTE, ev_dptK, ev_dispE, ev_mpN, ev_mpC, ev_pcK, ev_dsK, ev_dsK2, ev_lc2E, ev_imp, ev_simp, ev_split, ev_splF, ev_splG, ev_fmt, ev_fmtS, ev_fmtI, ev_addK, ev_js0, ev_js1, ev_joined, ev_star, ev_starK, ev_each2, ev_each2K, ev_unl, ev_unlK, ev_intS, ev_strYS, ev_strYI, ev_fldE, ev_getI, ev_gI, ev_fdK, ev_fldS, ev_fpK, ev_mtE, ev_miK, ev_mkE, ev_mkK, ev_callE, ev_tryAs, ev_raise0, ev_raise1, ev_raiseN, ev_revS, ev_revK, ev_zip, ev_enumF, ev_enum, ev_kget, ev_kgK, ev_index, ev_mjoin, ev_joinG, ev_joinK, ev_sbind, ev_miS, ev_siK, List.getElem?_cons_zero, List.getElem?_cons_succ, List.set_cons_zero, List.set_cons_succ, List.length_cons, List.length_nil, List.cons_append, List.nil_append, if_true, if_false, Bool.false_eq_true, Bool.true_eq_false, reduceIte, Bool.not_true, Bool.not_false, Bool.and_true, Bool.true_and, Bool.and_false, Bool.false_and, Bool.or_true, Bool.true_or, Bool.or_false, Bool.false_or, decide_eq_true_eq, Nat.reduceAdd, Nat.reduceLeDiff, Nat.zero_add, Int.reduceLT, Int.reduceLE, Int.reduceEq, Int.reduceNeg, Nat.reduceEqDiff, and_self, and_true, true_and, decide_true, decide_false, eq_self, ite_true, ite_false, Int.reduceSub, Int.reduceAdd, Int.cast_ofNat_Int, Int.natCast_add, Int.cast_ofNat_Int, Nat.reduceSub, Nat.add_assoc, String.reduceBEq, String.reduceEq, Bool.or_not_self, beq_self_eq_true]
  refine okR_use (take_wp (D6.bag.apps _) (by decide) (by decide)) fun a s7 h => ?_
  obtain ⟨r, rfl, r0, r1, D7⟩ := h
  obtain ⟨y, hy, ey⟩ := pickA (xs := stepsL one other ver num) r0 r1
  have g7 : s7[s6.length + 4]? = some (AO.lst (stepsL one other ver num)) := D7.get (by rw [List.getElem?_append_right (by omega), Nat.add_sub_cancel_left]; rfl) (by have := D6.lt; omega)
  simp only [wp_okR, wp_okF, wp_fin, wp_next, wp_then, wp_bind, wp_nox, wp_tK, wp_bK, wp_fr, wp_fn, wp_nn, wp_nr, wp_nb, wp_nc, wp_ln, wp_lc, wp_lb, wp_lr, wp_jn, wp_jc, ev_bok, ev_bno, ev_bex, ev_tok, ev_tno, ev_tex, ev_nnx, ev_nrt, ev_nbk, ev_nct, ev_nex, ev_nno, ev_frt, ev_fnx, ev_fex, ev_xok, ev_lsome, ev_lnone, ev_seq, ev_if, ev_ret, ev_retN, ev_drop, ev_nop, ev_brk, ev_cont, ev_asgN, ev_asgT, ev_asgO, ev_mgTup, ev_mgN, ev_mgC, ev_mg0, ev_putL, ev_putO, ev_var, ev_vr, ev_c, ev_op, ev_un, ev_test, ev_tb, ev_notT, ev_andT, ev_orT, ev_ifE, ev_not, ev_nb, ev_and, ev_andK, ev_or, ev_orK, ev_chain, ev_chK, ev_nil, ev_cons, ev_tup, ev_lst, ev_new, ev_call, ev_cb, ev_size, ev_addI, ev_addS, ev_addT, ev_addL, ev_catO, ev_sub, ev_mul, ev_div, ev_mod, ev_p5, ev_p6, ev_p12, ev_p18, ev_p30, ev_neg, ev_ltI, ev_ltS, ev_leI, ev_leS, ev_gt, ev_ge, ev_eqI, ev_eqS, ev_neI, ev_neS, ev_neB, ev_eqB, ev_is, ev_isnot, ev_ixT, ev_ixS, ev_ixR, ev_ixL, ev_ixK, ev_getL, ev_getM, ev_gL, ev_gM, ev_at0, ev_at1, ev_at2, ev_at3, ev_at4, ev_lenS, ev_lenR, ev_lenT, ev_lenL, ev_lenO, ev_lenD, ev_abs, ev_min2, ev_max2, ev_intI, ev_intB, ev_set, ev_fc, ev_setset, ev_last, ev_appk, ev_app0, ev_setk, ev_set0, ev_assoc, ev_lapp, ev_lappA, ev_sl, ev_nopart, ev_part, ev_ptK, ev_slT, ev_slS, ev_slR, ev_slK, ev_tyN, ev_tyB, ev_tyI, ev_tyS, ev_tyT, ev_tyL, ev_tyR, ev_tyRL, ev_isi, ev_isi1, ev_isi2, ev_isi3, ev_isi4, ev_isi5, ev_isiT, ev_isi2K, ev_isTy, ev_list, ev_listK, ev_tuple, ev_tupK, ev_getST, ev_getSR, ev_getSL, ev_all, ev_allK, ev_eqXI, ev_eqXS, ev_neXI, ev_neXS, ev_neXB, ev_eqXB, ev_eqXR, ev_neXR, ev_nil2, ev_eqK, ev_neK, ev_meth, ev_meth0, ev_mth1, ev_mth2, ev_mth3, ev_append, ev_m0, ev_m0K, ev_str, ev_for, ev_miR1, ev_rg1K, ev_miL, ev_liK, ev_miT, ev_tiK, ev_lc, ev_wipe0, ev_wipeS, ev_yes, ev_lenSet, ev_lenSetK, ev_listR, ev_lrK, ev_put2, ev_p2A, ev_p2K, ev_p2E, ev_put1, ev_pt1, ev_addXI, ev_addXB, ev_addXS, ev_addXT, ev_addXL, ev_subXI, ev_subXB, ev_mulXI, ev_mulXB, ev_mulXL, ev_negXI, ev_negXB, ev_strXI, ev_strXB, ev_mulYI, ev_mulYB, ev_mulYL, ev_mulYT, ev_dnew, ev_dnewT, ev_dgetE, ev_getD, ev_gD, ev_keyI, ev_keyS, ev_dgK, ev_dinE, ev_diK, ev_dputE, ev_dpK, ev_dget2E, ev_isDA, ev_isSome, ev_isNone, ev_dg2K, ev_dpop2E, ev_dp2K, ev_dp3S, ev_dp3N, ev_sortedE, ev_srO1, ev_srO2, ev_gLd, ev_srKS, ev_srKI, ev_gDT, ev_gT, ev_tinE, ev_tiKK, ev_keysA, ev_keysN, ev_keysC, ev_dputTE, ev_dptK, ev_dispE, ev_mpN, ev_mpC, ev_pcK, ev_dsK, ev_dsK2, ev_lc2E, ev_imp, ev_simp, ev_split, ev_splF, ev_splG, ev_fmt, ev_fmtS, ev_fmtI, ev_addK, ev_js0, ev_js1, ev_joined, ev_star, ev_starK, ev_each2, ev_each2K, ev_unl, ev_unlK, ev_intS, ev_strYS, ev_strYI, ev_fldE, ev_getI, ev_gI, ev_fdK, ev_fldS, ev_fpK, ev_mtE, ev_miK, ev_mkE, ev_mkK, ev_callE, ev_tryAs, ev_raise0, ev_raise1, ev_raiseN, ev_revS, ev_revK, ev_zip, ev_enumF, ev_enum, ev_kget, ev_kgK, ev_index, ev_mjoin, ev_joinG, ev_joinK, ev_sbind, ev_miS, ev_siK, List.getElem?_cons_zero, List.getElem?_cons_succ, List.set_cons_zero, List.set_cons_succ, List.length_cons, List.length_nil, List.cons_append, List.nil_append, if_true, if_false, Bool.false_eq_true, Bool.true_eq_false, reduceIte, Bool.not_true, Bool.not_false, Bool.and_true, Bool.true_and, Bool.and_false, Bool.false_and, Bool.or_true, Bool.true_or, Bool.or_false, Bool.false_or, decide_eq_true_eq, Nat.reduceAdd, Nat.reduceLeDiff, Nat.zero_add, Int.reduceLT, Int.reduceLE, Int.reduceEq, Int.reduceNeg, Nat.reduceEqDiff, and_self, and_true, true_and, decide_true, decide_false, eq_self, ite_true, ite_false, Int.reduceSub, Int.reduceAdd, Int.cast_ofNat_Int, Int.natCast_add, Int.cast_ofNat_Int, Nat.reduceSub, Nat.add_assoc, String.reduceBEq, String.reduceEq, Bool.or_not_self, beq_self_eq_true, g7, ey]
  exact ⟨stepsL_ok h1 h3 (by omega) (by omega) y hy, (((((D1.trans D2).app _).trans D3).app _).trans (D4.trans (D5.trans (D6.apps _)))).trans D7⟩

/-! ### steps read from any text -/
theorem forL_wx {ok : Sto → Prop} {g : MG} {b : MS} {Q : Fl → Sto → Prop} {X : Nat → Option Nat → AEnv → Sto → Prop} (I : Nat → AEnv → Sto → Prop) (hok : ∀ i env s, I i env s → ok s) : ∀ {xs : List A} {j : Nat} {env : AEnv} {st : Sto}, I j env st →
    (∀ i x env s, xs[i]? = some x → I (j + i) env s → ∃ e1, g x env = some e1 ∧ okG (b e1 s) (lK (I (j + i + 1)) Q) X) → (∀ env s, I (j + xs.length) env s → Q (.nx env) s) → okG (forL ok g b xs env st) Q X
  | [], j, env, st, h0, _, he => by
    unfold forL
    rw [if_pos (hok _ _ _ h0)]
    exact he _ _ h0
  | x :: xs, j, env, st, h0, hs, he => by
    obtain ⟨e1, h1, h2⟩ := hs 0 x env st rfl h0
    have go : ∀ e s, I (j + 1) e s → okG (forL ok g b xs e s) Q X := fun e s hI => forL_wx I hok (j := j + 1) hI (fun i y env s hy h => by
      have := hs (i + 1) y env s (by simpa using hy) (by rw [show j + (i + 1) = j + 1 + i by omega]; exact h)
      rw [show j + (i + 1) + 1 = j + 1 + i + 1 by omega] at this
      exact this) (fun env s h => he env s (by rw [List.length_cons, show j + (xs.length + 1) = j + 1 + xs.length by omega]; exact h))
    unfold forL
    rw [if_pos (hok _ _ _ h0), h1]
    cases h3 : b e1 st with
    | no => rw [h3] at h2; exact h2.elim
    | ex c d e s =>
      rw [h3] at h2
      simp only [h3]
      exact h2
    | fl fl s' =>
      rw [h3] at h2
      simp only [h3]
      cases fl with
      | nx e => exact go e s' h2
      | ct e => exact go e s' h2
      | bk e => exact h2
      | rt a => exact h2
def NL : Str := Str.ofString "\n"
theorem nl_is : NL = ⟨#[10]⟩ := by decide +kernel
theorem stepR_or (z : Str) : stepR z = .non ∨ ∃ xs, stepR z = .tup xs := by
  unfold stepR
  split
  · exact .inl rfl
  · unfold stepK
    split
    · exact .inl rfl
    · split
      · unfold stepF
        split
        · exact .inl rfl
        · exact .inr ⟨_, rfl⟩
      · exact .inl rfl
def badL (x : Str) : Bool := isNon (stepR x) && !(x.length == 0)
def keepS (ls : List Str) : List A := (ls.map stepR).filter fun a => !isNon a
theorem keepS_snoc (ls : List Str) (x : Str) : keepS (ls ++ [x]) = keepS ls ++ (if isNon (stepR x) = true then [] else [stepR x]) := by
  unfold keepS
  rw [List.map_append, List.filter_append]
  cases h : isNon (stepR x) <;> simp [h]
theorem keepS_len (ls : List Str) : (keepS ls).length ≤ ls.length := by
  unfold keepS
  exact Nat.le_trans (List.length_filter_le _ _) (by rw [List.length_map]; exact Nat.le_refl _)
def rsI (S : Sto) (z : Str) (ls : List Str) (i : Nat) (env : AEnv) (s : Sto) : Prop := (∃ e2 e3 e4, env = [some (.str z), some (.ref S.length), e2, e3, e4]) ∧ (∃ l, s = S ++ AO.lst (keepS (ls.take i)) :: AO.lst (ls.map A.str) :: l) ∧ ∀ x ∈ ls.take i, badL x = false
theorem take_snoc {ls : List Str} {i : Nat} {x : Str} (h : ls[i]? = some x) : ls.take (i + 1) = ls.take i ++ [x] := by
  rw [List.take_succ, h]
  rfl
def RsQ (S : Sto) (ls : List Str) (y : A) (t : Sto) : Prop := (∀ x ∈ ls, badL x = false) ∧ y = .ref S.length ∧ ∃ l, t = S ++ AO.lst (keepS ls) :: l
def RsX (S : Sto) (ls : List Str) (c : Nat) (d : Option Nat) (t : Sto) : Prop := c = 0 ∧ ∃ (i : Nat) (x : Str) (l : Sto), ls[i]? = some x ∧ badL x = true ∧ (∀ y ∈ ls.take i, badL y = false) ∧ t = S ++ l ++ [.xd [(Str.ofString "line", .int ((i : Int) + 1))]] ∧ d = some (S ++ l).length
theorem ev_truS {f : ME} {env : AEnv} {st : Sto} {y : Str} {s : Sto} (h : f env st = .ok (.str y) s) : mTruth f env st = if y.length ≤ 16777216 then .ok ((y.length : Int) != 0) s else .no := by
  unfold mTruth
  rw [h]
  rfl
theorem readSteps_any {S : Sto} {z : Str} (hz : z.length ≤ 1200000) : okE (m_read_steps [.str z] S) (RsQ S (Txt.split z NL)) (RsX S (Txt.split z NL)) := by
  have u1 : z.length + 2 ≤ 16777216 := by omega
  have u2 : (NL.length == 0) = false := by decide +kernel
  have nm : Str.ofString "\n" = NL := rfl
  have hm := split_many z 10
  rw [← nl_is] at hm
  have hin : ∀ x ∈ Txt.split z NL, x.length ≤ 1200000 := fun x hx => by
    have := split_in (z := z) (x := x) (c := 10) (by rw [← nl_is]; exact hx)
    omega
  obtain ⟨ls, hls⟩ : ∃ ls, ls = Txt.split z NL := ⟨_, rfl⟩
  rw [← hls] at hm hin ⊢
  rw [st_read_steps]
  unfold b_read_steps
  simp only [wx_ok, wx_ex, wx_fl, wx_fx, wx_fin, wx_next, wx_then, wx_bind, wx_nox, wx_xK, wx_xB, wx_xS, wx_xF, wx_xT, wx_nn, wx_nr, wx_nb, wx_nc, wx_try, wp_okR, wp_okF, wp_fin, wp_next, wp_then, wp_bind, wp_nox, wp_tK, wp_bK, wp_fr, wp_fn, wp_nn, wp_nr, wp_nb, wp_nc, wp_ln, wp_lc, wp_lb, wp_lr, wp_jn, wp_jc, ev_bok, ev_bno, ev_bex, ev_tok, ev_tno, ev_tex, ev_nnx, ev_nrt, ev_nbk, ev_nct, ev_nex, ev_nno, ev_frt, ev_fnx, ev_fex, ev_xok, ev_lsome, ev_lnone, ev_seq, ev_if, ev_ret, ev_retN, ev_drop, ev_nop, ev_brk, ev_cont, ev_asgN, ev_asgT, ev_asgO, ev_mgTup, ev_mgN, ev_mgC, ev_mg0, ev_putL, ev_putO, ev_var, ev_vr, ev_c, ev_op, ev_un, ev_test, ev_tb, ev_notT, ev_andT, ev_orT, ev_ifE, ev_not, ev_nb, ev_and, ev_andK, ev_or, ev_orK, ev_chain, ev_chK, ev_nil, ev_cons, ev_tup, ev_lst, ev_new, ev_call, ev_cb, ev_size, ev_addI, ev_addS, ev_addT, ev_addL, ev_catO, ev_sub, ev_mul, ev_div, ev_mod, ev_p5, ev_p6, ev_p12, ev_p18, ev_p30, ev_neg, ev_ltI, ev_ltS, ev_leI, ev_leS, ev_gt, ev_ge, ev_eqI, ev_eqS, ev_neI, ev_neS, ev_neB, ev_eqB, ev_is, ev_isnot, ev_ixT, ev_ixS, ev_ixR, ev_ixL, ev_ixK, ev_getL, ev_getM, ev_gL, ev_gM, ev_at0, ev_at1, ev_at2, ev_at3, ev_at4, ev_lenS, ev_lenR, ev_lenT, ev_lenL, ev_lenO, ev_lenD, ev_abs, ev_min2, ev_max2, ev_intI, ev_intB, ev_set, ev_fc, ev_setset, ev_last, ev_appk, ev_app0, ev_setk, ev_set0, ev_assoc, ev_lapp, ev_lappA, ev_sl, ev_nopart, ev_part, ev_ptK, ev_slT, ev_slS, ev_slR, ev_slK, ev_tyN, ev_tyB, ev_tyI, ev_tyS, ev_tyT, ev_tyL, ev_tyR, ev_tyRL, ev_isi, ev_isi1, ev_isi2, ev_isi3, ev_isi4, ev_isi5, ev_isiT, ev_isi2K, ev_isTy, ev_list, ev_listK, ev_tuple, ev_tupK, ev_getST, ev_getSR, ev_getSL, ev_all, ev_allK, ev_eqXI, ev_eqXS, ev_neXI, ev_neXS, ev_neXB, ev_eqXB, ev_eqXR, ev_neXR, ev_nil2, ev_eqK, ev_neK, ev_meth, ev_meth0, ev_mth1, ev_mth2, ev_mth3, ev_append, ev_m0, ev_m0K, ev_str, ev_for, ev_miR1, ev_rg1K, ev_miL, ev_liK, ev_miT, ev_tiK, ev_lc, ev_wipe0, ev_wipeS, ev_yes, ev_lenSet, ev_lenSetK, ev_listR, ev_lrK, ev_put2, ev_p2A, ev_p2K, ev_p2E, ev_put1, ev_pt1, ev_addXI, ev_addXB, ev_addXS, ev_addXT, ev_addXL, ev_subXI, ev_subXB, ev_mulXI, ev_mulXB, ev_mulXL, ev_negXI, ev_negXB, ev_strXI, ev_strXB, ev_mulYI, ev_mulYB, ev_mulYL, ev_mulYT, ev_dnew, ev_dnewT, ev_dgetE, ev_getD, ev_gD, ev_keyI, ev_keyS, ev_dgK, ev_dinE, ev_diK, ev_dputE, ev_dpK, ev_dget2E, ev_isDA, ev_isSome, ev_isNone, ev_dg2K, ev_dpop2E, ev_dp2K, ev_dp3S, ev_dp3N, ev_sortedE, ev_srO1, ev_srO2, ev_gLd, ev_srKS, ev_srKI, ev_gDT, ev_gT, ev_tinE, ev_tiKK, ev_keysA, ev_keysN, ev_keysC, ev_dputTE, ev_dptK, ev_dispE, ev_mpN, ev_mpC, ev_pcK, ev_dsK, ev_dsK2, ev_lc2E, ev_imp, ev_simp, ev_split, ev_splF, ev_splG, ev_fmt, ev_fmtS, ev_fmtI, ev_addK, ev_js0, ev_js1, ev_joined, ev_star, ev_starK, ev_each2, ev_each2K, ev_unl, ev_unlK, ev_intS, ev_strYS, ev_strYI, ev_fldE, ev_getI, ev_gI, ev_fdK, ev_fldS, ev_fpK, ev_mtE, ev_miK, ev_mkE, ev_mkK, ev_callE, ev_tryAs, ev_raise0, ev_raise1, ev_raiseN, ev_revS, ev_revK, ev_zip, ev_enumF, ev_enum, ev_kget, ev_kgK, ev_index, ev_mjoin, ev_joinG, ev_joinK, ev_sbind, ev_miS, ev_siK, ev_truS, List.getElem?_cons_zero, List.getElem?_cons_succ, List.set_cons_zero, List.set_cons_succ, List.length_cons, List.length_nil, List.cons_append, List.nil_append, if_true, if_false, Bool.false_eq_true, Bool.true_eq_false, reduceIte, Bool.not_true, Bool.not_false, Bool.and_true, Bool.true_and, Bool.and_false, Bool.false_and, Bool.or_true, Bool.true_or, Bool.or_false, Bool.false_or, decide_eq_true_eq, Nat.reduceAdd, Nat.reduceLeDiff, Nat.zero_add, Int.reduceLT, Int.reduceLE, Int.reduceEq, Int.reduceNeg, Nat.reduceEqDiff, and_self, and_true, true_and, decide_true, decide_false, eq_self, ite_true, ite_false, Int.reduceSub, Int.reduceAdd, Int.cast_ofNat_Int, Int.natCast_add, Int.cast_ofNat_Int, Nat.reduceSub, Nat.add_assoc, String.reduceBEq, String.reduceEq, Bool.or_not_self, beq_self_eq_true, nm, u1, u2, ← hls]
  rw [if_pos (by decide)]
  simp only [wx_ok, wx_ex, wx_fl, wx_fx, wx_fin, wx_next, wx_then, wx_bind, wx_nox, wx_xK, wx_xB, wx_xS, wx_xF, wx_xT, wx_nn, wx_nr, wx_nb, wx_nc, wx_try, wp_okR, wp_okF, wp_fin, wp_next, wp_then, wp_bind, wp_nox, wp_tK, wp_bK, wp_fr, wp_fn, wp_nn, wp_nr, wp_nb, wp_nc, wp_ln, wp_lc, wp_lb, wp_lr, wp_jn, wp_jc, ev_bok, ev_bno, ev_bex, ev_tok, ev_tno, ev_tex, ev_nnx, ev_nrt, ev_nbk, ev_nct, ev_nex, ev_nno, ev_frt, ev_fnx, ev_fex, ev_xok, ev_lsome, ev_lnone, ev_seq, ev_if, ev_ret, ev_retN, ev_drop, ev_nop, ev_brk, ev_cont, ev_asgN, ev_asgT, ev_asgO, ev_mgTup, ev_mgN, ev_mgC, ev_mg0, ev_putL, ev_putO, ev_var, ev_vr, ev_c, ev_op, ev_un, ev_test, ev_tb, ev_notT, ev_andT, ev_orT, ev_ifE, ev_not, ev_nb, ev_and, ev_andK, ev_or, ev_orK, ev_chain, ev_chK, ev_nil, ev_cons, ev_tup, ev_lst, ev_new, ev_call, ev_cb, ev_size, ev_addI, ev_addS, ev_addT, ev_addL, ev_catO, ev_sub, ev_mul, ev_div, ev_mod, ev_p5, ev_p6, ev_p12, ev_p18, ev_p30, ev_neg, ev_ltI, ev_ltS, ev_leI, ev_leS, ev_gt, ev_ge, ev_eqI, ev_eqS, ev_neI, ev_neS, ev_neB, ev_eqB, ev_is, ev_isnot, ev_ixT, ev_ixS, ev_ixR, ev_ixL, ev_ixK, ev_getL, ev_getM, ev_gL, ev_gM, ev_at0, ev_at1, ev_at2, ev_at3, ev_at4, ev_lenS, ev_lenR, ev_lenT, ev_lenL, ev_lenO, ev_lenD, ev_abs, ev_min2, ev_max2, ev_intI, ev_intB, ev_set, ev_fc, ev_setset, ev_last, ev_appk, ev_app0, ev_setk, ev_set0, ev_assoc, ev_lapp, ev_lappA, ev_sl, ev_nopart, ev_part, ev_ptK, ev_slT, ev_slS, ev_slR, ev_slK, ev_tyN, ev_tyB, ev_tyI, ev_tyS, ev_tyT, ev_tyL, ev_tyR, ev_tyRL, ev_isi, ev_isi1, ev_isi2, ev_isi3, ev_isi4, ev_isi5, ev_isiT, ev_isi2K, ev_isTy, ev_list, ev_listK, ev_tuple, ev_tupK, ev_getST, ev_getSR, ev_getSL, ev_all, ev_allK, ev_eqXI, ev_eqXS, ev_neXI, ev_neXS, ev_neXB, ev_eqXB, ev_eqXR, ev_neXR, ev_nil2, ev_eqK, ev_neK, ev_meth, ev_meth0, ev_mth1, ev_mth2, ev_mth3, ev_append, ev_m0, ev_m0K, ev_str, ev_for, ev_miR1, ev_rg1K, ev_miL, ev_liK, ev_miT, ev_tiK, ev_lc, ev_wipe0, ev_wipeS, ev_yes, ev_lenSet, ev_lenSetK, ev_listR, ev_lrK, ev_put2, ev_p2A, ev_p2K, ev_p2E, ev_put1, ev_pt1, ev_addXI, ev_addXB, ev_addXS, ev_addXT, ev_addXL, ev_subXI, ev_subXB, ev_mulXI, ev_mulXB, ev_mulXL, ev_negXI, ev_negXB, ev_strXI, ev_strXB, ev_mulYI, ev_mulYB, ev_mulYL, ev_mulYT, ev_dnew, ev_dnewT, ev_dgetE, ev_getD, ev_gD, ev_keyI, ev_keyS, ev_dgK, ev_dinE, ev_diK, ev_dputE, ev_dpK, ev_dget2E, ev_isDA, ev_isSome, ev_isNone, ev_dg2K, ev_dpop2E, ev_dp2K, ev_dp3S, ev_dp3N, ev_sortedE, ev_srO1, ev_srO2, ev_gLd, ev_srKS, ev_srKI, ev_gDT, ev_gT, ev_tinE, ev_tiKK, ev_keysA, ev_keysN, ev_keysC, ev_dputTE, ev_dptK, ev_dispE, ev_mpN, ev_mpC, ev_pcK, ev_dsK, ev_dsK2, ev_lc2E, ev_imp, ev_simp, ev_split, ev_splF, ev_splG, ev_fmt, ev_fmtS, ev_fmtI, ev_addK, ev_js0, ev_js1, ev_joined, ev_star, ev_starK, ev_each2, ev_each2K, ev_unl, ev_unlK, ev_intS, ev_strYS, ev_strYI, ev_fldE, ev_getI, ev_gI, ev_fdK, ev_fldS, ev_fpK, ev_mtE, ev_miK, ev_mkE, ev_mkK, ev_callE, ev_tryAs, ev_raise0, ev_raise1, ev_raiseN, ev_revS, ev_revK, ev_zip, ev_enumF, ev_enum, ev_kget, ev_kgK, ev_index, ev_mjoin, ev_joinG, ev_joinK, ev_sbind, ev_miS, ev_siK, ev_truS, List.getElem?_cons_zero, List.getElem?_cons_succ, List.set_cons_zero, List.set_cons_succ, List.length_cons, List.length_nil, List.cons_append, List.nil_append, if_true, if_false, Bool.false_eq_true, Bool.true_eq_false, reduceIte, Bool.not_true, Bool.not_false, Bool.and_true, Bool.true_and, Bool.and_false, Bool.false_and, Bool.or_true, Bool.true_or, Bool.or_false, Bool.false_or, decide_eq_true_eq, Nat.reduceAdd, Nat.reduceLeDiff, Nat.zero_add, Int.reduceLT, Int.reduceLE, Int.reduceEq, Int.reduceNeg, Nat.reduceEqDiff, and_self, and_true, true_and, decide_true, decide_false, eq_self, ite_true, ite_false, Int.reduceSub, Int.reduceAdd, Int.cast_ofNat_Int, Int.natCast_add, Int.cast_ofNat_Int, Nat.reduceSub, Nat.add_assoc, String.reduceBEq, String.reduceEq, Bool.or_not_self, beq_self_eq_true]
  refine forL_wx (rsI S z ls) (j := 0) (fun i env s h => ?_) ⟨⟨_, _, _, rfl⟩, ⟨[], by rw [List.take_zero]; rfl⟩, fun x hx => by rw [List.take_zero] at hx; cases hx⟩ (fun i x env s hx h => ?_) (fun env s h => ?_)
  · obtain ⟨_, ⟨l, rfl⟩, _⟩ := h
    show gL (S ++ AO.lst (keepS (ls.take i)) :: AO.lst (ls.map A.str) :: l)[S.length + 1]? = _
    rw [List.getElem?_append_right (by omega), Nat.add_sub_cancel_left]
    rfl
  · rw [Nat.zero_add] at h ⊢
    rw [enumA_get, List.getElem?_map] at hx
    obtain ⟨a, ha, rfl⟩ := Option.map_eq_some_iff.mp hx
    obtain ⟨y, hy, rfl⟩ := Option.map_eq_some_iff.mp ha
    have hym : y ∈ ls := List.mem_of_getElem? hy
    have hil : i < ls.length := (List.getElem?_eq_some_iff.mp hy).1
    obtain ⟨⟨e2, e3, e4, rfl⟩, ⟨l, rfl⟩, hb⟩ := h
    have ek := keepS_snoc (ls.take i) y
    rw [← take_snoc hy] at ek
    have kl := keepS_len (ls.take i)
    rw [List.length_take] at kl
    have tb2 : ∀ x ∈ ls.take (i + 1), badL y = false → badL x = false := fun x hx h0 => by
      rw [take_snoc hy] at hx
      rcases List.mem_append.mp hx with hx | hx
      · exact hb x hx
      · rw [List.mem_singleton.mp hx]; exact h0
    obtain ⟨acc, hacc⟩ : ∃ acc, acc = keepS (ls.take i) := ⟨_, rfl⟩
    rw [← hacc] at ek kl ⊢
    have al : acc.length < 16777216 := by omega
    have gS : ∀ (a : AO) k, (S ++ a :: k)[S.length]? = some a := fun a k => by
      rw [List.getElem?_append_right (Nat.le_refl _), Nat.sub_self]
      rfl
    have sS : ∀ (a o : AO) k, (S ++ a :: k).set S.length o = S ++ o :: k := fun a o k => by
      rw [List.set_append_right _ _ (Nat.le_refl _), Nat.sub_self]
      rfl
    refine ⟨_, rfl, ?_⟩
    unfold lb_read_steps_1
    simp only [wx_ok, wx_ex, wx_fl, wx_fx, wx_fin, wx_next, wx_then, wx_bind, wx_nox, wx_xK, wx_xB, wx_xS, wx_xF, wx_xT, wx_nn, wx_nr, wx_nb, wx_nc, wx_try, wp_okR, wp_okF, wp_fin, wp_next, wp_then, wp_bind, wp_nox, wp_tK, wp_bK, wp_fr, wp_fn, wp_nn, wp_nr, wp_nb, wp_nc, wp_ln, wp_lc, wp_lb, wp_lr, wp_jn, wp_jc, ev_bok, ev_bno, ev_bex, ev_tok, ev_tno, ev_tex, ev_nnx, ev_nrt, ev_nbk, ev_nct, ev_nex, ev_nno, ev_frt, ev_fnx, ev_fex, ev_xok, ev_lsome, ev_lnone, ev_seq, ev_if, ev_ret, ev_retN, ev_drop, ev_nop, ev_brk, ev_cont, ev_asgN, ev_asgT, ev_asgO, ev_mgTup, ev_mgN, ev_mgC, ev_mg0, ev_putL, ev_putO, ev_var, ev_vr, ev_c, ev_op, ev_un, ev_test, ev_tb, ev_notT, ev_andT, ev_orT, ev_ifE, ev_not, ev_nb, ev_and, ev_andK, ev_or, ev_orK, ev_chain, ev_chK, ev_nil, ev_cons, ev_tup, ev_lst, ev_new, ev_call, ev_cb, ev_size, ev_addI, ev_addS, ev_addT, ev_addL, ev_catO, ev_sub, ev_mul, ev_div, ev_mod, ev_p5, ev_p6, ev_p12, ev_p18, ev_p30, ev_neg, ev_ltI, ev_ltS, ev_leI, ev_leS, ev_gt, ev_ge, ev_eqI, ev_eqS, ev_neI, ev_neS, ev_neB, ev_eqB, ev_is, ev_isnot, ev_ixT, ev_ixS, ev_ixR, ev_ixL, ev_ixK, ev_getL, ev_getM, ev_gL, ev_gM, ev_at0, ev_at1, ev_at2, ev_at3, ev_at4, ev_lenS, ev_lenR, ev_lenT, ev_lenL, ev_lenO, ev_lenD, ev_abs, ev_min2, ev_max2, ev_intI, ev_intB, ev_set, ev_fc, ev_setset, ev_last, ev_appk, ev_app0, ev_setk, ev_set0, ev_assoc, ev_lapp, ev_lappA, ev_sl, ev_nopart, ev_part, ev_ptK, ev_slT, ev_slS, ev_slR, ev_slK, ev_tyN, ev_tyB, ev_tyI, ev_tyS, ev_tyT, ev_tyL, ev_tyR, ev_tyRL, ev_isi, ev_isi1, ev_isi2, ev_isi3, ev_isi4, ev_isi5, ev_isiT, ev_isi2K, ev_isTy, ev_list, ev_listK, ev_tuple, ev_tupK, ev_getST, ev_getSR, ev_getSL, ev_all, ev_allK, ev_eqXI, ev_eqXS, ev_neXI, ev_neXS, ev_neXB, ev_eqXB, ev_eqXR, ev_neXR, ev_nil2, ev_eqK, ev_neK, ev_meth, ev_meth0, ev_mth1, ev_mth2, ev_mth3, ev_append, ev_m0, ev_m0K, ev_str, ev_for, ev_miR1, ev_rg1K, ev_miL, ev_liK, ev_miT, ev_tiK, ev_lc, ev_wipe0, ev_wipeS, ev_yes, ev_lenSet, ev_lenSetK, ev_listR, ev_lrK, ev_put2, ev_p2A, ev_p2K, ev_p2E, ev_put1, ev_pt1, ev_addXI, ev_addXB, ev_addXS, ev_addXT, ev_addXL, ev_subXI, ev_subXB, ev_mulXI, ev_mulXB, ev_mulXL, ev_negXI, ev_negXB, ev_strXI, ev_strXB, ev_mulYI, ev_mulYB, ev_mulYL, ev_mulYT, ev_dnew, ev_dnewT, ev_dgetE, ev_getD, ev_gD, ev_keyI, ev_keyS, ev_dgK, ev_dinE, ev_diK, ev_dputE, ev_dpK, ev_dget2E, ev_isDA, ev_isSome, ev_isNone, ev_dg2K, ev_dpop2E, ev_dp2K, ev_dp3S, ev_dp3N, ev_sortedE, ev_srO1, ev_srO2, ev_gLd, ev_srKS, ev_srKI, ev_gDT, ev_gT, ev_tinE, ev_tiKK, ev_keysA, ev_keysN, ev_keysC, ev_dputTE, ev_dptK, ev_dispE, ev_mpN, ev_mpC, ev_pcK, ev_dsK, ev_dsK2, ev_lc2E, ev_imp, ev_simp, ev_split, ev_splF, ev_splG, ev_fmt, ev_fmtS, ev_fmtI, ev_addK, ev_js0, ev_js1, ev_joined, ev_star, ev_starK, ev_each2, ev_each2K, ev_unl, ev_unlK, ev_intS, ev_strYS, ev_strYI, ev_fldE, ev_getI, ev_gI, ev_fdK, ev_fldS, ev_fpK, ev_mtE, ev_miK, ev_mkE, ev_mkK, ev_callE, ev_tryAs, ev_raise0, ev_raise1, ev_raiseN, ev_revS, ev_revK, ev_zip, ev_enumF, ev_enum, ev_kget, ev_kgK, ev_index, ev_mjoin, ev_joinG, ev_joinK, ev_sbind, ev_miS, ev_siK, ev_truS, List.getElem?_cons_zero, List.getElem?_cons_succ, List.set_cons_zero, List.set_cons_succ, List.length_cons, List.length_nil, List.cons_append, List.nil_append, if_true, if_false, Bool.false_eq_true, Bool.true_eq_false, reduceIte, Bool.not_true, Bool.not_false, Bool.and_true, Bool.true_and, Bool.and_false, Bool.false_and, Bool.or_true, Bool.true_or, Bool.or_false, Bool.false_or, decide_eq_true_eq, Nat.reduceAdd, Nat.reduceLeDiff, Nat.zero_add, Int.reduceLT, Int.reduceLE, Int.reduceEq, Int.reduceNeg, Nat.reduceEqDiff, and_self, and_true, true_and, decide_true, decide_false, eq_self, ite_true, ite_false, Int.reduceSub, Int.reduceAdd, Int.cast_ofNat_Int, Int.natCast_add, Int.cast_ofNat_Int, Nat.reduceSub, Nat.add_assoc, String.reduceBEq, String.reduceEq, Bool.or_not_self, beq_self_eq_true]
    refine okR_use (step_any (hin y hym)) fun a s1 h => ?_
    obtain ⟨rfl, l1, rfl⟩ := h
    rcases stepR_or y with e | ⟨xs, e⟩
    · have n1 : isNon A.non = true := rfl
      rw [e] at ek ⊢
      have yl : y.length ≤ 16777216 := by have := hin y hym; omega
      cases hy0 : ((y.length : Int) != 0)
      · simp only [wx_ok, wx_ex, wx_fl, wx_fx, wx_fin, wx_next, wx_then, wx_bind, wx_nox, wx_xK, wx_xB, wx_xS, wx_xF, wx_xT, wx_nn, wx_nr, wx_nb, wx_nc, wx_try, wp_okR, wp_okF, wp_fin, wp_next, wp_then, wp_bind, wp_nox, wp_tK, wp_bK, wp_fr, wp_fn, wp_nn, wp_nr, wp_nb, wp_nc, wp_ln, wp_lc, wp_lb, wp_lr, wp_jn, wp_jc, ev_bok, ev_bno, ev_bex, ev_tok, ev_tno, ev_tex, ev_nnx, ev_nrt, ev_nbk, ev_nct, ev_nex, ev_nno, ev_frt, ev_fnx, ev_fex, ev_xok, ev_lsome, ev_lnone, ev_seq, ev_if, ev_ret, ev_retN, ev_drop, ev_nop, ev_brk, ev_cont, ev_asgN, ev_asgT, ev_asgO, ev_mgTup, ev_mgN, ev_mgC, ev_mg0, ev_putL, ev_putO, ev_var, ev_vr, ev_c, ev_op, ev_un, ev_test, ev_tb, ev_notT, ev_andT, ev_orT, ev_ifE, ev_not, ev_nb, ev_and, ev_andK, ev_or, ev_orK, ev_chain, ev_chK, ev_nil, ev_cons, ev_tup, ev_lst, ev_new, ev_call, ev_cb, ev_size, ev_addI, ev_addS, ev_addT, ev_addL, ev_catO, ev_sub, ev_mul, ev_div, ev_mod, ev_p5, ev_p6, ev_p12, ev_p18, ev_p30, ev_neg, ev_ltI, ev_ltS, ev_leI, ev_leS, ev_gt, ev_ge, ev_eqI, ev_eqS, ev_neI, ev_neS, ev_neB, ev_eqB, ev_is, ev_isnot, ev_ixT, ev_ixS, ev_ixR, ev_ixL, ev_ixK, ev_getL, ev_getM, ev_gL, ev_gM, ev_at0, ev_at1, ev_at2, ev_at3, ev_at4, ev_lenS, ev_lenR, ev_lenT, ev_lenL, ev_lenO, ev_lenD, ev_abs, ev_min2, ev_max2, ev_intI, ev_intB, ev_set, ev_fc, ev_setset, ev_last, ev_appk, ev_app0, ev_setk, ev_set0, ev_assoc, ev_lapp, ev_lappA, ev_sl, ev_nopart, ev_part, ev_ptK, ev_slT, ev_slS, ev_slR, ev_slK, ev_tyN, ev_tyB, ev_tyI, ev_tyS, ev_tyT, ev_tyL, ev_tyR, ev_tyRL, ev_isi, ev_isi1, ev_isi2, ev_isi3, ev_isi4, ev_isi5, ev_isiT, ev_isi2K, ev_isTy, ev_list, ev_listK, ev_tuple, ev_tupK, ev_getST, ev_getSR, ev_getSL, ev_all, ev_allK, ev_eqXI, ev_eqXS, ev_neXI, ev_neXS, ev_neXB, ev_eqXB, ev_eqXR, ev_neXR, ev_nil2, ev_eqK, ev_neK, ev_meth, ev_meth0, ev_mth1, ev_mth2, ev_mth3, ev_append, ev_m0, ev_m0K, ev_str, ev_for, ev_miR1, ev_rg1K, ev_miL, ev_liK, ev_miT, ev_tiK, ev_lc, ev_wipe0, ev_wipeS, ev_yes, ev_lenSet, ev_lenSetK, ev_listR, ev_lrK, ev_put2, ev_p2A, ev_p2K, ev_p2E, ev_put1, ev_pt1, ev_addXI, ev_addXB, ev_addXS, ev_addXT, ev_addXL, ev_subXI, ev_subXB, ev_mulXI, ev_mulXB, ev_mulXL, ev_negXI, ev_negXB, ev_strXI, ev_strXB, ev_mulYI, ev_mulYB, ev_mulYL, ev_mulYT, ev_dnew, ev_dnewT, ev_dgetE, ev_getD, ev_gD, ev_keyI, ev_keyS, ev_dgK, ev_dinE, ev_diK, ev_dputE, ev_dpK, ev_dget2E, ev_isDA, ev_isSome, ev_isNone, ev_dg2K, ev_dpop2E, ev_dp2K, ev_dp3S, ev_dp3N, ev_sortedE, ev_srO1, ev_srO2, ev_gLd, ev_srKS, ev_srKI, ev_gDT, ev_gT, ev_tinE, ev_tiKK, ev_keysA, ev_keysN, ev_keysC, ev_dputTE, ev_dptK, ev_dispE, ev_mpN, ev_mpC, ev_pcK, ev_dsK, ev_dsK2, ev_lc2E, ev_imp, ev_simp, ev_split, ev_splF, ev_splG, ev_fmt, ev_fmtS, ev_fmtI, ev_addK, ev_js0, ev_js1, ev_joined, ev_star, ev_starK, ev_each2, ev_each2K, ev_unl, ev_unlK, ev_intS, ev_strYS, ev_strYI, ev_fldE, ev_getI, ev_gI, ev_fdK, ev_fldS, ev_fpK, ev_mtE, ev_miK, ev_mkE, ev_mkK, ev_callE, ev_tryAs, ev_raise0, ev_raise1, ev_raiseN, ev_revS, ev_revK, ev_zip, ev_enumF, ev_enum, ev_kget, ev_kgK, ev_index, ev_mjoin, ev_joinG, ev_joinK, ev_sbind, ev_miS, ev_siK, ev_truS, List.getElem?_cons_zero, List.getElem?_cons_succ, List.set_cons_zero, List.set_cons_succ, List.length_cons, List.length_nil, List.cons_append, List.nil_append, if_true, if_false, Bool.false_eq_true, Bool.true_eq_false, reduceIte, Bool.not_true, Bool.not_false, Bool.and_true, Bool.true_and, Bool.and_false, Bool.false_and, Bool.or_true, Bool.true_or, Bool.or_false, Bool.false_or, decide_eq_true_eq, Nat.reduceAdd, Nat.reduceLeDiff, Nat.zero_add, Int.reduceLT, Int.reduceLE, Int.reduceEq, Int.reduceNeg, Nat.reduceEqDiff, and_self, and_true, true_and, decide_true, decide_false, eq_self, ite_true, ite_false, Int.reduceSub, Int.reduceAdd, Int.cast_ofNat_Int, Int.natCast_add, Int.cast_ofNat_Int, Nat.reduceSub, Nat.add_assoc, String.reduceBEq, String.reduceEq, Bool.or_not_self, beq_self_eq_true, n1]
        rw [ev_truS (y := y) rfl]
        simp only [wx_ok, wx_ex, wx_fl, wx_fx, wx_fin, wx_next, wx_then, wx_bind, wx_nox, wx_xK, wx_xB, wx_xS, wx_xF, wx_xT, wx_nn, wx_nr, wx_nb, wx_nc, wx_try, wp_okR, wp_okF, wp_fin, wp_next, wp_then, wp_bind, wp_nox, wp_tK, wp_bK, wp_fr, wp_fn, wp_nn, wp_nr, wp_nb, wp_nc, wp_ln, wp_lc, wp_lb, wp_lr, wp_jn, wp_jc, ev_bok, ev_bno, ev_bex, ev_tok, ev_tno, ev_tex, ev_nnx, ev_nrt, ev_nbk, ev_nct, ev_nex, ev_nno, ev_frt, ev_fnx, ev_fex, ev_xok, ev_lsome, ev_lnone, ev_seq, ev_if, ev_ret, ev_retN, ev_drop, ev_nop, ev_brk, ev_cont, ev_asgN, ev_asgT, ev_asgO, ev_mgTup, ev_mgN, ev_mgC, ev_mg0, ev_putL, ev_putO, ev_var, ev_vr, ev_c, ev_op, ev_un, ev_test, ev_tb, ev_notT, ev_andT, ev_orT, ev_ifE, ev_not, ev_nb, ev_and, ev_andK, ev_or, ev_orK, ev_chain, ev_chK, ev_nil, ev_cons, ev_tup, ev_lst, ev_new, ev_call, ev_cb, ev_size, ev_addI, ev_addS, ev_addT, ev_addL, ev_catO, ev_sub, ev_mul, ev_div, ev_mod, ev_p5, ev_p6, ev_p12, ev_p18, ev_p30, ev_neg, ev_ltI, ev_ltS, ev_leI, ev_leS, ev_gt, ev_ge, ev_eqI, ev_eqS, ev_neI, ev_neS, ev_neB, ev_eqB, ev_is, ev_isnot, ev_ixT, ev_ixS, ev_ixR, ev_ixL, ev_ixK, ev_getL, ev_getM, ev_gL, ev_gM, ev_at0, ev_at1, ev_at2, ev_at3, ev_at4, ev_lenS, ev_lenR, ev_lenT, ev_lenL, ev_lenO, ev_lenD, ev_abs, ev_min2, ev_max2, ev_intI, ev_intB, ev_set, ev_fc, ev_setset, ev_last, ev_appk, ev_app0, ev_setk, ev_set0, ev_assoc, ev_lapp, ev_lappA, ev_sl, ev_nopart, ev_part, ev_ptK, ev_slT, ev_slS, ev_slR, ev_slK, ev_tyN, ev_tyB, ev_tyI, ev_tyS, ev_tyT, ev_tyL, ev_tyR, ev_tyRL, ev_isi, ev_isi1, ev_isi2, ev_isi3, ev_isi4, ev_isi5, ev_isiT, ev_isi2K, ev_isTy, ev_list, ev_listK, ev_tuple, ev_tupK, ev_getST, ev_getSR, ev_getSL, ev_all, ev_allK, ev_eqXI, ev_eqXS, ev_neXI, ev_neXS, ev_neXB, ev_eqXB, ev_eqXR, ev_neXR, ev_nil2, ev_eqK, ev_neK, ev_meth, ev_meth0, ev_mth1, ev_mth2, ev_mth3, ev_append, ev_m0, ev_m0K, ev_str, ev_for, ev_miR1, ev_rg1K, ev_miL, ev_liK, ev_miT, ev_tiK, ev_lc, ev_wipe0, ev_wipeS, ev_yes, ev_lenSet, ev_lenSetK, ev_listR, ev_lrK, ev_put2, ev_p2A, ev_p2K, ev_p2E, ev_put1, ev_pt1, ev_addXI, ev_addXB, ev_addXS, ev_addXT, ev_addXL, ev_subXI, ev_subXB, ev_mulXI, ev_mulXB, ev_mulXL, ev_negXI, ev_negXB, ev_strXI, ev_strXB, ev_mulYI, ev_mulYB, ev_mulYL, ev_mulYT, ev_dnew, ev_dnewT, ev_dgetE, ev_getD, ev_gD, ev_keyI, ev_keyS, ev_dgK, ev_dinE, ev_diK, ev_dputE, ev_dpK, ev_dget2E, ev_isDA, ev_isSome, ev_isNone, ev_dg2K, ev_dpop2E, ev_dp2K, ev_dp3S, ev_dp3N, ev_sortedE, ev_srO1, ev_srO2, ev_gLd, ev_srKS, ev_srKI, ev_gDT, ev_gT, ev_tinE, ev_tiKK, ev_keysA, ev_keysN, ev_keysC, ev_dputTE, ev_dptK, ev_dispE, ev_mpN, ev_mpC, ev_pcK, ev_dsK, ev_dsK2, ev_lc2E, ev_imp, ev_simp, ev_split, ev_splF, ev_splG, ev_fmt, ev_fmtS, ev_fmtI, ev_addK, ev_js0, ev_js1, ev_joined, ev_star, ev_starK, ev_each2, ev_each2K, ev_unl, ev_unlK, ev_intS, ev_strYS, ev_strYI, ev_fldE, ev_getI, ev_gI, ev_fdK, ev_fldS, ev_fpK, ev_mtE, ev_miK, ev_mkE, ev_mkK, ev_callE, ev_tryAs, ev_raise0, ev_raise1, ev_raiseN, ev_revS, ev_revK, ev_zip, ev_enumF, ev_enum, ev_kget, ev_kgK, ev_index, ev_mjoin, ev_joinG, ev_joinK, ev_sbind, ev_miS, ev_siK, ev_truS, List.getElem?_cons_zero, List.getElem?_cons_succ, List.set_cons_zero, List.set_cons_succ, List.length_cons, List.length_nil, List.cons_append, List.nil_append, if_true, if_false, Bool.false_eq_true, Bool.true_eq_false, reduceIte, Bool.not_true, Bool.not_false, Bool.and_true, Bool.true_and, Bool.and_false, Bool.false_and, Bool.or_true, Bool.true_or, Bool.or_false, Bool.false_or, decide_eq_true_eq, Nat.reduceAdd, Nat.reduceLeDiff, Nat.zero_add, Int.reduceLT, Int.reduceLE, Int.reduceEq, Int.reduceNeg, Nat.reduceEqDiff, and_self, and_true, true_and, decide_true, decide_false, eq_self, ite_true, ite_false, Int.reduceSub, Int.reduceAdd, Int.cast_ofNat_Int, Int.natCast_add, Int.cast_ofNat_Int, Nat.reduceSub, Nat.add_assoc, String.reduceBEq, String.reduceEq, Bool.or_not_self, beq_self_eq_true, yl, hy0]
        refine ⟨⟨_, _, _, rfl⟩, ⟨l ++ l1, ?_⟩, fun x hx => tb2 x hx ?_⟩
        · rw [ek, n1]
          simp
        · unfold badL
          have y0 : y.length = 0 := by
            have := bne_eq_false_iff_eq.mp hy0
            omega
          rw [y0]
          simp
      · simp only [wx_ok, wx_ex, wx_fl, wx_fx, wx_fin, wx_next, wx_then, wx_bind, wx_nox, wx_xK, wx_xB, wx_xS, wx_xF, wx_xT, wx_nn, wx_nr, wx_nb, wx_nc, wx_try, wp_okR, wp_okF, wp_fin, wp_next, wp_then, wp_bind, wp_nox, wp_tK, wp_bK, wp_fr, wp_fn, wp_nn, wp_nr, wp_nb, wp_nc, wp_ln, wp_lc, wp_lb, wp_lr, wp_jn, wp_jc, ev_bok, ev_bno, ev_bex, ev_tok, ev_tno, ev_tex, ev_nnx, ev_nrt, ev_nbk, ev_nct, ev_nex, ev_nno, ev_frt, ev_fnx, ev_fex, ev_xok, ev_lsome, ev_lnone, ev_seq, ev_if, ev_ret, ev_retN, ev_drop, ev_nop, ev_brk, ev_cont, ev_asgN, ev_asgT, ev_asgO, ev_mgTup, ev_mgN, ev_mgC, ev_mg0, ev_putL, ev_putO, ev_var, ev_vr, ev_c, ev_op, ev_un, ev_test, ev_tb, ev_notT, ev_andT, ev_orT, ev_ifE, ev_not, ev_nb, ev_and, ev_andK, ev_or, ev_orK, ev_chain, ev_chK, ev_nil, ev_cons, ev_tup, ev_lst, ev_new, ev_call, ev_cb, ev_size, ev_addI, ev_addS, ev_addT, ev_addL, ev_catO, ev_sub, ev_mul, ev_div, ev_mod, ev_p5, ev_p6, ev_p12, ev_p18, ev_p30, ev_neg, ev_ltI, ev_ltS, ev_leI, ev_leS, ev_gt, ev_ge, ev_eqI, ev_eqS, ev_neI, ev_neS, ev_neB, ev_eqB, ev_is, ev_isnot, ev_ixT, ev_ixS, ev_ixR, ev_ixL, ev_ixK, ev_getL, ev_getM, ev_gL, ev_gM, ev_at0, ev_at1, ev_at2, ev_at3, ev_at4, ev_lenS, ev_lenR, ev_lenT, ev_lenL, ev_lenO, ev_lenD, ev_abs, ev_min2, ev_max2, ev_intI, ev_intB, ev_set, ev_fc, ev_setset, ev_last, ev_appk, ev_app0, ev_setk, ev_set0, ev_assoc, ev_lapp, ev_lappA, ev_sl, ev_nopart, ev_part, ev_ptK, ev_slT, ev_slS, ev_slR, ev_slK, ev_tyN, ev_tyB, ev_tyI, ev_tyS, ev_tyT, ev_tyL, ev_tyR, ev_tyRL, ev_isi, ev_isi1, ev_isi2, ev_isi3, ev_isi4, ev_isi5, ev_isiT, ev_isi2K, ev_isTy, ev_list, ev_listK, ev_tuple, ev_tupK, ev_getST, ev_getSR, ev_getSL, ev_all, ev_allK, ev_eqXI, ev_eqXS, ev_neXI, ev_neXS, ev_neXB, ev_eqXB, ev_eqXR, ev_neXR, ev_nil2, ev_eqK, ev_neK, ev_meth, ev_meth0, ev_mth1, ev_mth2, ev_mth3, ev_append, ev_m0, ev_m0K, ev_str, ev_for, ev_miR1, ev_rg1K, ev_miL, ev_liK, ev_miT, ev_tiK, ev_lc, ev_wipe0, ev_wipeS, ev_yes, ev_lenSet, ev_lenSetK, ev_listR, ev_lrK, ev_put2, ev_p2A, ev_p2K, ev_p2E, ev_put1, ev_pt1, ev_addXI, ev_addXB, ev_addXS, ev_addXT, ev_addXL, ev_subXI, ev_subXB, ev_mulXI, ev_mulXB, ev_mulXL, ev_negXI, ev_negXB, ev_strXI, ev_strXB, ev_mulYI, ev_mulYB, ev_mulYL, ev_mulYT, ev_dnew, ev_dnewT, ev_dgetE, ev_getD, ev_gD, ev_keyI, ev_keyS, ev_dgK, ev_dinE, ev_diK, ev_dputE, ev_dpK, ev_dget2E, ev_isDA, ev_isSome, ev_isNone, ev_dg2K, ev_dpop2E, ev_dp2K, ev_dp3S, ev_dp3N, ev_sortedE, ev_srO1, ev_srO2, ev_gLd, ev_srKS, ev_srKI, ev_gDT, ev_gT, ev_tinE, ev_tiKK, ev_keysA, ev_keysN, ev_keysC, ev_dputTE, ev_dptK, ev_dispE, ev_mpN, ev_mpC, ev_pcK, ev_dsK, ev_dsK2, ev_lc2E, ev_imp, ev_simp, ev_split, ev_splF, ev_splG, ev_fmt, ev_fmtS, ev_fmtI, ev_addK, ev_js0, ev_js1, ev_joined, ev_star, ev_starK, ev_each2, ev_each2K, ev_unl, ev_unlK, ev_intS, ev_strYS, ev_strYI, ev_fldE, ev_getI, ev_gI, ev_fdK, ev_fldS, ev_fpK, ev_mtE, ev_miK, ev_mkE, ev_mkK, ev_callE, ev_tryAs, ev_raise0, ev_raise1, ev_raiseN, ev_revS, ev_revK, ev_zip, ev_enumF, ev_enum, ev_kget, ev_kgK, ev_index, ev_mjoin, ev_joinG, ev_joinK, ev_sbind, ev_miS, ev_siK, ev_truS, List.getElem?_cons_zero, List.getElem?_cons_succ, List.set_cons_zero, List.set_cons_succ, List.length_cons, List.length_nil, List.cons_append, List.nil_append, if_true, if_false, Bool.false_eq_true, Bool.true_eq_false, reduceIte, Bool.not_true, Bool.not_false, Bool.and_true, Bool.true_and, Bool.and_false, Bool.false_and, Bool.or_true, Bool.true_or, Bool.or_false, Bool.false_or, decide_eq_true_eq, Nat.reduceAdd, Nat.reduceLeDiff, Nat.zero_add, Int.reduceLT, Int.reduceLE, Int.reduceEq, Int.reduceNeg, Nat.reduceEqDiff, and_self, and_true, true_and, decide_true, decide_false, eq_self, ite_true, ite_false, Int.reduceSub, Int.reduceAdd, Int.cast_ofNat_Int, Int.natCast_add, Int.cast_ofNat_Int, Nat.reduceSub, Nat.add_assoc, String.reduceBEq, String.reduceEq, Bool.or_not_self, beq_self_eq_true, n1]
        rw [ev_truS (y := y) rfl]
        simp only [wx_ok, wx_ex, wx_fl, wx_fx, wx_fin, wx_next, wx_then, wx_bind, wx_nox, wx_xK, wx_xB, wx_xS, wx_xF, wx_xT, wx_nn, wx_nr, wx_nb, wx_nc, wx_try, wp_okR, wp_okF, wp_fin, wp_next, wp_then, wp_bind, wp_nox, wp_tK, wp_bK, wp_fr, wp_fn, wp_nn, wp_nr, wp_nb, wp_nc, wp_ln, wp_lc, wp_lb, wp_lr, wp_jn, wp_jc, ev_bok, ev_bno, ev_bex, ev_tok, ev_tno, ev_tex, ev_nnx, ev_nrt, ev_nbk, ev_nct, ev_nex, ev_nno, ev_frt, ev_fnx, ev_fex, ev_xok, ev_lsome, ev_lnone, ev_seq, ev_if, ev_ret, ev_retN, ev_drop, ev_nop, ev_brk, ev_cont, ev_asgN, ev_asgT, ev_asgO, ev_mgTup, ev_mgN, ev_mgC, ev_mg0, ev_putL, ev_putO, ev_var, ev_vr, ev_c, ev_op, ev_un, ev_test, ev_tb, ev_notT, ev_andT, ev_orT, ev_ifE, ev_not, ev_nb, ev_and, ev_andK, ev_or, ev_orK, ev_chain, ev_chK, ev_nil, ev_cons, ev_tup, ev_lst, ev_new, ev_call, ev_cb, ev_size, ev_addI, ev_addS, ev_addT, ev_addL, ev_catO, ev_sub, ev_mul, ev_div, ev_mod, ev_p5, ev_p6, ev_p12, ev_p18, ev_p30, ev_neg, ev_ltI, ev_ltS, ev_leI, ev_leS, ev_gt, ev_ge, ev_eqI, ev_eqS, ev_neI, ev_neS, ev_neB, ev_eqB, ev_is, ev_isnot, ev_ixT, ev_ixS, ev_ixR, ev_ixL, ev_ixK, ev_getL, ev_getM, ev_gL, ev_gM, ev_at0, ev_at1, ev_at2, ev_at3, ev_at4, ev_lenS, ev_lenR, ev_lenT, ev_lenL, ev_lenO, ev_lenD, ev_abs, ev_min2, ev_max2, ev_intI, ev_intB, ev_set, ev_fc, ev_setset, ev_last, ev_appk, ev_app0, ev_setk, ev_set0, ev_assoc, ev_lapp, ev_lappA, ev_sl, ev_nopart, ev_part, ev_ptK, ev_slT, ev_slS, ev_slR, ev_slK, ev_tyN, ev_tyB, ev_tyI, ev_tyS, ev_tyT, ev_tyL, ev_tyR, ev_tyRL, ev_isi, ev_isi1, ev_isi2, ev_isi3, ev_isi4, ev_isi5, ev_isiT, ev_isi2K, ev_isTy, ev_list, ev_listK, ev_tuple, ev_tupK, ev_getST, ev_getSR, ev_getSL, ev_all, ev_allK, ev_eqXI, ev_eqXS, ev_neXI, ev_neXS, ev_neXB, ev_eqXB, ev_eqXR, ev_neXR, ev_nil2, ev_eqK, ev_neK, ev_meth, ev_meth0, ev_mth1, ev_mth2, ev_mth3, ev_append, ev_m0, ev_m0K, ev_str, ev_for, ev_miR1, ev_rg1K, ev_miL, ev_liK, ev_miT, ev_tiK, ev_lc, ev_wipe0, ev_wipeS, ev_yes, ev_lenSet, ev_lenSetK, ev_listR, ev_lrK, ev_put2, ev_p2A, ev_p2K, ev_p2E, ev_put1, ev_pt1, ev_addXI, ev_addXB, ev_addXS, ev_addXT, ev_addXL, ev_subXI, ev_subXB, ev_mulXI, ev_mulXB, ev_mulXL, ev_negXI, ev_negXB, ev_strXI, ev_strXB, ev_mulYI, ev_mulYB, ev_mulYL, ev_mulYT, ev_dnew, ev_dnewT, ev_dgetE, ev_getD, ev_gD, ev_keyI, ev_keyS, ev_dgK, ev_dinE, ev_diK, ev_dputE, ev_dpK, ev_dget2E, ev_isDA, ev_isSome, ev_isNone, ev_dg2K, ev_dpop2E, ev_dp2K, ev_dp3S, ev_dp3N, ev_sortedE, ev_srO1, ev_srO2, ev_gLd, ev_srKS, ev_srKI, ev_gDT, ev_gT, ev_tinE, ev_tiKK, ev_keysA, ev_keysN, ev_keysC, ev_dputTE, ev_dptK, ev_dispE, ev_mpN, ev_mpC, ev_pcK, ev_dsK, ev_dsK2, ev_lc2E, ev_imp, ev_simp, ev_split, ev_splF, ev_splG, ev_fmt, ev_fmtS, ev_fmtI, ev_addK, ev_js0, ev_js1, ev_joined, ev_star, ev_starK, ev_each2, ev_each2K, ev_unl, ev_unlK, ev_intS, ev_strYS, ev_strYI, ev_fldE, ev_getI, ev_gI, ev_fdK, ev_fldS, ev_fpK, ev_mtE, ev_miK, ev_mkE, ev_mkK, ev_callE, ev_tryAs, ev_raise0, ev_raise1, ev_raiseN, ev_revS, ev_revK, ev_zip, ev_enumF, ev_enum, ev_kget, ev_kgK, ev_index, ev_mjoin, ev_joinG, ev_joinK, ev_sbind, ev_miS, ev_siK, ev_truS, List.getElem?_cons_zero, List.getElem?_cons_succ, List.set_cons_zero, List.set_cons_succ, List.length_cons, List.length_nil, List.cons_append, List.nil_append, if_true, if_false, Bool.false_eq_true, Bool.true_eq_false, reduceIte, Bool.not_true, Bool.not_false, Bool.and_true, Bool.true_and, Bool.and_false, Bool.false_and, Bool.or_true, Bool.true_or, Bool.or_false, Bool.false_or, decide_eq_true_eq, Nat.reduceAdd, Nat.reduceLeDiff, Nat.zero_add, Int.reduceLT, Int.reduceLE, Int.reduceEq, Int.reduceNeg, Nat.reduceEqDiff, and_self, and_true, true_and, decide_true, decide_false, eq_self, ite_true, ite_false, Int.reduceSub, Int.reduceAdd, Int.cast_ofNat_Int, Int.natCast_add, Int.cast_ofNat_Int, Nat.reduceSub, Nat.add_assoc, String.reduceBEq, String.reduceEq, Bool.or_not_self, beq_self_eq_true, yl, hy0]
        refine ⟨rfl, i, y, AO.lst acc :: AO.lst (List.map A.str ls) :: (l ++ l1), hy, ?_, hb, ?_, ?_⟩
        · unfold badL
          have y0 : y.length ≠ 0 := by
            have := bne_iff_ne.mp hy0
            omega
          rw [e, beq_false_of_ne y0]
          rfl
        · rw [show (1 : Int) + (i : Int) = (i : Int) + 1 by omega]
          simp
        · congr 1
          simp
          omega
    · have n1 : isNon (A.tup xs) = false := rfl
      rw [e] at ek ⊢
      simp only [wx_ok, wx_ex, wx_fl, wx_fx, wx_fin, wx_next, wx_then, wx_bind, wx_nox, wx_xK, wx_xB, wx_xS, wx_xF, wx_xT, wx_nn, wx_nr, wx_nb, wx_nc, wx_try, wp_okR, wp_okF, wp_fin, wp_next, wp_then, wp_bind, wp_nox, wp_tK, wp_bK, wp_fr, wp_fn, wp_nn, wp_nr, wp_nb, wp_nc, wp_ln, wp_lc, wp_lb, wp_lr, wp_jn, wp_jc, ev_bok, ev_bno, ev_bex, ev_tok, ev_tno, ev_tex, ev_nnx, ev_nrt, ev_nbk, ev_nct, ev_nex, ev_nno, ev_frt, ev_fnx, ev_fex, ev_xok, ev_lsome, ev_lnone, ev_seq, ev_if, ev_ret, ev_retN, ev_drop, ev_nop, ev_brk, ev_cont, ev_asgN, ev_asgT, ev_asgO, ev_mgTup, ev_mgN, ev_mgC, ev_mg0, ev_putL, ev_putO, ev_var, ev_vr, ev_c, ev_op, ev_un, ev_test, ev_tb, ev_notT, ev_andT, ev_orT, ev_ifE, ev_not, ev_nb, ev_and, ev_andK, ev_or, ev_orK, ev_chain, ev_chK, ev_nil, ev_cons, ev_tup, ev_lst, ev_new, ev_call, ev_cb, ev_size, ev_addI, ev_addS, ev_addT, ev_addL, ev_catO, ev_sub, ev_mul, ev_div, ev_mod, ev_p5, ev_p6, ev_p12, ev_p18, ev_p30, ev_neg, ev_ltI, ev_ltS, ev_leI, ev_leS, ev_gt, ev_ge, ev_eqI, ev_eqS, ev_neI, ev_neS, ev_neB, ev_eqB, ev_is, ev_isnot, ev_ixT, ev_ixS, ev_ixR, ev_ixL, ev_ixK, ev_getL, ev_getM, ev_gL, ev_gM, ev_at0, ev_at1, ev_at2, ev_at3, ev_at4, ev_lenS, ev_lenR, ev_lenT, ev_lenL, ev_lenO, ev_lenD, ev_abs, ev_min2, ev_max2, ev_intI, ev_intB, ev_set, ev_fc, ev_setset, ev_last, ev_appk, ev_app0, ev_setk, ev_set0, ev_assoc, ev_lapp, ev_lappA, ev_sl, ev_nopart, ev_part, ev_ptK, ev_slT, ev_slS, ev_slR, ev_slK, ev_tyN, ev_tyB, ev_tyI, ev_tyS, ev_tyT, ev_tyL, ev_tyR, ev_tyRL, ev_isi, ev_isi1, ev_isi2, ev_isi3, ev_isi4, ev_isi5, ev_isiT, ev_isi2K, ev_isTy, ev_list, ev_listK, ev_tuple, ev_tupK, ev_getST, ev_getSR, ev_getSL, ev_all, ev_allK, ev_eqXI, ev_eqXS, ev_neXI, ev_neXS, ev_neXB, ev_eqXB, ev_eqXR, ev_neXR, ev_nil2, ev_eqK, ev_neK, ev_meth, ev_meth0, ev_mth1, ev_mth2, ev_mth3, ev_append, ev_m0, ev_m0K, ev_str, ev_for, ev_miR1, ev_rg1K, ev_miL, ev_liK, ev_miT, ev_tiK, ev_lc, ev_wipe0, ev_wipeS, ev_yes, ev_lenSet, ev_lenSetK, ev_listR, ev_lrK, ev_put2, ev_p2A, ev_p2K, ev_p2E, ev_put1, ev_pt1, ev_addXI, ev_addXB, ev_addXS, ev_addXT, ev_addXL, ev_subXI, ev_subXB, ev_mulXI, ev_mulXB, ev_mulXL, ev_negXI, ev_negXB, ev_strXI, ev_strXB, ev_mulYI, ev_mulYB, ev_mulYL, ev_mulYT, ev_dnew, ev_dnewT, ev_dgetE, ev_getD, ev_gD, ev_keyI, ev_keyS, ev_dgK, ev_dinE, ev_diK, ev_dputE, ev_dpK, ev_dget2E, ev_isDA, ev_isSome, ev_isNone, ev_dg2K, ev_dpop2E, ev_dp2K, ev_dp3S, ev_dp3N, ev_sortedE, ev_srO1, ev_srO2, ev_gLd, ev_srKS, ev_srKI, ev_gDT, ev_gT, ev_tinE, ev_tiKK, ev_keysA, ev_keysN, ev_keysC, ev_dputTE, ev_dptK, ev_dispE, ev_mpN, ev_mpC, ev_pcK, ev_dsK, ev_dsK2, ev_lc2E, ev_imp, ev_simp, ev_split, ev_splF, ev_splG, ev_fmt, ev_fmtS, ev_fmtI, ev_addK, ev_js0, ev_js1, ev_joined, ev_star, ev_starK, ev_each2, ev_each2K, ev_unl, ev_unlK, ev_intS, ev_strYS, ev_strYI, ev_fldE, ev_getI, ev_gI, ev_fdK, ev_fldS, ev_fpK, ev_mtE, ev_miK, ev_mkE, ev_mkK, ev_callE, ev_tryAs, ev_raise0, ev_raise1, ev_raiseN, ev_revS, ev_revK, ev_zip, ev_enumF, ev_enum, ev_kget, ev_kgK, ev_index, ev_mjoin, ev_joinG, ev_joinK, ev_sbind, ev_miS, ev_siK, ev_truS, List.getElem?_cons_zero, List.getElem?_cons_succ, List.set_cons_zero, List.set_cons_succ, List.length_cons, List.length_nil, List.cons_append, List.nil_append, if_true, if_false, Bool.false_eq_true, Bool.true_eq_false, reduceIte, Bool.not_true, Bool.not_false, Bool.and_true, Bool.true_and, Bool.and_false, Bool.false_and, Bool.or_true, Bool.true_or, Bool.or_false, Bool.false_or, decide_eq_true_eq, Nat.reduceAdd, Nat.reduceLeDiff, Nat.zero_add, Int.reduceLT, Int.reduceLE, Int.reduceEq, Int.reduceNeg, Nat.reduceEqDiff, and_self, and_true, true_and, decide_true, decide_false, eq_self, ite_true, ite_false, Int.reduceSub, Int.reduceAdd, Int.cast_ofNat_Int, Int.natCast_add, Int.cast_ofNat_Int, Nat.reduceSub, Nat.add_assoc, String.reduceBEq, String.reduceEq, Bool.or_not_self, beq_self_eq_true, n1, gS, al, sS]
      refine ⟨⟨_, _, _, rfl⟩, ⟨l ++ l1, ?_⟩, fun x hx => tb2 x hx ?_⟩
      · rw [ek, n1]
        rfl
      · unfold badL
        rw [e]
        rfl
  · rw [Nat.zero_add, enumA_len, List.length_map] at h
    obtain ⟨⟨e2, e3, e4, rfl⟩, ⟨l, rfl⟩, hb⟩ := h
    rw [List.take_length] at hb ⊢
    simp only [wx_ok, wx_ex, wx_fl, wx_fx, wx_fin, wx_next, wx_then, wx_bind, wx_nox, wx_xK, wx_xB, wx_xS, wx_xF, wx_xT, wx_nn, wx_nr, wx_nb, wx_nc, wx_try, wp_okR, wp_okF, wp_fin, wp_next, wp_then, wp_bind, wp_nox, wp_tK, wp_bK, wp_fr, wp_fn, wp_nn, wp_nr, wp_nb, wp_nc, wp_ln, wp_lc, wp_lb, wp_lr, wp_jn, wp_jc, ev_bok, ev_bno, ev_bex, ev_tok, ev_tno, ev_tex, ev_nnx, ev_nrt, ev_nbk, ev_nct, ev_nex, ev_nno, ev_frt, ev_fnx, ev_fex, ev_xok, ev_lsome, ev_lnone, ev_seq, ev_if, ev_ret, ev_retN, ev_drop, ev_nop, ev_brk, ev_cont, ev_asgN, ev_asgT, ev_asgO, ev_mgTup, ev_mgN, ev_mgC, ev_mg0, ev_putL, ev_putO, ev_var, ev_vr, ev_c, ev_op, ev_un, ev_test, ev_tb, ev_notT, ev_andT, ev_orT, ev_ifE, ev_not, ev_nb, ev_and, ev_andK, ev_or, ev_orK, ev_chain, ev_chK, ev_nil, ev_cons, ev_tup, ev_lst, ev_new, ev_call, ev_cb, ev_size, ev_addI, ev_addS, ev_addT, ev_addL, ev_catO, ev_sub, ev_mul, ev_div, ev_mod, ev_p5, ev_p6, ev_p12, ev_p18, ev_p30, ev_neg, ev_ltI, ev_ltS, ev_leI, ev_leS, ev_gt, ev_ge, ev_eqI, ev_eqS, ev_neI, ev_neS, ev_neB, ev_eqB, ev_is, ev_isnot, ev_ixT, ev_ixS, ev_ixR, ev_ixL, ev_ixK, ev_getL, ev_getM, ev_gL, ev_gM, ev_at0, ev_at1, ev_at2, ev_at3, ev_at4, ev_lenS, ev_lenR, ev_lenT, ev_lenL, ev_lenO, ev_lenD, ev_abs, ev_min2, ev_max2, ev_intI, ev_intB, ev_set, ev_fc, ev_setset, ev_last, ev_appk, ev_app0, ev_setk, ev_set0, ev_assoc, ev_lapp, ev_lappA, ev_sl, ev_nopart, ev_part, ev_ptK, ev_slT, ev_slS, ev_slR, ev_slK, ev_tyN, ev_tyB, ev_tyI, ev_tyS, ev_tyT, ev_tyL, ev_tyR, ev_tyRL, ev_isi, ev_isi1, ev_isi2, ev_isi3, ev_isi4, ev_isi5, ev_isiT, ev_isi2K, ev_isTy, ev_list, ev_listK, ev_tuple, ev_tupK, ev_getST, ev_getSR, ev_getSL, ev_all, ev_allK, ev_eqXI, ev_eqXS, ev_neXI, ev_neXS, ev_neXB, ev_eqXB, ev_eqXR, ev_neXR, ev_nil2, ev_eqK, ev_neK, ev_meth, ev_meth0, ev_mth1, ev_mth2, ev_mth3, ev_append, ev_m0, ev_m0K, ev_str, ev_for, ev_miR1, ev_rg1K, ev_miL, ev_liK, ev_miT, ev_tiK, ev_lc, ev_wipe0, ev_wipeS, ev_yes, ev_lenSet, ev_lenSetK, ev_listR, ev_lrK, ev_put2, ev_p2A, ev_p2K, ev_p2E, ev_put1, ev_pt1, ev_addXI, ev_addXB, ev_addXS, ev_addXT, ev_addXL, ev_subXI, ev_subXB, ev_mulXI, ev_mulXB, ev_mulXL, ev_negXI, ev_negXB, ev_strXI, ev_strXB, ev_mulYI, ev_mulYB, ev_mulYL, ev_mulYT, ev_dnew, ev_dnewT, ev_dgetE, ev_getD, ev_gD, ev_keyI, ev_keyS, ev_dgK, ev_dinE, ev_diK, ev_dputE, ev_dpK, ev_dget2E, ev_isDA, ev_isSome, ev_isNone, ev_dg2K, ev_dpop2E, ev_dp2K, ev_dp3S, ev_dp3N, ev_sortedE, ev_srO1, ev_srO2, ev_gLd, ev_srKS, ev_srKI, ev_gDT, ev_gT, ev_tinE, ev_tiKK, ev_keysA, ev_keysN, ev_keysC, ev_dputTE, ev_dptK, ev_dispE, ev_mpN, ev_mpC, ev_pcK, ev_dsK, ev_dsK2, ev_lc2E, ev_imp, ev_simp, ev_split, ev_splF, ev_splG, ev_fmt, ev_fmtS, ev_fmtI, ev_addK, ev_js0, ev_js1, ev_joined, ev_star, ev_starK, ev_each2, ev_each2K, ev_unl, ev_unlK, ev_intS, ev_strYS, ev_strYI, ev_fldE, ev_getI, ev_gI, ev_fdK, ev_fldS, ev_fpK, ev_mtE, ev_miK, ev_mkE, ev_mkK, ev_callE, ev_tryAs, ev_raise0, ev_raise1, ev_raiseN, ev_revS, ev_revK, ev_zip, ev_enumF, ev_enum, ev_kget, ev_kgK, ev_index, ev_mjoin, ev_joinG, ev_joinK, ev_sbind, ev_miS, ev_siK, ev_truS, List.getElem?_cons_zero, List.getElem?_cons_succ, List.set_cons_zero, List.set_cons_succ, List.length_cons, List.length_nil, List.cons_append, List.nil_append, if_true, if_false, Bool.false_eq_true, Bool.true_eq_false, reduceIte, Bool.not_true, Bool.not_false, Bool.and_true, Bool.true_and, Bool.and_false, Bool.false_and, Bool.or_true, Bool.true_or, Bool.or_false, Bool.false_or, decide_eq_true_eq, Nat.reduceAdd, Nat.reduceLeDiff, Nat.zero_add, Int.reduceLT, Int.reduceLE, Int.reduceEq, Int.reduceNeg, Nat.reduceEqDiff, and_self, and_true, true_and, decide_true, decide_false, eq_self, ite_true, ite_false, Int.reduceSub, Int.reduceAdd, Int.cast_ofNat_Int, Int.natCast_add, Int.cast_ofNat_Int, Nat.reduceSub, Nat.add_assoc, String.reduceBEq, String.reduceEq, Bool.or_not_self, beq_self_eq_true]
    exact ⟨hb, rfl, _, rfl⟩
theorem readStep_wp {S : Sto} {w : Str} {ps : List A} (h : StepG w ps) : okR (m_read_step [.str (lineT w ps)] S) fun y t => y = .tup (.str w :: ps) ∧ ∃ l, t = S ++ l := by
  have hl := line_len h
  rw [st_read_step]
  unfold b_read_step
  simp only [wp_okR, wp_okF, wp_fin, wp_next, wp_then, wp_bind, wp_nox, wp_tK, wp_bK, wp_fr, wp_fn, wp_nn, wp_nr, wp_nb, wp_nc, wp_ln, wp_lc, wp_lb, wp_lr, wp_jn, wp_jc, ev_bok, ev_bno, ev_bex, ev_tok, ev_tno, ev_tex, ev_nnx, ev_nrt, ev_nbk, ev_nct, ev_nex, ev_nno, ev_frt, ev_fnx, ev_fex, ev_xok, ev_lsome, ev_lnone, ev_seq, ev_if, ev_ret, ev_retN, ev_drop, ev_nop, ev_brk, ev_cont, ev_asgN, ev_asgT, ev_asgO, ev_mgTup, ev_mgN, ev_mgC, ev_mg0, ev_putL, ev_putO, ev_var, ev_vr, ev_c, ev_op, ev_un, ev_test, ev_tb, ev_notT, ev_andT, ev_orT, ev_ifE, ev_not, ev_nb, ev_and, ev_andK, ev_or, ev_orK, ev_chain, ev_chK, ev_nil, ev_cons, ev_tup, ev_lst, ev_new, ev_call, ev_cb, ev_size, ev_addI, ev_addS, ev_addT, ev_addL, ev_catO, ev_sub, ev_mul, ev_div, ev_mod, ev_p5, ev_p6, ev_p12, ev_p18, ev_p30, ev_neg, ev_ltI, ev_ltS, ev_leI, ev_leS, ev_gt, ev_ge, ev_eqI, ev_eqS, ev_neI, ev_neS, ev_neB, ev_eqB, ev_is, ev_isnot, ev_ixT, ev_ixS, ev_ixR, ev_ixL, ev_ixK, ev_getL, ev_getM, ev_gL, ev_gM, ev_at0, ev_at1, ev_at2, ev_at3, ev_at4, ev_lenS, ev_lenR, ev_lenT, ev_lenL, ev_lenO, ev_lenD, ev_abs, ev_min2, ev_max2, ev_intI, ev_intB, ev_set, ev_fc, ev_setset, ev_last, ev_appk, ev_app0, ev_setk, ev_set0, ev_assoc, ev_lapp, ev_lappA, ev_sl, ev_nopart, ev_part, ev_ptK, ev_slT, ev_slS, ev_slR, ev_slK, ev_tyN, ev_tyB, ev_tyI, ev_tyS, ev_tyT, ev_tyL, ev_tyR, ev_tyRL, ev_isi, ev_isi1, ev_isi2, ev_isi3, ev_isi4, ev_isi5, ev_isiT, ev_isi2K, ev_isTy, ev_list, ev_listK, ev_tuple, ev_tupK, ev_getST, ev_getSR, ev_getSL, ev_all, ev_allK, ev_eqXI, ev_eqXS, ev_neXI, ev_neXS, ev_neXB, ev_eqXB, ev_eqXR, ev_neXR, ev_nil2, ev_eqK, ev_neK, ev_meth, ev_meth0, ev_mth1, ev_mth2, ev_mth3, ev_append, ev_m0, ev_m0K, ev_str, ev_for, ev_miR1, ev_rg1K, ev_miL, ev_liK, ev_miT, ev_tiK, ev_lc, ev_wipe0, ev_wipeS, ev_yes, ev_lenSet, ev_lenSetK, ev_listR, ev_lrK, ev_put2, ev_p2A, ev_p2K, ev_p2E, ev_put1, ev_pt1, ev_addXI, ev_addXB, ev_addXS, ev_addXT, ev_addXL, ev_subXI, ev_subXB, ev_mulXI, ev_mulXB, ev_mulXL, ev_negXI, ev_negXB, ev_strXI, ev_strXB, ev_mulYI, ev_mulYB, ev_mulYL, ev_mulYT, ev_dnew, ev_dnewT, ev_dgetE, ev_getD, ev_gD, ev_keyI, ev_keyS, ev_dgK, ev_dinE, ev_diK, ev_dputE, ev_dpK, ev_dget2E, ev_isDA, ev_isSome, ev_isNone, ev_dg2K, ev_dpop2E, ev_dp2K, ev_dp3S, ev_dp3N, ev_sortedE, ev_srO1, ev_srO2, ev_gLd, ev_srKS, ev_srKI, ev_gDT, ev_gT, ev_tinE, ev_tiKK, ev_keysA, ev_keysN, ev_keysC, ev_dputTE, ev_dptK, ev_dispE, ev_mpN, ev_mpC, ev_pcK, ev_dsK, ev_dsK2, ev_lc2E, ev_imp, ev_simp, ev_split, ev_splF, ev_splG, ev_fmt, ev_fmtS, ev_fmtI, ev_addK, ev_js0, ev_js1, ev_joined, ev_star, ev_starK, ev_each2, ev_each2K, ev_unl, ev_unlK, ev_intS, ev_strYS, ev_strYI, ev_fldE, ev_getI, ev_gI, ev_fdK, ev_fldS, ev_fpK, ev_mtE, ev_miK, ev_mkE, ev_mkK, ev_callE, ev_tryAs, ev_raise0, ev_raise1, ev_raiseN, ev_revS, ev_revK, ev_zip, ev_enumF, ev_enum, ev_kget, ev_kgK, ev_index, ev_mjoin, ev_joinG, ev_joinK, ev_sbind, ev_miS, ev_siK, ev_truS, List.getElem?_cons_zero, List.getElem?_cons_succ, List.set_cons_zero, List.set_cons_succ, List.length_cons, List.length_nil, List.cons_append, List.nil_append, if_true, if_false, Bool.false_eq_true, Bool.true_eq_false, reduceIte, Bool.not_true, Bool.not_false, Bool.and_true, Bool.true_and, Bool.and_false, Bool.false_and, Bool.or_true, Bool.true_or, Bool.or_false, Bool.false_or, decide_eq_true_eq, Nat.reduceAdd, Nat.reduceLeDiff, Nat.zero_add, Int.reduceLT, Int.reduceLE, Int.reduceEq, Int.reduceNeg, Nat.reduceEqDiff, and_self, and_true, true_and, decide_true, decide_false, eq_self, ite_true, ite_false, Int.reduceSub, Int.reduceAdd, Int.cast_ofNat_Int, Int.natCast_add, Int.cast_ofNat_Int, Nat.reduceSub, Nat.add_assoc, String.reduceBEq, String.reduceEq, Bool.or_not_self, beq_self_eq_true]
  refine okR_use (step_any (by omega)) fun a s1 hh => ?_
  obtain ⟨rfl, l1, rfl⟩ := hh
  rw [step_back h]
  have n1 : isNon (A.tup (A.str w :: ps)) = false := rfl
  simp only [wp_okR, wp_okF, wp_fin, wp_next, wp_then, wp_bind, wp_nox, wp_tK, wp_bK, wp_fr, wp_fn, wp_nn, wp_nr, wp_nb, wp_nc, wp_ln, wp_lc, wp_lb, wp_lr, wp_jn, wp_jc, ev_bok, ev_bno, ev_bex, ev_tok, ev_tno, ev_tex, ev_nnx, ev_nrt, ev_nbk, ev_nct, ev_nex, ev_nno, ev_frt, ev_fnx, ev_fex, ev_xok, ev_lsome, ev_lnone, ev_seq, ev_if, ev_ret, ev_retN, ev_drop, ev_nop, ev_brk, ev_cont, ev_asgN, ev_asgT, ev_asgO, ev_mgTup, ev_mgN, ev_mgC, ev_mg0, ev_putL, ev_putO, ev_var, ev_vr, ev_c, ev_op, ev_un, ev_test, ev_tb, ev_notT, ev_andT, ev_orT, ev_ifE, ev_not, ev_nb, ev_and, ev_andK, ev_or, ev_orK, ev_chain, ev_chK, ev_nil, ev_cons, ev_tup, ev_lst, ev_new, ev_call, ev_cb, ev_size, ev_addI, ev_addS, ev_addT, ev_addL, ev_catO, ev_sub, ev_mul, ev_div, ev_mod, ev_p5, ev_p6, ev_p12, ev_p18, ev_p30, ev_neg, ev_ltI, ev_ltS, ev_leI, ev_leS, ev_gt, ev_ge, ev_eqI, ev_eqS, ev_neI, ev_neS, ev_neB, ev_eqB, ev_is, ev_isnot, ev_ixT, ev_ixS, ev_ixR, ev_ixL, ev_ixK, ev_getL, ev_getM, ev_gL, ev_gM, ev_at0, ev_at1, ev_at2, ev_at3, ev_at4, ev_lenS, ev_lenR, ev_lenT, ev_lenL, ev_lenO, ev_lenD, ev_abs, ev_min2, ev_max2, ev_intI, ev_intB, ev_set, ev_fc, ev_setset, ev_last, ev_appk, ev_app0, ev_setk, ev_set0, ev_assoc, ev_lapp, ev_lappA, ev_sl, ev_nopart, ev_part, ev_ptK, ev_slT, ev_slS, ev_slR, ev_slK, ev_tyN, ev_tyB, ev_tyI, ev_tyS, ev_tyT, ev_tyL, ev_tyR, ev_tyRL, ev_isi, ev_isi1, ev_isi2, ev_isi3, ev_isi4, ev_isi5, ev_isiT, ev_isi2K, ev_isTy, ev_list, ev_listK, ev_tuple, ev_tupK, ev_getST, ev_getSR, ev_getSL, ev_all, ev_allK, ev_eqXI, ev_eqXS, ev_neXI, ev_neXS, ev_neXB, ev_eqXB, ev_eqXR, ev_neXR, ev_nil2, ev_eqK, ev_neK, ev_meth, ev_meth0, ev_mth1, ev_mth2, ev_mth3, ev_append, ev_m0, ev_m0K, ev_str, ev_for, ev_miR1, ev_rg1K, ev_miL, ev_liK, ev_miT, ev_tiK, ev_lc, ev_wipe0, ev_wipeS, ev_yes, ev_lenSet, ev_lenSetK, ev_listR, ev_lrK, ev_put2, ev_p2A, ev_p2K, ev_p2E, ev_put1, ev_pt1, ev_addXI, ev_addXB, ev_addXS, ev_addXT, ev_addXL, ev_subXI, ev_subXB, ev_mulXI, ev_mulXB, ev_mulXL, ev_negXI, ev_negXB, ev_strXI, ev_strXB, ev_mulYI, ev_mulYB, ev_mulYL, ev_mulYT, ev_dnew, ev_dnewT, ev_dgetE, ev_getD, ev_gD, ev_keyI, ev_keyS, ev_dgK, ev_dinE, ev_diK, ev_dputE, ev_dpK, ev_dget2E, ev_isDA, ev_isSome, ev_isNone, ev_dg2K, ev_dpop2E, ev_dp2K, ev_dp3S, ev_dp3N, ev_sortedE, ev_srO1, ev_srO2, ev_gLd, ev_srKS, ev_srKI, ev_gDT, ev_gT, ev_tinE, ev_tiKK, ev_keysA, ev_keysN, ev_keysC, ev_dputTE, ev_dptK, ev_dispE, ev_mpN, ev_mpC, ev_pcK, ev_dsK, ev_dsK2, ev_lc2E, ev_imp, ev_simp, ev_split, ev_splF, ev_splG, ev_fmt, ev_fmtS, ev_fmtI, ev_addK, ev_js0, ev_js1, ev_joined, ev_star, ev_starK, ev_each2, ev_each2K, ev_unl, ev_unlK, ev_intS, ev_strYS, ev_strYI, ev_fldE, ev_getI, ev_gI, ev_fdK, ev_fldS, ev_fpK, ev_mtE, ev_miK, ev_mkE, ev_mkK, ev_callE, ev_tryAs, ev_raise0, ev_raise1, ev_raiseN, ev_revS, ev_revK, ev_zip, ev_enumF, ev_enum, ev_kget, ev_kgK, ev_index, ev_mjoin, ev_joinG, ev_joinK, ev_sbind, ev_miS, ev_siK, ev_truS, List.getElem?_cons_zero, List.getElem?_cons_succ, List.set_cons_zero, List.set_cons_succ, List.length_cons, List.length_nil, List.cons_append, List.nil_append, if_true, if_false, Bool.false_eq_true, Bool.true_eq_false, reduceIte, Bool.not_true, Bool.not_false, Bool.and_true, Bool.true_and, Bool.and_false, Bool.false_and, Bool.or_true, Bool.true_or, Bool.or_false, Bool.false_or, decide_eq_true_eq, Nat.reduceAdd, Nat.reduceLeDiff, Nat.zero_add, Int.reduceLT, Int.reduceLE, Int.reduceEq, Int.reduceNeg, Nat.reduceEqDiff, and_self, and_true, true_and, decide_true, decide_false, eq_self, ite_true, ite_false, Int.reduceSub, Int.reduceAdd, Int.cast_ofNat_Int, Int.natCast_add, Int.cast_ofNat_Int, Nat.reduceSub, Nat.add_assoc, String.reduceBEq, String.reduceEq, Bool.or_not_self, beq_self_eq_true, n1]
  exact ⟨l1, rfl⟩
/-! ### .. and refused -/
theorem kw_is : kwOf 0 = Str.ofString "told NoText+" := by decide +kernel
theorem sub_is : sub_NoText 0 = true := rfl
theorem look_line {v : A} : [(Str.ofString "line", v)].lookup (Str.ofString "line") = some v := by
  rw [List.lookup_cons]
  simp
def NtQ (S : Sto) (ls : List Str) (y : A) (t : Sto) : Prop := ((∀ x ∈ ls, badL x = false) ∧ y = .tup [.ref S.length, .str (Str.ofString ""), .int 0] ∧ ∃ l, t = S ++ AO.lst (keepS ls) :: l) ∨
  ∃ (i : Nat) (x : Str), ls[i]? = some x ∧ badL x = true ∧ (∀ y ∈ ls.take i, badL y = false) ∧ y = .tup [.non, .str (Str.ofString "told NoText+"), .int ((i : Int) + 1)] ∧ ∃ l, t = S ++ l
theorem noText2 {S : Sto} {z : Str} (hz : z.length ≤ 1200000) : okR (m__law_no_text [.int 2, .str z] S) (NtQ S (Txt.split z NL)) := by
  rw [st__law_no_text]
  unfold b__law_no_text
  simp only [wx_ok, wx_ex, wx_fl, wx_fx, wx_fin, wx_next, wx_then, wx_bind, wx_nox, wx_xK, wx_xB, wx_xS, wx_xF, wx_xT, wx_nn, wx_nr, wx_nb, wx_nc, wx_try, wp_okR, wp_okF, wp_fin, wp_next, wp_then, wp_bind, wp_nox, wp_tK, wp_bK, wp_fr, wp_fn, wp_nn, wp_nr, wp_nb, wp_nc, wp_ln, wp_lc, wp_lb, wp_lr, wp_jn, wp_jc, ev_bok, ev_bno, ev_bex, ev_tok, ev_tno, ev_tex, ev_nnx, ev_nrt, ev_nbk, ev_nct, ev_nex, ev_nno, ev_frt, ev_fnx, ev_fex, ev_xok, ev_lsome, ev_lnone, ev_seq, ev_if, ev_ret, ev_retN, ev_drop, ev_nop, ev_brk, ev_cont, ev_asgN, ev_asgT, ev_asgO, ev_mgTup, ev_mgN, ev_mgC, ev_mg0, ev_putL, ev_putO, ev_var, ev_vr, ev_c, ev_op, ev_un, ev_test, ev_tb, ev_notT, ev_andT, ev_orT, ev_ifE, ev_not, ev_nb, ev_and, ev_andK, ev_or, ev_orK, ev_chain, ev_chK, ev_nil, ev_cons, ev_tup, ev_lst, ev_new, ev_call, ev_cb, ev_size, ev_addI, ev_addS, ev_addT, ev_addL, ev_catO, ev_sub, ev_mul, ev_div, ev_mod, ev_p5, ev_p6, ev_p12, ev_p18, ev_p30, ev_neg, ev_ltI, ev_ltS, ev_leI, ev_leS, ev_gt, ev_ge, ev_eqI, ev_eqS, ev_neI, ev_neS, ev_neB, ev_eqB, ev_is, ev_isnot, ev_ixT, ev_ixS, ev_ixR, ev_ixL, ev_ixK, ev_getL, ev_getM, ev_gL, ev_gM, ev_at0, ev_at1, ev_at2, ev_at3, ev_at4, ev_lenS, ev_lenR, ev_lenT, ev_lenL, ev_lenO, ev_lenD, ev_abs, ev_min2, ev_max2, ev_intI, ev_intB, ev_set, ev_fc, ev_setset, ev_last, ev_appk, ev_app0, ev_setk, ev_set0, ev_assoc, ev_lapp, ev_lappA, ev_sl, ev_nopart, ev_part, ev_ptK, ev_slT, ev_slS, ev_slR, ev_slK, ev_tyN, ev_tyB, ev_tyI, ev_tyS, ev_tyT, ev_tyL, ev_tyR, ev_tyRL, ev_isi, ev_isi1, ev_isi2, ev_isi3, ev_isi4, ev_isi5, ev_isiT, ev_isi2K, ev_isTy, ev_list, ev_listK, ev_tuple, ev_tupK, ev_getST, ev_getSR, ev_getSL, ev_all, ev_allK, ev_eqXI, ev_eqXS, ev_neXI, ev_neXS, ev_neXB, ev_eqXB, ev_eqXR, ev_neXR, ev_nil2, ev_eqK, ev_neK, ev_meth, ev_meth0, ev_mth1, ev_mth2, ev_mth3, ev_append, ev_m0, ev_m0K, ev_str, ev_for, ev_miR1, ev_rg1K, ev_miL, ev_liK, ev_miT, ev_tiK, ev_lc, ev_wipe0, ev_wipeS, ev_yes, ev_lenSet, ev_lenSetK, ev_listR, ev_lrK, ev_put2, ev_p2A, ev_p2K, ev_p2E, ev_put1, ev_pt1, ev_addXI, ev_addXB, ev_addXS, ev_addXT, ev_addXL, ev_subXI, ev_subXB, ev_mulXI, ev_mulXB, ev_mulXL, ev_negXI, ev_negXB, ev_strXI, ev_strXB, ev_mulYI, ev_mulYB, ev_mulYL, ev_mulYT, ev_dnew, ev_dnewT, ev_dgetE, ev_getD, ev_gD, ev_keyI, ev_keyS, ev_dgK, ev_dinE, ev_diK, ev_dputE, ev_dpK, ev_dget2E, ev_isDA, ev_isSome, ev_isNone, ev_dg2K, ev_dpop2E, ev_dp2K, ev_dp3S, ev_dp3N, ev_sortedE, ev_srO1, ev_srO2, ev_gLd, ev_srKS, ev_srKI, ev_gDT, ev_gT, ev_tinE, ev_tiKK, ev_keysA, ev_keysN, ev_keysC, ev_dputTE, ev_dptK, ev_dispE, ev_mpN, ev_mpC, ev_pcK, ev_dsK, ev_dsK2, ev_lc2E, ev_imp, ev_simp, ev_split, ev_splF, ev_splG, ev_fmt, ev_fmtS, ev_fmtI, ev_addK, ev_js0, ev_js1, ev_joined, ev_star, ev_starK, ev_each2, ev_each2K, ev_unl, ev_unlK, ev_intS, ev_strYS, ev_strYI, ev_fldE, ev_getI, ev_gI, ev_fdK, ev_fldS, ev_fpK, ev_mtE, ev_miK, ev_mkE, ev_mkK, ev_callE, ev_tryAs, ev_raise0, ev_raise1, ev_raiseN, ev_revS, ev_revK, ev_zip, ev_enumF, ev_enum, ev_kget, ev_kgK, ev_index, ev_mjoin, ev_joinG, ev_joinK, ev_sbind, ev_miS, ev_siK, ev_truS, List.getElem?_cons_zero, List.getElem?_cons_succ, List.set_cons_zero, List.set_cons_succ, List.length_cons, List.length_nil, List.cons_append, List.nil_append, if_true, if_false, Bool.false_eq_true, Bool.true_eq_false, reduceIte, Bool.not_true, Bool.not_false, Bool.and_true, Bool.true_and, Bool.and_false, Bool.false_and, Bool.or_true, Bool.true_or, Bool.or_false, Bool.false_or, decide_eq_true_eq, Nat.reduceAdd, Nat.reduceLeDiff, Nat.zero_add, Int.reduceLT, Int.reduceLE, Int.reduceEq, Int.reduceNeg, Nat.reduceEqDiff, and_self, and_true, true_and, decide_true, decide_false, eq_self, ite_true, ite_false, Int.reduceSub, Int.reduceAdd, Int.cast_ofNat_Int, Int.natCast_add, Int.cast_ofNat_Int, Nat.reduceSub, Nat.add_assoc, String.reduceBEq, String.reduceEq, Bool.or_not_self, beq_self_eq_true]
  refine okE_use2 (readSteps_any hz) (fun y t h => ?_) (fun c d t h => ?_)
  · obtain ⟨h1, rfl, l, rfl⟩ := h
    simp only [wx_ok, wx_ex, wx_fl, wx_fx, wx_fin, wx_next, wx_then, wx_bind, wx_nox, wx_xK, wx_xB, wx_xS, wx_xF, wx_xT, wx_nn, wx_nr, wx_nb, wx_nc, wx_try, wp_okR, wp_okF, wp_fin, wp_next, wp_then, wp_bind, wp_nox, wp_tK, wp_bK, wp_fr, wp_fn, wp_nn, wp_nr, wp_nb, wp_nc, wp_ln, wp_lc, wp_lb, wp_lr, wp_jn, wp_jc, ev_bok, ev_bno, ev_bex, ev_tok, ev_tno, ev_tex, ev_nnx, ev_nrt, ev_nbk, ev_nct, ev_nex, ev_nno, ev_frt, ev_fnx, ev_fex, ev_xok, ev_lsome, ev_lnone, ev_seq, ev_if, ev_ret, ev_retN, ev_drop, ev_nop, ev_brk, ev_cont, ev_asgN, ev_asgT, ev_asgO, ev_mgTup, ev_mgN, ev_mgC, ev_mg0, ev_putL, ev_putO, ev_var, ev_vr, ev_c, ev_op, ev_un, ev_test, ev_tb, ev_notT, ev_andT, ev_orT, ev_ifE, ev_not, ev_nb, ev_and, ev_andK, ev_or, ev_orK, ev_chain, ev_chK, ev_nil, ev_cons, ev_tup, ev_lst, ev_new, ev_call, ev_cb, ev_size, ev_addI, ev_addS, ev_addT, ev_addL, ev_catO, ev_sub, ev_mul, ev_div, ev_mod, ev_p5, ev_p6, ev_p12, ev_p18, ev_p30, ev_neg, ev_ltI, ev_ltS, ev_leI, ev_leS, ev_gt, ev_ge, ev_eqI, ev_eqS, ev_neI, ev_neS, ev_neB, ev_eqB, ev_is, ev_isnot, ev_ixT, ev_ixS, ev_ixR, ev_ixL, ev_ixK, ev_getL, ev_getM, ev_gL, ev_gM, ev_at0, ev_at1, ev_at2, ev_at3, ev_at4, ev_lenS, ev_lenR, ev_lenT, ev_lenL, ev_lenO, ev_lenD, ev_abs, ev_min2, ev_max2, ev_intI, ev_intB, ev_set, ev_fc, ev_setset, ev_last, ev_appk, ev_app0, ev_setk, ev_set0, ev_assoc, ev_lapp, ev_lappA, ev_sl, ev_nopart, ev_part, ev_ptK, ev_slT, ev_slS, ev_slR, ev_slK, ev_tyN, ev_tyB, ev_tyI, ev_tyS, ev_tyT, ev_tyL, ev_tyR, ev_tyRL, ev_isi, ev_isi1, ev_isi2, ev_isi3, ev_isi4, ev_isi5, ev_isiT, ev_isi2K, ev_isTy, ev_list, ev_listK, ev_tuple, ev_tupK, ev_getST, ev_getSR, ev_getSL, ev_all, ev_allK, ev_eqXI, ev_eqXS, ev_neXI, ev_neXS, ev_neXB, ev_eqXB, ev_eqXR, ev_neXR, ev_nil2, ev_eqK, ev_neK, ev_meth, ev_meth0, ev_mth1, ev_mth2, ev_mth3, ev_append, ev_m0, ev_m0K, ev_str, ev_for, ev_miR1, ev_rg1K, ev_miL, ev_liK, ev_miT, ev_tiK, ev_lc, ev_wipe0, ev_wipeS, ev_yes, ev_lenSet, ev_lenSetK, ev_listR, ev_lrK, ev_put2, ev_p2A, ev_p2K, ev_p2E, ev_put1, ev_pt1, ev_addXI, ev_addXB, ev_addXS, ev_addXT, ev_addXL, ev_subXI, ev_subXB, ev_mulXI, ev_mulXB, ev_mulXL, ev_negXI, ev_negXB, ev_strXI, ev_strXB, ev_mulYI, ev_mulYB, ev_mulYL, ev_mulYT, ev_dnew, ev_dnewT, ev_dgetE, ev_getD, ev_gD, ev_keyI, ev_keyS, ev_dgK, ev_dinE, ev_diK, ev_dputE, ev_dpK, ev_dget2E, ev_isDA, ev_isSome, ev_isNone, ev_dg2K, ev_dpop2E, ev_dp2K, ev_dp3S, ev_dp3N, ev_sortedE, ev_srO1, ev_srO2, ev_gLd, ev_srKS, ev_srKI, ev_gDT, ev_gT, ev_tinE, ev_tiKK, ev_keysA, ev_keysN, ev_keysC, ev_dputTE, ev_dptK, ev_dispE, ev_mpN, ev_mpC, ev_pcK, ev_dsK, ev_dsK2, ev_lc2E, ev_imp, ev_simp, ev_split, ev_splF, ev_splG, ev_fmt, ev_fmtS, ev_fmtI, ev_addK, ev_js0, ev_js1, ev_joined, ev_star, ev_starK, ev_each2, ev_each2K, ev_unl, ev_unlK, ev_intS, ev_strYS, ev_strYI, ev_fldE, ev_getI, ev_gI, ev_fdK, ev_fldS, ev_fpK, ev_mtE, ev_miK, ev_mkE, ev_mkK, ev_callE, ev_tryAs, ev_raise0, ev_raise1, ev_raiseN, ev_revS, ev_revK, ev_zip, ev_enumF, ev_enum, ev_kget, ev_kgK, ev_index, ev_mjoin, ev_joinG, ev_joinK, ev_sbind, ev_miS, ev_siK, ev_truS, List.getElem?_cons_zero, List.getElem?_cons_succ, List.set_cons_zero, List.set_cons_succ, List.length_cons, List.length_nil, List.cons_append, List.nil_append, if_true, if_false, Bool.false_eq_true, Bool.true_eq_false, reduceIte, Bool.not_true, Bool.not_false, Bool.and_true, Bool.true_and, Bool.and_false, Bool.false_and, Bool.or_true, Bool.true_or, Bool.or_false, Bool.false_or, decide_eq_true_eq, Nat.reduceAdd, Nat.reduceLeDiff, Nat.zero_add, Int.reduceLT, Int.reduceLE, Int.reduceEq, Int.reduceNeg, Nat.reduceEqDiff, and_self, and_true, true_and, decide_true, decide_false, eq_self, ite_true, ite_false, Int.reduceSub, Int.reduceAdd, Int.cast_ofNat_Int, Int.natCast_add, Int.cast_ofNat_Int, Nat.reduceSub, Nat.add_assoc, String.reduceBEq, String.reduceEq, Bool.or_not_self, beq_self_eq_true]
    exact .inl ⟨h1, rfl, l, rfl⟩
  · obtain ⟨rfl, i, x, l, h1, h2, h3, rfl, rfl⟩ := h
    have g : (S ++ (l ++ [AO.xd [(Str.ofString "line", A.int ((i : Int) + 1))]]))[S.length + l.length]? = some (.xd [(Str.ofString "line", A.int ((i : Int) + 1))]) := by
      rw [← List.append_assoc, ← List.length_append]
      exact ev_last
    simp only [wx_ok, wx_ex, wx_fl, wx_fx, wx_fin, wx_next, wx_then, wx_bind, wx_nox, wx_xK, wx_xB, wx_xS, wx_xF, wx_xT, wx_nn, wx_nr, wx_nb, wx_nc, wx_try, wp_okR, wp_okF, wp_fin, wp_next, wp_then, wp_bind, wp_nox, wp_tK, wp_bK, wp_fr, wp_fn, wp_nn, wp_nr, wp_nb, wp_nc, wp_ln, wp_lc, wp_lb, wp_lr, wp_jn, wp_jc, ev_bok, ev_bno, ev_bex, ev_tok, ev_tno, ev_tex, ev_nnx, ev_nrt, ev_nbk, ev_nct, ev_nex, ev_nno, ev_frt, ev_fnx, ev_fex, ev_xok, ev_lsome, ev_lnone, ev_seq, ev_if, ev_ret, ev_retN, ev_drop, ev_nop, ev_brk, ev_cont, ev_asgN, ev_asgT, ev_asgO, ev_mgTup, ev_mgN, ev_mgC, ev_mg0, ev_putL, ev_putO, ev_var, ev_vr, ev_c, ev_op, ev_un, ev_test, ev_tb, ev_notT, ev_andT, ev_orT, ev_ifE, ev_not, ev_nb, ev_and, ev_andK, ev_or, ev_orK, ev_chain, ev_chK, ev_nil, ev_cons, ev_tup, ev_lst, ev_new, ev_call, ev_cb, ev_size, ev_addI, ev_addS, ev_addT, ev_addL, ev_catO, ev_sub, ev_mul, ev_div, ev_mod, ev_p5, ev_p6, ev_p12, ev_p18, ev_p30, ev_neg, ev_ltI, ev_ltS, ev_leI, ev_leS, ev_gt, ev_ge, ev_eqI, ev_eqS, ev_neI, ev_neS, ev_neB, ev_eqB, ev_is, ev_isnot, ev_ixT, ev_ixS, ev_ixR, ev_ixL, ev_ixK, ev_getL, ev_getM, ev_gL, ev_gM, ev_at0, ev_at1, ev_at2, ev_at3, ev_at4, ev_lenS, ev_lenR, ev_lenT, ev_lenL, ev_lenO, ev_lenD, ev_abs, ev_min2, ev_max2, ev_intI, ev_intB, ev_set, ev_fc, ev_setset, ev_last, ev_appk, ev_app0, ev_setk, ev_set0, ev_assoc, ev_lapp, ev_lappA, ev_sl, ev_nopart, ev_part, ev_ptK, ev_slT, ev_slS, ev_slR, ev_slK, ev_tyN, ev_tyB, ev_tyI, ev_tyS, ev_tyT, ev_tyL, ev_tyR, ev_tyRL, ev_isi, ev_isi1, ev_isi2, ev_isi3, ev_isi4, ev_isi5, ev_isiT, ev_isi2K, ev_isTy, ev_list, ev_listK, ev_tuple, ev_tupK, ev_getST, ev_getSR, ev_getSL, ev_all, ev_allK, ev_eqXI, ev_eqXS, ev_neXI, ev_neXS, ev_neXB, ev_eqXB, ev_eqXR, ev_neXR, ev_nil2, ev_eqK, ev_neK, ev_meth, ev_meth0, ev_mth1, ev_mth2, ev_mth3, ev_append, ev_m0, ev_m0K, ev_str, ev_for, ev_miR1, ev_rg1K, ev_miL, ev_liK, ev_miT, ev_tiK, ev_lc, ev_wipe0, ev_wipeS, ev_yes, ev_lenSet, ev_lenSetK, ev_listR, ev_lrK, ev_put2, ev_p2A, ev_p2K, ev_p2E, ev_put1, ev_pt1, ev_addXI, ev_addXB, ev_addXS, ev_addXT, ev_addXL, ev_subXI, ev_subXB, ev_mulXI, ev_mulXB, ev_mulXL, ev_negXI, ev_negXB, ev_strXI, ev_strXB, ev_mulYI, ev_mulYB, ev_mulYL, ev_mulYT, ev_dnew, ev_dnewT, ev_dgetE, ev_getD, ev_gD, ev_keyI, ev_keyS, ev_dgK, ev_dinE, ev_diK, ev_dputE, ev_dpK, ev_dget2E, ev_isDA, ev_isSome, ev_isNone, ev_dg2K, ev_dpop2E, ev_dp2K, ev_dp3S, ev_dp3N, ev_sortedE, ev_srO1, ev_srO2, ev_gLd, ev_srKS, ev_srKI, ev_gDT, ev_gT, ev_tinE, ev_tiKK, ev_keysA, ev_keysN, ev_keysC, ev_dputTE, ev_dptK, ev_dispE, ev_mpN, ev_mpC, ev_pcK, ev_dsK, ev_dsK2, ev_lc2E, ev_imp, ev_simp, ev_split, ev_splF, ev_splG, ev_fmt, ev_fmtS, ev_fmtI, ev_addK, ev_js0, ev_js1, ev_joined, ev_star, ev_starK, ev_each2, ev_each2K, ev_unl, ev_unlK, ev_intS, ev_strYS, ev_strYI, ev_fldE, ev_getI, ev_gI, ev_fdK, ev_fldS, ev_fpK, ev_mtE, ev_miK, ev_mkE, ev_mkK, ev_callE, ev_tryAs, ev_raise0, ev_raise1, ev_raiseN, ev_revS, ev_revK, ev_zip, ev_enumF, ev_enum, ev_kget, ev_kgK, ev_index, ev_mjoin, ev_joinG, ev_joinK, ev_sbind, ev_miS, ev_siK, ev_truS, List.getElem?_cons_zero, List.getElem?_cons_succ, List.set_cons_zero, List.set_cons_succ, List.length_cons, List.length_nil, List.cons_append, List.nil_append, if_true, if_false, Bool.false_eq_true, Bool.true_eq_false, reduceIte, Bool.not_true, Bool.not_false, Bool.and_true, Bool.true_and, Bool.and_false, Bool.false_and, Bool.or_true, Bool.true_or, Bool.or_false, Bool.false_or, decide_eq_true_eq, Nat.reduceAdd, Nat.reduceLeDiff, Nat.zero_add, Int.reduceLT, Int.reduceLE, Int.reduceEq, Int.reduceNeg, Nat.reduceEqDiff, and_self, and_true, true_and, decide_true, decide_false, eq_self, ite_true, ite_false, Int.reduceSub, Int.reduceAdd, Int.cast_ofNat_Int, Int.natCast_add, Int.cast_ofNat_Int, Nat.reduceSub, Nat.add_assoc, String.reduceBEq, String.reduceEq, Bool.or_not_self, beq_self_eq_true]
    rw [hd_yes (by decide) sub_is (by simp only [List.length_cons, List.length_nil]; omega), hK2_is g look_line]
    simp only [wx_ok, wx_ex, wx_fl, wx_fx, wx_fin, wx_next, wx_then, wx_bind, wx_nox, wx_xK, wx_xB, wx_xS, wx_xF, wx_xT, wx_nn, wx_nr, wx_nb, wx_nc, wx_try, wp_okR, wp_okF, wp_fin, wp_next, wp_then, wp_bind, wp_nox, wp_tK, wp_bK, wp_fr, wp_fn, wp_nn, wp_nr, wp_nb, wp_nc, wp_ln, wp_lc, wp_lb, wp_lr, wp_jn, wp_jc, ev_bok, ev_bno, ev_bex, ev_tok, ev_tno, ev_tex, ev_nnx, ev_nrt, ev_nbk, ev_nct, ev_nex, ev_nno, ev_frt, ev_fnx, ev_fex, ev_xok, ev_lsome, ev_lnone, ev_seq, ev_if, ev_ret, ev_retN, ev_drop, ev_nop, ev_brk, ev_cont, ev_asgN, ev_asgT, ev_asgO, ev_mgTup, ev_mgN, ev_mgC, ev_mg0, ev_putL, ev_putO, ev_var, ev_vr, ev_c, ev_op, ev_un, ev_test, ev_tb, ev_notT, ev_andT, ev_orT, ev_ifE, ev_not, ev_nb, ev_and, ev_andK, ev_or, ev_orK, ev_chain, ev_chK, ev_nil, ev_cons, ev_tup, ev_lst, ev_new, ev_call, ev_cb, ev_size, ev_addI, ev_addS, ev_addT, ev_addL, ev_catO, ev_sub, ev_mul, ev_div, ev_mod, ev_p5, ev_p6, ev_p12, ev_p18, ev_p30, ev_neg, ev_ltI, ev_ltS, ev_leI, ev_leS, ev_gt, ev_ge, ev_eqI, ev_eqS, ev_neI, ev_neS, ev_neB, ev_eqB, ev_is, ev_isnot, ev_ixT, ev_ixS, ev_ixR, ev_ixL, ev_ixK, ev_getL, ev_getM, ev_gL, ev_gM, ev_at0, ev_at1, ev_at2, ev_at3, ev_at4, ev_lenS, ev_lenR, ev_lenT, ev_lenL, ev_lenO, ev_lenD, ev_abs, ev_min2, ev_max2, ev_intI, ev_intB, ev_set, ev_fc, ev_setset, ev_last, ev_appk, ev_app0, ev_setk, ev_set0, ev_assoc, ev_lapp, ev_lappA, ev_sl, ev_nopart, ev_part, ev_ptK, ev_slT, ev_slS, ev_slR, ev_slK, ev_tyN, ev_tyB, ev_tyI, ev_tyS, ev_tyT, ev_tyL, ev_tyR, ev_tyRL, ev_isi, ev_isi1, ev_isi2, ev_isi3, ev_isi4, ev_isi5, ev_isiT, ev_isi2K, ev_isTy, ev_list, ev_listK, ev_tuple, ev_tupK, ev_getST, ev_getSR, ev_getSL, ev_all, ev_allK, ev_eqXI, ev_eqXS, ev_neXI, ev_neXS, ev_neXB, ev_eqXB, ev_eqXR, ev_neXR, ev_nil2, ev_eqK, ev_neK, ev_meth, ev_meth0, ev_mth1, ev_mth2, ev_mth3, ev_append, ev_m0, ev_m0K, ev_str, ev_for, ev_miR1, ev_rg1K, ev_miL, ev_liK, ev_miT, ev_tiK, ev_lc, ev_wipe0, ev_wipeS, ev_yes, ev_lenSet, ev_lenSetK, ev_listR, ev_lrK, ev_put2, ev_p2A, ev_p2K, ev_p2E, ev_put1, ev_pt1, ev_addXI, ev_addXB, ev_addXS, ev_addXT, ev_addXL, ev_subXI, ev_subXB, ev_mulXI, ev_mulXB, ev_mulXL, ev_negXI, ev_negXB, ev_strXI, ev_strXB, ev_mulYI, ev_mulYB, ev_mulYL, ev_mulYT, ev_dnew, ev_dnewT, ev_dgetE, ev_getD, ev_gD, ev_keyI, ev_keyS, ev_dgK, ev_dinE, ev_diK, ev_dputE, ev_dpK, ev_dget2E, ev_isDA, ev_isSome, ev_isNone, ev_dg2K, ev_dpop2E, ev_dp2K, ev_dp3S, ev_dp3N, ev_sortedE, ev_srO1, ev_srO2, ev_gLd, ev_srKS, ev_srKI, ev_gDT, ev_gT, ev_tinE, ev_tiKK, ev_keysA, ev_keysN, ev_keysC, ev_dputTE, ev_dptK, ev_dispE, ev_mpN, ev_mpC, ev_pcK, ev_dsK, ev_dsK2, ev_lc2E, ev_imp, ev_simp, ev_split, ev_splF, ev_splG, ev_fmt, ev_fmtS, ev_fmtI, ev_addK, ev_js0, ev_js1, ev_joined, ev_star, ev_starK, ev_each2, ev_each2K, ev_unl, ev_unlK, ev_intS, ev_strYS, ev_strYI, ev_fldE, ev_getI, ev_gI, ev_fdK, ev_fldS, ev_fpK, ev_mtE, ev_miK, ev_mkE, ev_mkK, ev_callE, ev_tryAs, ev_raise0, ev_raise1, ev_raiseN, ev_revS, ev_revK, ev_zip, ev_enumF, ev_enum, ev_kget, ev_kgK, ev_index, ev_mjoin, ev_joinG, ev_joinK, ev_sbind, ev_miS, ev_siK, ev_truS, List.getElem?_cons_zero, List.getElem?_cons_succ, List.set_cons_zero, List.set_cons_succ, List.length_cons, List.length_nil, List.cons_append, List.nil_append, if_true, if_false, Bool.false_eq_true, Bool.true_eq_false, reduceIte, Bool.not_true, Bool.not_false, Bool.and_true, Bool.true_and, Bool.and_false, Bool.false_and, Bool.or_true, Bool.true_or, Bool.or_false, Bool.false_or, decide_eq_true_eq, Nat.reduceAdd, Nat.reduceLeDiff, Nat.zero_add, Int.reduceLT, Int.reduceLE, Int.reduceEq, Int.reduceNeg, Nat.reduceEqDiff, and_self, and_true, true_and, decide_true, decide_false, eq_self, ite_true, ite_false, Int.reduceSub, Int.reduceAdd, Int.cast_ofNat_Int, Int.natCast_add, Int.cast_ofNat_Int, Nat.reduceSub, Nat.add_assoc, String.reduceBEq, String.reduceEq, Bool.or_not_self, beq_self_eq_true, kw_is]
    exact .inr ⟨i, x, h1, h2, h3, rfl, _, rfl⟩
theorem okE_all {α : Type} {r : Res α} {Q : α → Sto → Prop} {X : Nat → Option Nat → Sto → Prop} (h : okE r Q X) (k : ∀ c d s, ¬ X c d s) : okR r Q := by
  cases r with
  | ok a s => exact h
  | ex c d s => exact (k c d s h).elim
  | no => exact h.elim
theorem readSteps_ok {S : Sto} {z : Str} {ls : List Str} (hz : z.length ≤ 1200000) (hs : Txt.split z NL = ls) (h : ∀ x ∈ ls, badL x = false) : okR (m_read_steps [.str z] S) fun y t => y = .ref S.length ∧ ∃ l, t = S ++ AO.lst (keepS ls) :: l := by
  have := readSteps_any (S := S) hz
  rw [hs] at this
  refine okR_use (okE_all this fun c d s hx => ?_) fun y t hq => ⟨hq.2.1, hq.2.2⟩
  obtain ⟨_, i, x, l, h1, h2, _⟩ := hx
  rw [h x (List.mem_of_getElem? h1)] at h2
  cases h2

/-! ### data compared with itself -/
def pd0 (a : A) : Prop := a = .non ∨ (∃ i, a = .int i) ∨ ∃ x, a = .str x ∧ asc x = true
def pd : Nat → A → Prop
  | 0, a => pd0 a
  | k + 1, a => pd0 a ∨ ∃ xs, a = .tup xs ∧ ∀ x ∈ xs, pd k x
theorem pd0_up {k : Nat} {a : A} (h : pd0 a) : pd k a := by
  cases k with
  | zero => exact h
  | succ k => exact .inl h
theorem pd0_dat {st : Sto} {n : Nat} {a : A} (h : pd0 a) : ∃ D, dat st n a = some D ∧ D.canLay0 = true ∧ D.depth ≤ 0 := by
  rcases h with rfl | ⟨i, rfl⟩ | ⟨x, rfl, hx⟩
  · exact ⟨.none, by cases n <;> rfl, rfl, Nat.le_refl _⟩
  · exact ⟨.int i, by cases n <;> rfl, rfl, Nat.le_refl _⟩
  · exact ⟨.str x, by cases n <;> rfl, by rw [PyData.canLay0]; exact asc_ok hx, Nat.le_refl _⟩
theorem pd_dat {st : Sto} : ∀ (d n : Nat) {a : A}, d ≤ n → pd d a → ∃ D, dat st n a = some D ∧ D.canLay0 = true ∧ D.depth ≤ d
  | 0, n, _, _, h => pd0_dat h
  | d + 1, 0, _, hn, _ => by omega
  | d + 1, n + 1, a, hn, h => by
    rcases h with h | ⟨xs, rfl, h2⟩
    · obtain ⟨D, e, l, dp⟩ := pd0_dat (st := st) (n := n + 1) h
      exact ⟨D, e, l, by omega⟩
    · obtain ⟨Ds, e, hD⟩ := allD_some (f := dat st n) (P := fun D => D.canLay0 = true ∧ D.depth ≤ d) fun x hx => pd_dat d n (by omega) (h2 x hx)
      obtain ⟨l1, l2⟩ := layA hD
      exact ⟨.tuple Ds, by simp only [dat, e, Option.map_some], by rw [PyData.canLay0]; exact l1, by rw [PyData.depth]; omega⟩
theorem ne_same {st : Sto} {k : Nat} {xs : List A} (hk : k ≤ 30) (h : pd k (.tup xs)) : oNeX (.tup xs) (.tup xs) st = .ok (.bl false) st := by
  obtain ⟨D, e, l, dp⟩ := pd_dat (st := st) k 30 hk h
  have s1 := shaped_of l (by omega)
  have q : eqA st (.tup xs) (.tup xs) = some true := by
    unfold eqA
    show (match dat st deep (.tup xs), dat st deep (.tup xs) with
      | some d, some e => if SeqAt.shaped d = true ∧ SeqAt.shaped e = true then some (PyData.eqv d e) else none
      | _, _ => none) = _
    have e' : dat st deep (.tup xs) = some D := e
    simp only [e', s1, and_self, if_true, PySem.SeqAt.eqv_refl D l]
  show lift ((eqA st (.tup xs) (.tup xs)).map fun c => A.bl (!c)) st = _
  rw [q]
  rfl
theorem ne_dat {st : Sto} {a b : A} {D : PyData} (h1 : dat st deep a = some D) (h2 : dat st deep b = some D) (l : D.canLay0 = true) (dp : D.depth ≤ 64) (hn : nilA st a b = none) (he : eqS a b = none := by rfl) : oNeX a b st = .ok (.bl false) st := by
  have s1 := shaped_of l dp
  have q : eqA st a b = some true := by
    unfold eqA
    rw [he, h1, h2]
    simp only [s1, and_self, if_true, PySem.SeqAt.eqv_refl D l]
  unfold oNeX
  rw [hn]
  show lift ((eqA st a b).map fun c => A.bl (!c)) st = _
  rw [q]
  rfl
theorem lst_dat {st : Sto} {n m k : Nat} {xs : List A} (g : st[n]? = some (.lst xs)) (h : ∀ x ∈ xs, pd k x) (hk : k ≤ m) : ∃ Ds, allD (dat st m) xs = some Ds ∧ PyData.canLayAll0 Ds = true ∧ (PyData.list Ds).depth ≤ k + 1 ∧ dat st (m + 1) (.ref n) = some (.list Ds) := by
  obtain ⟨Ds, e, hD⟩ := allD_some (f := dat st m) (P := fun D => D.canLay0 = true ∧ D.depth ≤ k) fun x hx => pd_dat k m hk (h x hx)
  obtain ⟨l1, l2⟩ := layA hD
  refine ⟨Ds, e, l1, by rw [PyData.depth]; omega, ?_⟩
  simp only [dat, g, e, Option.map_some]
theorem neL_same {st : Sto} {n m k : Nat} {xs : List A} (g1 : st[n]? = some (.lst xs)) (g2 : st[m]? = some (.lst xs)) (h : ∀ x ∈ xs, pd k x) (hk : k ≤ 29) : oNeX (.ref n) (.ref m) st = .ok (.bl false) st := by
  have e1 : getL st (.ref n) = some xs := by
    rw [ev_getL, g1]
    rfl
  have e2 : getL st (.ref m) = some xs := by
    rw [ev_getL, g2]
    rfl
  cases xs with
  | nil =>
    have hn : nilA st (.ref n) (.ref m) = some true := by
      unfold nilA
      rw [e1, e2]
      rfl
    unfold oNeX
    rw [hn]
    rfl
  | cons x r =>
    have hn : nilA st (.ref n) (.ref m) = none := by
      unfold nilA
      rw [e1, e2]
    obtain ⟨Ds, a1, a2, a3, a4⟩ := lst_dat (m := 29) g1 h (by omega)
    obtain ⟨Es, b1, b2, b3, b4⟩ := lst_dat (m := 29) g2 h (by omega)
    rw [a1] at b1
    cases b1
    exact ne_dat a4 b4 (by rw [PyData.canLay0]; exact a2) (by omega) hn
theorem neT_nil {st : Sto} {n m : Nat} (g1 : st[n]? = some (.lst [])) (g2 : st[m]? = some (.lst [])) : oNeX (.tup [.ref n, .str (Str.ofString ""), .int 0]) (.tup [.ref m, .str (Str.ofString ""), .int 0]) st = .ok (.bl false) st := by
  have d : ∀ n : Nat, st[n]? = some (.lst []) → dat st deep (.tup [.ref n, .str (Str.ofString ""), .int 0]) = some (.tuple [.list [], .str (Str.ofString ""), .int 0]) := fun n g => by
    obtain ⟨Ds, a1, _, _, a4⟩ := lst_dat (m := 28) (k := 0) (xs := []) g (fun x hx => by cases hx) (by omega)
    cases a1
    show (allD (dat st 29) [A.ref n, .str (Str.ofString ""), .int 0]).map PyData.tuple = _
    have e1 : dat st 29 (.ref n) = some (.list []) := a4
    have e2 : dat st 29 (.str (Str.ofString "")) = some (.str (Str.ofString "")) := rfl
    have e3 : dat st 29 (.int 0) = some (.int 0) := rfl
    simp only [allD, e1, e2, e3, Option.map_some]
  exact ne_dat (d n g1) (d m g2) (by decide +kernel) (by decide +kernel) rfl

/-! ### lists of steps and of lines -/
def stA (q : Str × List A) : A := .tup (.str q.1 :: q.2)
def lnT (q : Str × List A) : Str := lineT q.1 q.2
theorem sts_of : ∀ {ys : List A}, (∀ y ∈ ys, ∃ w ps, y = .tup (.str w :: ps) ∧ StepG w ps) → ∃ sts : List (Str × List A), ys = sts.map stA ∧ ∀ q ∈ sts, StepG q.1 q.2
  | [], _ => ⟨[], rfl, fun q hq => by cases hq⟩
  | y :: ys, h => by
    obtain ⟨w, ps, rfl, hg⟩ := h y List.mem_cons_self
    obtain ⟨sts, rfl, hs⟩ := sts_of (ys := ys) fun z hz => h z (List.mem_cons_of_mem _ hz)
    exact ⟨(w, ps) :: sts, rfl, fun q hq => by
      rcases List.mem_cons.mp hq with rfl | hq
      · exact hg
      · exact hs q hq⟩
structure LsP (ys : List A) (m : Nat) (ms : List Str) : Prop where
  k : keepS ms = ys
  b : ∀ x ∈ ms, badL x = false ∧ 10 ∉ x.cps.toList ∧ x.length ≤ 65 ∧ x ≠ BLK
  l : ms.length ≤ m
theorem keepS_app (a b : List Str) : keepS (a ++ b) = keepS a ++ keepS b := by
  unfold keepS
  rw [List.map_append, List.filter_append]
theorem good_line {w : Str} {ps : List A} (h : StepG w ps) : badL (lineT w ps) = false ∧ 10 ∉ (lineT w ps).cps.toList ∧ (lineT w ps).length ≤ 65 ∧ lineT w ps ≠ BLK := by
  refine ⟨?_, fun hc => ?_, line_len h, fun e => ?_⟩
  · unfold badL
    rw [step_back h]
    rfl
  · have := line_mem h hc
    omega
  · have e1 := step_back h
    rw [e, step_blank] at e1
    cases e1
theorem keep_lines : ∀ {sts : List (Str × List A)}, (∀ q ∈ sts, StepG q.1 q.2) → keepS (sts.map lnT) = sts.map stA
  | [], _ => rfl
  | q :: sts, h => by
    have e := keep_lines (sts := sts) fun p hp => h p (List.mem_cons_of_mem _ hp)
    have e1 := step_back (h q List.mem_cons_self)
    rw [List.map_cons, List.map_cons, ← e]
    show keepS ([lineT q.1 q.2] ++ sts.map lnT) = _
    rw [keepS_app]
    unfold keepS
    rw [List.map_cons, e1]
    rfl
theorem ls_first {sts : List (Str × List A)} (h : ∀ q ∈ sts, StepG q.1 q.2) (hl : sts.length ≤ 30) : LsP (sts.map stA) 30 (sts.map lnT) := by
  refine ⟨keep_lines h, fun x hx => ?_, by rw [List.length_map]; exact hl⟩
  obtain ⟨q, hq, rfl⟩ := List.mem_map.mp hx
  exact good_line (h q hq)
theorem ls_more {ys : List A} {m r : Nat} {ms : List Str} (h : LsP ys m ms) : LsP ys (m + 1) (ms.take r ++ [Str.ofString ""] ++ ms.drop r) := by
  refine ⟨?_, fun x hx => ?_, ?_⟩
  · have e : keepS [Str.ofString ""] = [] := by
      unfold keepS
      rw [List.map_cons, step_nil]
      rfl
    rw [keepS_app, keepS_app, e, List.append_nil, ← keepS_app, List.take_append_drop]
    exact h.k
  · rcases List.mem_append.mp hx with hx | hx
    · rcases List.mem_append.mp hx with hx | hx
      · exact h.b x (List.mem_of_mem_take hx)
      · rw [List.mem_singleton.mp hx]
        refine ⟨?_, by decide +kernel, by decide +kernel, by decide +kernel⟩
        unfold badL
        rw [step_nil]
        rfl
    · exact h.b x (List.mem_of_mem_drop hx)
  · have := h.l
    rw [List.length_append, List.length_append, List.length_take, List.length_drop, List.length_singleton]
    omega
theorem split_lines {ms : List Str} (h : ∀ x ∈ ms, 10 ∉ x.cps.toList) : Txt.split (Txt.join NL ms) NL = if ms.isEmpty = true then [Str.ofString ""] else ms := by
  cases ms with
  | nil => decide +kernel
  | cons x r =>
    rw [nl_is]
    exact split_join (fun z => by cases z) h
theorem lines_sum {ys : List A} {m : Nat} {ms : List Str} (h : LsP ys m ms) : (ms.map (·.length)).sum + ms.length ≤ 66 * m := by
  have h1 := sum_le2 (f := fun x : Str => x.length) (m := 65) (r := ms) fun x hx => (h.b x hx).2.2.1
  have h2 := h.l
  omega
theorem lines_len {ys : List A} {m : Nat} {ms : List Str} (h : LsP ys m ms) : (Txt.join NL ms).length ≤ 66 * m := by
  rw [nl_is]
  exact Nat.le_trans (join_len _ _) (lines_sum h)
theorem readLines_wp {S : Sto} {ys : List A} {m : Nat} {ms : List Str} (h : LsP ys m ms) (hm : m ≤ 1000) : okR (m_read_steps [.str (Txt.join NL ms)] S) fun y t => y = .ref S.length ∧ ∃ l, t = S ++ AO.lst ys :: l := by
  have hl := lines_len h
  have hs := split_lines fun x hx => (h.b x hx).2.1
  cases ms with
  | nil =>
    have hk := h.k
    refine okR_use (readSteps_ok (by omega) hs fun x hx => ?_) fun y t ⟨e, l, et⟩ => ⟨e, l, ?_⟩
    · rw [List.mem_singleton.mp hx]
      unfold badL
      rw [step_nil]
      rfl
    · have e2 : keepS [Str.ofString ""] = ys := by
        rw [← hk]
        unfold keepS
        rw [List.map_cons, step_nil]
        rfl
      rw [et]
      show S ++ AO.lst (keepS [Str.ofString ""]) :: l = _
      rw [e2]
  | cons x r =>
    refine okR_use (readSteps_ok (by omega) hs fun y hy => (h.b y hy).1) fun y t ⟨e, l, et⟩ => ⟨e, l, ?_⟩
    rw [et]
    show S ++ AO.lst (keepS (x :: r)) :: l = _
    rw [h.k]
theorem strs_str (ms : List Str) : strsOf (ms.map A.str) = some ms := by
  rw [strsOf_map]
theorem good_pd {q : Str × List A} (h : StepG q.1 q.2) : pd 1 (stA q) := .inr ⟨_, rfl, fun x hx => by
  obtain ⟨ks, h1, h2⟩ := h.ex
  rcases List.mem_cons.mp hx with rfl | hx
  · refine .inr (.inr ⟨_, rfl, asc_mem.mpr fun c hc => ?_⟩)
    have := (h.words q.1 List.mem_cons_self).m c hc
    omega
  · obtain ⟨k, hk⟩ := fits_any h2 x hx
    rcases hk with ⟨_, n, rfl, _⟩ | ⟨_, y, rfl, hy⟩
    · exact .inr (.inl ⟨_, rfl⟩)
    · exact .inr (.inr ⟨_, rfl, asc_mem.mpr fun c hc => by have := hy.2.2 c hc; omega⟩)⟩
theorem line_asc {w : Str} {ps : List A} (h : StepG w ps) : asc (lineT w ps) = true := asc_mem.mpr fun c hc => by
  have := line_mem h hc
  omega
def lineF : A → A
  | .tup (.str w :: ps) => .str (lineT w ps)
  | _ => .non
def stepFA : A → A
  | .str x => stepR x
  | _ => .non
theorem stepsText_wp {S : Sto} {n : Nat} {sts : List (Str × List A)} (g : S[n]? = some (.lst (sts.map stA))) (h : ∀ q ∈ sts, StepG q.1 q.2) (hl : sts.length ≤ 30) : okR (m_steps_text [.ref n] S) fun y t => y = .str (Txt.join NL (sts.map lnT)) ∧ ∃ l, t = S ++ l := by
  have nm : Str.ofString "\n" = NL := rfl
  rw [st_steps_text]
  unfold b_steps_text
  simp only [wp_okR, wp_okF, wp_fin, wp_next, wp_then, wp_bind, wp_nox, wp_tK, wp_bK, wp_fr, wp_fn, wp_nn, wp_nr, wp_nb, wp_nc, wp_ln, wp_lc, wp_lb, wp_lr, wp_jn, wp_jc, ev_bok, ev_bno, ev_bex, ev_tok, ev_tno, ev_tex, ev_nnx, ev_nrt, ev_nbk, ev_nct, ev_nex, ev_nno, ev_frt, ev_fnx, ev_fex, ev_xok, ev_lsome, ev_lnone, ev_seq, ev_if, ev_ret, ev_retN, ev_drop, ev_nop, ev_brk, ev_cont, ev_asgN, ev_asgT, ev_asgO, ev_mgTup, ev_mgN, ev_mgC, ev_mg0, ev_putL, ev_putO, ev_var, ev_vr, ev_c, ev_op, ev_un, ev_test, ev_tb, ev_notT, ev_andT, ev_orT, ev_ifE, ev_not, ev_nb, ev_and, ev_andK, ev_or, ev_orK, ev_chain, ev_chK, ev_nil, ev_cons, ev_tup, ev_lst, ev_new, ev_call, ev_cb, ev_size, ev_addI, ev_addS, ev_addT, ev_addL, ev_catO, ev_sub, ev_mul, ev_div, ev_mod, ev_p5, ev_p6, ev_p12, ev_p18, ev_p30, ev_neg, ev_ltI, ev_ltS, ev_leI, ev_leS, ev_gt, ev_ge, ev_eqI, ev_eqS, ev_neI, ev_neS, ev_neB, ev_eqB, ev_is, ev_isnot, ev_ixT, ev_ixS, ev_ixR, ev_ixL, ev_ixK, ev_getL, ev_getM, ev_gL, ev_gM, ev_at0, ev_at1, ev_at2, ev_at3, ev_at4, ev_lenS, ev_lenR, ev_lenT, ev_lenL, ev_lenO, ev_lenD, ev_abs, ev_min2, ev_max2, ev_intI, ev_intB, ev_set, ev_fc, ev_setset, ev_last, ev_appk, ev_app0, ev_setk, ev_set0, ev_assoc, ev_lapp, ev_lappA, ev_sl, ev_nopart, ev_part, ev_ptK, ev_slT, ev_slS, ev_slR, ev_slK, ev_tyN, ev_tyB, ev_tyI, ev_tyS, ev_tyT, ev_tyL, ev_tyR, ev_tyRL, ev_isi, ev_isi1, ev_isi2, ev_isi3, ev_isi4, ev_isi5, ev_isiT, ev_isi2K, ev_isTy, ev_list, ev_listK, ev_tuple, ev_tupK, ev_getST, ev_getSR, ev_getSL, ev_all, ev_allK, ev_eqXI, ev_eqXS, ev_neXI, ev_neXS, ev_neXB, ev_eqXB, ev_eqXR, ev_neXR, ev_nil2, ev_eqK, ev_neK, ev_meth, ev_meth0, ev_mth1, ev_mth2, ev_mth3, ev_append, ev_m0, ev_m0K, ev_str, ev_for, ev_miR1, ev_rg1K, ev_miL, ev_liK, ev_miT, ev_tiK, ev_lc, ev_wipe0, ev_wipeS, ev_yes, ev_lenSet, ev_lenSetK, ev_listR, ev_lrK, ev_put2, ev_p2A, ev_p2K, ev_p2E, ev_put1, ev_pt1, ev_addXI, ev_addXB, ev_addXS, ev_addXT, ev_addXL, ev_subXI, ev_subXB, ev_mulXI, ev_mulXB, ev_mulXL, ev_negXI, ev_negXB, ev_strXI, ev_strXB, ev_mulYI, ev_mulYB, ev_mulYL, ev_mulYT, ev_dnew, ev_dnewT, ev_dgetE, ev_getD, ev_gD, ev_keyI, ev_keyS, ev_dgK, ev_dinE, ev_diK, ev_dputE, ev_dpK, ev_dget2E, ev_isDA, ev_isSome, ev_isNone, ev_dg2K, ev_dpop2E, ev_dp2K, ev_dp3S, ev_dp3N, ev_sortedE, ev_srO1, ev_srO2, ev_gLd, ev_srKS, ev_srKI, ev_gDT, ev_gT, ev_tinE, ev_tiKK, ev_keysA, ev_keysN, ev_keysC, ev_dputTE, ev_dptK, ev_dispE, ev_mpN, ev_mpC, ev_pcK, ev_dsK, ev_dsK2, ev_lc2E, ev_imp, ev_simp, ev_split, ev_splF, ev_splG, ev_fmt, ev_fmtS, ev_fmtI, ev_addK, ev_js0, ev_js1, ev_joined, ev_star, ev_starK, ev_each2, ev_each2K, ev_unl, ev_unlK, ev_intS, ev_strYS, ev_strYI, ev_fldE, ev_getI, ev_gI, ev_fdK, ev_fldS, ev_fpK, ev_mtE, ev_miK, ev_mkE, ev_mkK, ev_callE, ev_tryAs, ev_raise0, ev_raise1, ev_raiseN, ev_revS, ev_revK, ev_zip, ev_enumF, ev_enum, ev_kget, ev_kgK, ev_index, ev_mjoin, ev_joinG, ev_joinK, ev_sbind, ev_miS, ev_siK, ev_truS, List.getElem?_cons_zero, List.getElem?_cons_succ, List.set_cons_zero, List.set_cons_succ, List.length_cons, List.length_nil, List.cons_append, List.nil_append, if_true, if_false, Bool.false_eq_true, Bool.true_eq_false, reduceIte, Bool.not_true, Bool.not_false, Bool.and_true, Bool.true_and, Bool.and_false, Bool.false_and, Bool.or_true, Bool.true_or, Bool.or_false, Bool.false_or, decide_eq_true_eq, Nat.reduceAdd, Nat.reduceLeDiff, Nat.zero_add, Int.reduceLT, Int.reduceLE, Int.reduceEq, Int.reduceNeg, Nat.reduceEqDiff, and_self, and_true, true_and, decide_true, decide_false, eq_self, ite_true, ite_false, Int.reduceSub, Int.reduceAdd, Int.cast_ofNat_Int, Int.natCast_add, Int.cast_ofNat_Int, Nat.reduceSub, Nat.add_assoc, String.reduceBEq, String.reduceEq, Bool.or_not_self, beq_self_eq_true, nm, g]
  refine lc_M lineF (fun k => ?_) (by rw [List.length_map]; omega) (fun x hx => ?_) (fun l' => ?_)
  · show getL (S ++ k) (.ref n) = _
    rw [ev_getL, List.getElem?_append_left (List.getElem?_eq_some_iff.mp g).1, g]
    rfl
  · obtain ⟨q, hq, rfl⟩ := List.mem_map.mp hx
    refine ⟨_, rfl, fun k => ?_⟩
    simp only [wp_okR, wp_okF, wp_fin, wp_next, wp_then, wp_bind, wp_nox, wp_tK, wp_bK, wp_fr, wp_fn, wp_nn, wp_nr, wp_nb, wp_nc, wp_ln, wp_lc, wp_lb, wp_lr, wp_jn, wp_jc, ev_bok, ev_bno, ev_bex, ev_tok, ev_tno, ev_tex, ev_nnx, ev_nrt, ev_nbk, ev_nct, ev_nex, ev_nno, ev_frt, ev_fnx, ev_fex, ev_xok, ev_lsome, ev_lnone, ev_seq, ev_if, ev_ret, ev_retN, ev_drop, ev_nop, ev_brk, ev_cont, ev_asgN, ev_asgT, ev_asgO, ev_mgTup, ev_mgN, ev_mgC, ev_mg0, ev_putL, ev_putO, ev_var, ev_vr, ev_c, ev_op, ev_un, ev_test, ev_tb, ev_notT, ev_andT, ev_orT, ev_ifE, ev_not, ev_nb, ev_and, ev_andK, ev_or, ev_orK, ev_chain, ev_chK, ev_nil, ev_cons, ev_tup, ev_lst, ev_new, ev_call, ev_cb, ev_size, ev_addI, ev_addS, ev_addT, ev_addL, ev_catO, ev_sub, ev_mul, ev_div, ev_mod, ev_p5, ev_p6, ev_p12, ev_p18, ev_p30, ev_neg, ev_ltI, ev_ltS, ev_leI, ev_leS, ev_gt, ev_ge, ev_eqI, ev_eqS, ev_neI, ev_neS, ev_neB, ev_eqB, ev_is, ev_isnot, ev_ixT, ev_ixS, ev_ixR, ev_ixL, ev_ixK, ev_getL, ev_getM, ev_gL, ev_gM, ev_at0, ev_at1, ev_at2, ev_at3, ev_at4, ev_lenS, ev_lenR, ev_lenT, ev_lenL, ev_lenO, ev_lenD, ev_abs, ev_min2, ev_max2, ev_intI, ev_intB, ev_set, ev_fc, ev_setset, ev_last, ev_appk, ev_app0, ev_setk, ev_set0, ev_assoc, ev_lapp, ev_lappA, ev_sl, ev_nopart, ev_part, ev_ptK, ev_slT, ev_slS, ev_slR, ev_slK, ev_tyN, ev_tyB, ev_tyI, ev_tyS, ev_tyT, ev_tyL, ev_tyR, ev_tyRL, ev_isi, ev_isi1, ev_isi2, ev_isi3, ev_isi4, ev_isi5, ev_isiT, ev_isi2K, ev_isTy, ev_list, ev_listK, ev_tuple, ev_tupK, ev_getST, ev_getSR, ev_getSL, ev_all, ev_allK, ev_eqXI, ev_eqXS, ev_neXI, ev_neXS, ev_neXB, ev_eqXB, ev_eqXR, ev_neXR, ev_nil2, ev_eqK, ev_neK, ev_meth, ev_meth0, ev_mth1, ev_mth2, ev_mth3, ev_append, ev_m0, ev_m0K, ev_str, ev_for, ev_miR1, ev_rg1K, ev_miL, ev_liK, ev_miT, ev_tiK, ev_lc, ev_wipe0, ev_wipeS, ev_yes, ev_lenSet, ev_lenSetK, ev_listR, ev_lrK, ev_put2, ev_p2A, ev_p2K, ev_p2E, ev_put1, ev_pt1, ev_addXI, ev_addXB, ev_addXS, ev_addXT, ev_addXL, ev_subXI, ev_subXB, ev_mulXI, ev_mulXB, ev_mulXL, ev_negXI, ev_negXB, ev_strXI, ev_strXB, ev_mulYI, ev_mulYB, ev_mulYL, ev_mulYT, ev_dnew, ev_dnewT, ev_dgetE, ev_getD, ev_gD, ev_keyI, ev_keyS, ev_dgK, ev_dinE, ev_diK, ev_dputE, ev_dpK, ev_dget2E, ev_isDA, ev_isSome, ev_isNone, ev_dg2K, ev_dpop2E, ev_dp2K, ev_dp3S, ev_dp3N, ev_sortedE, ev_srO1, ev_srO2, ev_gLd, ev_srKS, ev_srKI, ev_gDT, ev_gT, ev_tinE, ev_tiKK, ev_keysA, ev_keysN, ev_keysC, ev_dputTE, ev_dptK, ev_dispE, ev_mpN, ev_mpC, ev_pcK, ev_dsK, ev_dsK2, ev_lc2E, ev_imp, ev_simp, ev_split, ev_splF, ev_splG, ev_fmt, ev_fmtS, ev_fmtI, ev_addK, ev_js0, ev_js1, ev_joined, ev_star, ev_starK, ev_each2, ev_each2K, ev_unl, ev_unlK, ev_intS, ev_strYS, ev_strYI, ev_fldE, ev_getI, ev_gI, ev_fdK, ev_fldS, ev_fpK, ev_mtE, ev_miK, ev_mkE, ev_mkK, ev_callE, ev_tryAs, ev_raise0, ev_raise1, ev_raiseN, ev_revS, ev_revK, ev_zip, ev_enumF, ev_enum, ev_kget, ev_kgK, ev_index, ev_mjoin, ev_joinG, ev_joinK, ev_sbind, ev_miS, ev_siK, ev_truS, List.getElem?_cons_zero, List.getElem?_cons_succ, List.set_cons_zero, List.set_cons_succ, List.length_cons, List.length_nil, List.cons_append, List.nil_append, if_true, if_false, Bool.false_eq_true, Bool.true_eq_false, reduceIte, Bool.not_true, Bool.not_false, Bool.and_true, Bool.true_and, Bool.and_false, Bool.false_and, Bool.or_true, Bool.true_or, Bool.or_false, Bool.false_or, decide_eq_true_eq, Nat.reduceAdd, Nat.reduceLeDiff, Nat.zero_add, Int.reduceLT, Int.reduceLE, Int.reduceEq, Int.reduceNeg, Nat.reduceEqDiff, and_self, and_true, true_and, decide_true, decide_false, eq_self, ite_true, ite_false, Int.reduceSub, Int.reduceAdd, Int.cast_ofNat_Int, Int.natCast_add, Int.cast_ofNat_Int, Nat.reduceSub, Nat.add_assoc, String.reduceBEq, String.reduceEq, Bool.or_not_self, beq_self_eq_true]
    refine okR_use (stepText_wp (h q hq)) fun a s hh => ?_
    obtain ⟨rfl, k2, rfl⟩ := hh
    exact ⟨rfl, k2, List.append_assoc _ _ _⟩
  · have e1 : (sts.map stA).map lineF = (sts.map lnT).map A.str := by
      rw [List.map_map, List.map_map]
      rfl
    have e2 := strs_str (sts.map lnT)
    have hs := lines_sum (ls_first h hl)
    have hb : NL.length = 1 := by decide +kernel
    have u : ((sts.map lnT).map (·.length)).sum + (sts.map lnT).length * 1 ≤ 16777216 := by omega
    rw [e1]
    simp only [wp_okR, wp_okF, wp_fin, wp_next, wp_then, wp_bind, wp_nox, wp_tK, wp_bK, wp_fr, wp_fn, wp_nn, wp_nr, wp_nb, wp_nc, wp_ln, wp_lc, wp_lb, wp_lr, wp_jn, wp_jc, ev_bok, ev_bno, ev_bex, ev_tok, ev_tno, ev_tex, ev_nnx, ev_nrt, ev_nbk, ev_nct, ev_nex, ev_nno, ev_frt, ev_fnx, ev_fex, ev_xok, ev_lsome, ev_lnone, ev_seq, ev_if, ev_ret, ev_retN, ev_drop, ev_nop, ev_brk, ev_cont, ev_asgN, ev_asgT, ev_asgO, ev_mgTup, ev_mgN, ev_mgC, ev_mg0, ev_putL, ev_putO, ev_var, ev_vr, ev_c, ev_op, ev_un, ev_test, ev_tb, ev_notT, ev_andT, ev_orT, ev_ifE, ev_not, ev_nb, ev_and, ev_andK, ev_or, ev_orK, ev_chain, ev_chK, ev_nil, ev_cons, ev_tup, ev_lst, ev_new, ev_call, ev_cb, ev_size, ev_addI, ev_addS, ev_addT, ev_addL, ev_catO, ev_sub, ev_mul, ev_div, ev_mod, ev_p5, ev_p6, ev_p12, ev_p18, ev_p30, ev_neg, ev_ltI, ev_ltS, ev_leI, ev_leS, ev_gt, ev_ge, ev_eqI, ev_eqS, ev_neI, ev_neS, ev_neB, ev_eqB, ev_is, ev_isnot, ev_ixT, ev_ixS, ev_ixR, ev_ixL, ev_ixK, ev_getL, ev_getM, ev_gL, ev_gM, ev_at0, ev_at1, ev_at2, ev_at3, ev_at4, ev_lenS, ev_lenR, ev_lenT, ev_lenL, ev_lenO, ev_lenD, ev_abs, ev_min2, ev_max2, ev_intI, ev_intB, ev_set, ev_fc, ev_setset, ev_last, ev_appk, ev_app0, ev_setk, ev_set0, ev_assoc, ev_lapp, ev_lappA, ev_sl, ev_nopart, ev_part, ev_ptK, ev_slT, ev_slS, ev_slR, ev_slK, ev_tyN, ev_tyB, ev_tyI, ev_tyS, ev_tyT, ev_tyL, ev_tyR, ev_tyRL, ev_isi, ev_isi1, ev_isi2, ev_isi3, ev_isi4, ev_isi5, ev_isiT, ev_isi2K, ev_isTy, ev_list, ev_listK, ev_tuple, ev_tupK, ev_getST, ev_getSR, ev_getSL, ev_all, ev_allK, ev_eqXI, ev_eqXS, ev_neXI, ev_neXS, ev_neXB, ev_eqXB, ev_eqXR, ev_neXR, ev_nil2, ev_eqK, ev_neK, ev_meth, ev_meth0, ev_mth1, ev_mth2, ev_mth3, ev_append, ev_m0, ev_m0K, ev_str, ev_for, ev_miR1, ev_rg1K, ev_miL, ev_liK, ev_miT, ev_tiK, ev_lc, ev_wipe0, ev_wipeS, ev_yes, ev_lenSet, ev_lenSetK, ev_listR, ev_lrK, ev_put2, ev_p2A, ev_p2K, ev_p2E, ev_put1, ev_pt1, ev_addXI, ev_addXB, ev_addXS, ev_addXT, ev_addXL, ev_subXI, ev_subXB, ev_mulXI, ev_mulXB, ev_mulXL, ev_negXI, ev_negXB, ev_strXI, ev_strXB, ev_mulYI, ev_mulYB, ev_mulYL, ev_mulYT, ev_dnew, ev_dnewT, ev_dgetE, ev_getD, ev_gD, ev_keyI, ev_keyS, ev_dgK, ev_dinE, ev_diK, ev_dputE, ev_dpK, ev_dget2E, ev_isDA, ev_isSome, ev_isNone, ev_dg2K, ev_dpop2E, ev_dp2K, ev_dp3S, ev_dp3N, ev_sortedE, ev_srO1, ev_srO2, ev_gLd, ev_srKS, ev_srKI, ev_gDT, ev_gT, ev_tinE, ev_tiKK, ev_keysA, ev_keysN, ev_keysC, ev_dputTE, ev_dptK, ev_dispE, ev_mpN, ev_mpC, ev_pcK, ev_dsK, ev_dsK2, ev_lc2E, ev_imp, ev_simp, ev_split, ev_splF, ev_splG, ev_fmt, ev_fmtS, ev_fmtI, ev_addK, ev_js0, ev_js1, ev_joined, ev_star, ev_starK, ev_each2, ev_each2K, ev_unl, ev_unlK, ev_intS, ev_strYS, ev_strYI, ev_fldE, ev_getI, ev_gI, ev_fdK, ev_fldS, ev_fpK, ev_mtE, ev_miK, ev_mkE, ev_mkK, ev_callE, ev_tryAs, ev_raise0, ev_raise1, ev_raiseN, ev_revS, ev_revK, ev_zip, ev_enumF, ev_enum, ev_kget, ev_kgK, ev_index, ev_mjoin, ev_joinG, ev_joinK, ev_sbind, ev_miS, ev_siK, ev_truS, List.getElem?_cons_zero, List.getElem?_cons_succ, List.set_cons_zero, List.set_cons_succ, List.length_cons, List.length_nil, List.cons_append, List.nil_append, if_true, if_false, Bool.false_eq_true, Bool.true_eq_false, reduceIte, Bool.not_true, Bool.not_false, Bool.and_true, Bool.true_and, Bool.and_false, Bool.false_and, Bool.or_true, Bool.true_or, Bool.or_false, Bool.false_or, decide_eq_true_eq, Nat.reduceAdd, Nat.reduceLeDiff, Nat.zero_add, Int.reduceLT, Int.reduceLE, Int.reduceEq, Int.reduceNeg, Nat.reduceEqDiff, and_self, and_true, true_and, decide_true, decide_false, eq_self, ite_true, ite_false, Int.reduceSub, Int.reduceAdd, Int.cast_ofNat_Int, Int.natCast_add, Int.cast_ofNat_Int, Nat.reduceSub, Nat.add_assoc, String.reduceBEq, String.reduceEq, Bool.or_not_self, beq_self_eq_true, e2, hb, u]
    exact ⟨_, rfl⟩

/-! ### one round of the law -/
theorem bag_wp {st : Sto} {ns : List Int} {k : Int} (hk : 0 ≤ k) (hk2 : k < 100) : okR (m__law_bag [.lit (ns.map A.int), .int k] st) fun a t => a = .ref st.length ∧ ∃ o, t = st ++ [o] ∧ BagAt t st.length := by
  obtain ⟨o, e, B⟩ := bag_ev (st := st) (ns := ns) hk hk2
  exact okR_of ⟨_, _, e, rfl, o, rfl, B⟩
theorem app_get {S l : Sto} {n : Nat} {o : AO} (h : S[n]? = some o) : (S ++ l)[n]? = some o := by
  rw [List.getElem?_append_left (List.getElem?_eq_some_iff.mp h).1, h]
theorem mid_get {S l : Sto} {o : AO} : (S ++ o :: l)[S.length]? = some o := by
  rw [List.getElem?_append_right (Nat.le_refl _), Nat.sub_self]
  rfl
/-- the store in a round: the bag, the steps, the lines -/
structure Rnd (b n4 n5 : Nat) (sts : List (Str × List A)) (m : Nat) (ms : List Str) (s : Sto) : Prop where
  bag : BagAt s b
  g4 : s[n4]? = some (.lst (sts.map stA))
  g5 : s[n5]? = some (.lst (ms.map A.str))
  ls : LsP (sts.map stA) m ms
  ok : ∀ q ∈ sts, StepG q.1 q.2
  b4 : n4 ≠ b
  b5 : n5 ≠ b
  n45 : n5 ≠ n4
theorem Rnd.app {b n4 n5 m : Nat} {sts : List (Str × List A)} {ms : List Str} {s : Sto} (h : Rnd b n4 n5 sts m ms s) (l : Sto) : Rnd b n4 n5 sts m ms (s ++ l) := ⟨h.bag.apps l, app_get h.g4, app_get h.g5, h.ls, h.ok, h.b4, h.b5, h.n45⟩
theorem Rnd.dr {b n4 n5 m : Nat} {sts : List (Str × List A)} {ms : List Str} {s t : Sto} (h : Rnd b n4 n5 sts m ms s) (d : Dr b s t) : Rnd b n4 n5 sts m ms t := ⟨d.bag, d.get h.g4 h.b4, d.get h.g5 h.b5, h.ls, h.ok, h.b4, h.b5, h.n45⟩
theorem ins_is {ms : List Str} {r : Int} {x : Str} (hl : ms.length ≤ 2000) (r0 : 0 ≤ r) (r1 : r < 4000) : oInsert (ms.map A.str) [.int r, .str x] = some (.non, (ms.take r.toNat ++ [x] ++ ms.drop r.toNat).map A.str) := by
  have e : (ms.take r.toNat ++ [x] ++ ms.drop r.toNat).map A.str = (ms.map A.str).take r.toNat ++ [A.str x] ++ (ms.map A.str).drop r.toNat := by
    rw [List.map_append, List.map_append, List.map_take, List.map_drop]
    rfl
  rw [e]
  exact if_pos ⟨by rw [List.length_map]; exact Nat.lt_of_le_of_lt hl (by decide), r0, by omega⟩
theorem Rnd.put {b n4 n5 m m2 : Nat} {sts : List (Str × List A)} {ms ms2 : List Str} {s : Sto} (h : Rnd b n4 n5 sts m ms s) (h2 : LsP (sts.map stA) m2 ms2) : Rnd b n4 n5 sts m2 ms2 (s.set n5 (.lst (ms2.map A.str))) :=
  ⟨h.bag.put _ h.b5, by rw [List.getElem?_set_ne h.n45]; exact h.g4, List.getElem?_set_self (List.getElem?_eq_some_iff.mp h.g5).1, h2, h.ok, h.b4, h.b5, h.n45⟩
theorem ins_wp {e0 e1 e3 e6 e7 : Option A} {b n4 n5 m : Nat} {sts : List (Str × List A)} {ms : List Str} {s : Sto} (h : Rnd b n4 n5 sts m ms s) (hm : m ≤ 999) :
    okF (lb_law_1 [e0, e1, some (.ref b), e3, some (.ref n4), some (.ref n5), e6, e7] s) fun f t => f = .nx [e0, e1, some (.ref b), e3, some (.ref n4), some (.ref n5), e6, e7] ∧ ∃ ms', Rnd b n4 n5 sts (m + 1) ms' t := by
  unfold lb_law_1
  have hl := h.ls.l
  have g5 := h.g5
  simp only [wp_okR, wp_okF, wp_fin, wp_next, wp_then, wp_bind, wp_nox, wp_tK, wp_bK, wp_fr, wp_fn, wp_nn, wp_nr, wp_nb, wp_nc, wp_ln, wp_lc, wp_lb, wp_lr, wp_jn, wp_jc, ev_bok, ev_bno, ev_bex, ev_tok, ev_tno, ev_tex, ev_nnx, ev_nrt, ev_nbk, ev_nct, ev_nex, ev_nno, ev_frt, ev_fnx, ev_fex, ev_xok, ev_lsome, ev_lnone, ev_seq, ev_if, ev_ret, ev_retN, ev_drop, ev_nop, ev_brk, ev_cont, ev_asgN, ev_asgT, ev_asgO, ev_mgTup, ev_mgN, ev_mgC, ev_mg0, ev_putL, ev_putO, ev_var, ev_vr, ev_c, ev_op, ev_un, ev_test, ev_tb, ev_notT, ev_andT, ev_orT, ev_ifE, ev_not, ev_nb, ev_and, ev_andK, ev_or, ev_orK, ev_chain, ev_chK, ev_nil, ev_cons, ev_tup, ev_lst, ev_new, ev_call, ev_cb, ev_size, ev_addI, ev_addS, ev_addT, ev_addL, ev_catO, ev_sub, ev_mul, ev_div, ev_mod, ev_p5, ev_p6, ev_p12, ev_p18, ev_p30, ev_neg, ev_ltI, ev_ltS, ev_leI, ev_leS, ev_gt, ev_ge, ev_eqI, ev_eqS, ev_neI, ev_neS, ev_neB, ev_eqB, ev_is, ev_isnot, ev_ixT, ev_ixS, ev_ixR, ev_ixL, ev_ixK, ev_getL, ev_getM, ev_gL, ev_gM, ev_at0, ev_at1, ev_at2, ev_at3, ev_at4, ev_lenS, ev_lenR, ev_lenT, ev_lenL, ev_lenO, ev_lenD, ev_abs, ev_min2, ev_max2, ev_intI, ev_intB, ev_set, ev_fc, ev_setset, ev_last, ev_appk, ev_app0, ev_setk, ev_set0, ev_assoc, ev_lapp, ev_lappA, ev_sl, ev_nopart, ev_part, ev_ptK, ev_slT, ev_slS, ev_slR, ev_slK, ev_tyN, ev_tyB, ev_tyI, ev_tyS, ev_tyT, ev_tyL, ev_tyR, ev_tyRL, ev_isi, ev_isi1, ev_isi2, ev_isi3, ev_isi4, ev_isi5, ev_isiT, ev_isi2K, ev_isTy, ev_list, ev_listK, ev_tuple, ev_tupK, ev_getST, ev_getSR, ev_getSL, ev_all, ev_allK, ev_eqXI, ev_eqXS, ev_neXI, ev_neXS, ev_neXB, ev_eqXB, ev_eqXR, ev_neXR, ev_nil2, ev_eqK, ev_neK, ev_meth, ev_meth0, ev_mth1, ev_mth2, ev_mth3, ev_append, ev_m0, ev_m0K, ev_str, ev_for, ev_miR1, ev_rg1K, ev_miL, ev_liK, ev_miT, ev_tiK, ev_lc, ev_wipe0, ev_wipeS, ev_yes, ev_lenSet, ev_lenSetK, ev_listR, ev_lrK, ev_put2, ev_p2A, ev_p2K, ev_p2E, ev_put1, ev_pt1, ev_addXI, ev_addXB, ev_addXS, ev_addXT, ev_addXL, ev_subXI, ev_subXB, ev_mulXI, ev_mulXB, ev_mulXL, ev_negXI, ev_negXB, ev_strXI, ev_strXB, ev_mulYI, ev_mulYB, ev_mulYL, ev_mulYT, ev_dnew, ev_dnewT, ev_dgetE, ev_getD, ev_gD, ev_keyI, ev_keyS, ev_dgK, ev_dinE, ev_diK, ev_dputE, ev_dpK, ev_dget2E, ev_isDA, ev_isSome, ev_isNone, ev_dg2K, ev_dpop2E, ev_dp2K, ev_dp3S, ev_dp3N, ev_sortedE, ev_srO1, ev_srO2, ev_gLd, ev_srKS, ev_srKI, ev_gDT, ev_gT, ev_tinE, ev_tiKK, ev_keysA, ev_keysN, ev_keysC, ev_dputTE, ev_dptK, ev_dispE, ev_mpN, ev_mpC, ev_pcK, ev_dsK, ev_dsK2, ev_lc2E, ev_imp, ev_simp, ev_split, ev_splF, ev_splG, ev_fmt, ev_fmtS, ev_fmtI, ev_addK, ev_js0, ev_js1, ev_joined, ev_star, ev_starK, ev_each2, ev_each2K, ev_unl, ev_unlK, ev_intS, ev_strYS, ev_strYI, ev_fldE, ev_getI, ev_gI, ev_fdK, ev_fldS, ev_fpK, ev_mtE, ev_miK, ev_mkE, ev_mkK, ev_callE, ev_tryAs, ev_raise0, ev_raise1, ev_raiseN, ev_revS, ev_revK, ev_zip, ev_enumF, ev_enum, ev_kget, ev_kgK, ev_index, ev_mjoin, ev_joinG, ev_joinK, ev_sbind, ev_miS, ev_siK, ev_truS, List.getElem?_cons_zero, List.getElem?_cons_succ, List.set_cons_zero, List.set_cons_succ, List.length_cons, List.length_nil, List.cons_append, List.nil_append, if_true, if_false, Bool.false_eq_true, Bool.true_eq_false, reduceIte, Bool.not_true, Bool.not_false, Bool.and_true, Bool.true_and, Bool.and_false, Bool.false_and, Bool.or_true, Bool.true_or, Bool.or_false, Bool.false_or, decide_eq_true_eq, Nat.reduceAdd, Nat.reduceLeDiff, Nat.zero_add, Int.reduceLT, Int.reduceLE, Int.reduceEq, Int.reduceNeg, Nat.reduceEqDiff, and_self, and_true, true_and, decide_true, decide_false, eq_self, ite_true, ite_false, Int.reduceSub, Int.reduceAdd, Int.cast_ofNat_Int, Int.natCast_add, Int.cast_ofNat_Int, Nat.reduceSub, Nat.add_assoc, String.reduceBEq, String.reduceEq, Bool.or_not_self, beq_self_eq_true, g5, List.length_map]
  refine okR_use (take_wp h.bag (by omega) (by omega)) fun a t hh => ?_
  obtain ⟨r, rfl, r0, r1, D⟩ := hh
  have h2 := h.dr D
  have g52 := h2.g5
  have oi := ins_is (ms := ms) (x := Str.ofString "") (by omega) r0 (by omega)
  simp only [wp_okR, wp_okF, wp_fin, wp_next, wp_then, wp_bind, wp_nox, wp_tK, wp_bK, wp_fr, wp_fn, wp_nn, wp_nr, wp_nb, wp_nc, wp_ln, wp_lc, wp_lb, wp_lr, wp_jn, wp_jc, ev_bok, ev_bno, ev_bex, ev_tok, ev_tno, ev_tex, ev_nnx, ev_nrt, ev_nbk, ev_nct, ev_nex, ev_nno, ev_frt, ev_fnx, ev_fex, ev_xok, ev_lsome, ev_lnone, ev_seq, ev_if, ev_ret, ev_retN, ev_drop, ev_nop, ev_brk, ev_cont, ev_asgN, ev_asgT, ev_asgO, ev_mgTup, ev_mgN, ev_mgC, ev_mg0, ev_putL, ev_putO, ev_var, ev_vr, ev_c, ev_op, ev_un, ev_test, ev_tb, ev_notT, ev_andT, ev_orT, ev_ifE, ev_not, ev_nb, ev_and, ev_andK, ev_or, ev_orK, ev_chain, ev_chK, ev_nil, ev_cons, ev_tup, ev_lst, ev_new, ev_call, ev_cb, ev_size, ev_addI, ev_addS, ev_addT, ev_addL, ev_catO, ev_sub, ev_mul, ev_div, ev_mod, ev_p5, ev_p6, ev_p12, ev_p18, ev_p30, ev_neg, ev_ltI, ev_ltS, ev_leI, ev_leS, ev_gt, ev_ge, ev_eqI, ev_eqS, ev_neI, ev_neS, ev_neB, ev_eqB, ev_is, ev_isnot, ev_ixT, ev_ixS, ev_ixR, ev_ixL, ev_ixK, ev_getL, ev_getM, ev_gL, ev_gM, ev_at0, ev_at1, ev_at2, ev_at3, ev_at4, ev_lenS, ev_lenR, ev_lenT, ev_lenL, ev_lenO, ev_lenD, ev_abs, ev_min2, ev_max2, ev_intI, ev_intB, ev_set, ev_fc, ev_setset, ev_last, ev_appk, ev_app0, ev_setk, ev_set0, ev_assoc, ev_lapp, ev_lappA, ev_sl, ev_nopart, ev_part, ev_ptK, ev_slT, ev_slS, ev_slR, ev_slK, ev_tyN, ev_tyB, ev_tyI, ev_tyS, ev_tyT, ev_tyL, ev_tyR, ev_tyRL, ev_isi, ev_isi1, ev_isi2, ev_isi3, ev_isi4, ev_isi5, ev_isiT, ev_isi2K, ev_isTy, ev_list, ev_listK, ev_tuple, ev_tupK, ev_getST, ev_getSR, ev_getSL, ev_all, ev_allK, ev_eqXI, ev_eqXS, ev_neXI, ev_neXS, ev_neXB, ev_eqXB, ev_eqXR, ev_neXR, ev_nil2, ev_eqK, ev_neK, ev_meth, ev_meth0, ev_mth1, ev_mth2, ev_mth3, ev_append, ev_m0, ev_m0K, ev_str, ev_for, ev_miR1, ev_rg1K, ev_miL, ev_liK, ev_miT, ev_tiK, ev_lc, ev_wipe0, ev_wipeS, ev_yes, ev_lenSet, ev_lenSetK, ev_listR, ev_lrK, ev_put2, ev_p2A, ev_p2K, ev_p2E, ev_put1, ev_pt1, ev_addXI, ev_addXB, ev_addXS, ev_addXT, ev_addXL, ev_subXI, ev_subXB, ev_mulXI, ev_mulXB, ev_mulXL, ev_negXI, ev_negXB, ev_strXI, ev_strXB, ev_mulYI, ev_mulYB, ev_mulYL, ev_mulYT, ev_dnew, ev_dnewT, ev_dgetE, ev_getD, ev_gD, ev_keyI, ev_keyS, ev_dgK, ev_dinE, ev_diK, ev_dputE, ev_dpK, ev_dget2E, ev_isDA, ev_isSome, ev_isNone, ev_dg2K, ev_dpop2E, ev_dp2K, ev_dp3S, ev_dp3N, ev_sortedE, ev_srO1, ev_srO2, ev_gLd, ev_srKS, ev_srKI, ev_gDT, ev_gT, ev_tinE, ev_tiKK, ev_keysA, ev_keysN, ev_keysC, ev_dputTE, ev_dptK, ev_dispE, ev_mpN, ev_mpC, ev_pcK, ev_dsK, ev_dsK2, ev_lc2E, ev_imp, ev_simp, ev_split, ev_splF, ev_splG, ev_fmt, ev_fmtS, ev_fmtI, ev_addK, ev_js0, ev_js1, ev_joined, ev_star, ev_starK, ev_each2, ev_each2K, ev_unl, ev_unlK, ev_intS, ev_strYS, ev_strYI, ev_fldE, ev_getI, ev_gI, ev_fdK, ev_fldS, ev_fpK, ev_mtE, ev_miK, ev_mkE, ev_mkK, ev_callE, ev_tryAs, ev_raise0, ev_raise1, ev_raiseN, ev_revS, ev_revK, ev_zip, ev_enumF, ev_enum, ev_kget, ev_kgK, ev_index, ev_mjoin, ev_joinG, ev_joinK, ev_sbind, ev_miS, ev_siK, ev_truS, List.getElem?_cons_zero, List.getElem?_cons_succ, List.set_cons_zero, List.set_cons_succ, List.length_cons, List.length_nil, List.cons_append, List.nil_append, if_true, if_false, Bool.false_eq_true, Bool.true_eq_false, reduceIte, Bool.not_true, Bool.not_false, Bool.and_true, Bool.true_and, Bool.and_false, Bool.false_and, Bool.or_true, Bool.true_or, Bool.or_false, Bool.false_or, decide_eq_true_eq, Nat.reduceAdd, Nat.reduceLeDiff, Nat.zero_add, Int.reduceLT, Int.reduceLE, Int.reduceEq, Int.reduceNeg, Nat.reduceEqDiff, and_self, and_true, true_and, decide_true, decide_false, eq_self, ite_true, ite_false, Int.reduceSub, Int.reduceAdd, Int.cast_ofNat_Int, Int.natCast_add, Int.cast_ofNat_Int, Nat.reduceSub, Nat.add_assoc, String.reduceBEq, String.reduceEq, Bool.or_not_self, beq_self_eq_true, g52, oi]
  exact ⟨_, h2.put (ls_more h2.ls)⟩
/-! the statements of a round -/
noncomputable def rdA4 : MS := (sIf (mOrT (mTest (mOp oNeX (mCall 1 m_steps_text (mCons (mVar 4) mNil)) (mJoin (mC (.str "\n")) (mVar 5)))) (mTest (mOp oNeX (mLc (miL (mVar 4)) (mgName 6) mYes (mCall 1 m_step_text (mCons (mVar 6) mNil)) [6]) (mVar 5))))
 (sRet (mC (.bl false)))
 sNext)
noncomputable def rdA5 : MS := (sIf (mOrT (mTest (mOp oNeX (mLc (miL (mVar 5)) (mgName 7) mYes (mCall 1 m_read_step (mCons (mVar 7) mNil)) [7]) (mVar 4))) (mTest (mOp oNeX (mCall 1 m_read_steps (mCons (mJoin (mC (.str "\n")) (mVar 5)) mNil)) (mVar 4))))
 (sRet (mC (.bl false)))
 sNext)
noncomputable def rdA6 : MS := (sFor (miR1 (mCons (mCall 2 m__law_take (mCons (mVar 2) (mCons (mC (.int 6)) mNil))) mNil)) (mgName 3)
 lb_law_1)
noncomputable def rdA7 : MS := (sIf (mTest (mOp oNeX (mCall 1 m_read_steps (mCons (mJoin (mC (.str "\n")) (mVar 5)) mNil)) (mVar 4)))
 (sRet (mC (.bl false)))
 sNext)
noncomputable def rdA8 : MS := (sDrop (mMeth oInsert (mVar 5) (mCons (mCall 2 m__law_take (mCons (mVar 2) (mCons (mOp oAddX (mCB oLen (mCons (mVar 5) mNil)) (mC (.int 1))) mNil))) (mCons (mC (.str " ")) mNil))))
noncomputable def rdA9 : MS := (sIf (mTest (mOp oNeX (mSl oSl (mCall 2 m__law_no_text (mCons (mC (.int 2)) (mCons (mJoin (mC (.str "\n")) (mVar 5)) mNil))) (mPart (mC (.int 1))) mNoPart) (mTup (mCons (mC (.str "told NoText+")) (mCons (mOp oAddX (mIndex (mVar 5) (mCons (mC (.str " ")) mNil)) (mC (.int 1))) mNil)))))
 (sRet (mC (.bl false)))
 sNext)
theorem round_is : lb_law_2 = sSeq (sAsg (mCall 2 m__law_bag (mCons (mVar 0) (mCons (mVar 1) mNil))) (mgName 2))
 (sSeq (sAsg (mLc (miR1 (mCons (mCall 2 m__law_take (mCons (mVar 2) (mCons (mC (.int 31)) mNil))) mNil)) (mgName 3) mYes (mCall 1 m__law_any_step (mCons (mVar 2) mNil)) [3]) (mgName 4))
 (sSeq (sAsg (mLc (miL (mVar 4)) (mgName 6) mYes (mCall 1 m__law_line (mCons (mVar 6) mNil)) [6]) (mgName 5)) (sSeq rdA4 (sSeq rdA5 (sSeq rdA6 (sSeq rdA7 (sSeq rdA8 rdA9))))))) := rfl
def envR (e0 e1 e3 e6 e7 : Option A) (b n4 n5 : Nat) : AEnv := [e0, e1, some (.ref b), e3, some (.ref n4), some (.ref n5), e6, e7]
theorem join_ok {m : Nat} {ys : List A} {ms : List Str} (h : LsP ys m ms) (hm : m ≤ 999) : (ms.map (·.length)).sum + ms.length * 1 ≤ 16777216 := by
  have := lines_sum h
  omega
theorem rd7_wp {e0 e1 e3 e6 e7 : Option A} {b n4 n5 m : Nat} {sts : List (Str × List A)} {ms : List Str} {s : Sto} (h : Rnd b n4 n5 sts m ms s) (hm : m ≤ 999) :
    okF (rdA7 (envR e0 e1 e3 e6 e7 b n4 n5) s) fun f t => f = .nx (envR e0 e1 e3 e6 e7 b n4 n5) ∧ Rnd b n4 n5 sts m ms t := by
  unfold rdA7 envR
  have nm : Str.ofString "\n" = NL := rfl
  have g5 := h.g5
  have e2 := strs_str ms
  have hb : NL.length = 1 := by decide +kernel
  have u := join_ok h.ls hm
  simp only [wp_okR, wp_okF, wp_fin, wp_next, wp_then, wp_bind, wp_nox, wp_tK, wp_bK, wp_fr, wp_fn, wp_nn, wp_nr, wp_nb, wp_nc, wp_ln, wp_lc, wp_lb, wp_lr, wp_jn, wp_jc, ev_bok, ev_bno, ev_bex, ev_tok, ev_tno, ev_tex, ev_nnx, ev_nrt, ev_nbk, ev_nct, ev_nex, ev_nno, ev_frt, ev_fnx, ev_fex, ev_xok, ev_lsome, ev_lnone, ev_seq, ev_if, ev_ret, ev_retN, ev_drop, ev_nop, ev_brk, ev_cont, ev_asgN, ev_asgT, ev_asgO, ev_mgTup, ev_mgN, ev_mgC, ev_mg0, ev_putL, ev_putO, ev_var, ev_vr, ev_c, ev_op, ev_un, ev_test, ev_tb, ev_notT, ev_andT, ev_orT, ev_ifE, ev_not, ev_nb, ev_and, ev_andK, ev_or, ev_orK, ev_chain, ev_chK, ev_nil, ev_cons, ev_tup, ev_lst, ev_new, ev_call, ev_cb, ev_size, ev_addI, ev_addS, ev_addT, ev_addL, ev_catO, ev_sub, ev_mul, ev_div, ev_mod, ev_p5, ev_p6, ev_p12, ev_p18, ev_p30, ev_neg, ev_ltI, ev_ltS, ev_leI, ev_leS, ev_gt, ev_ge, ev_eqI, ev_eqS, ev_neI, ev_neS, ev_neB, ev_eqB, ev_is, ev_isnot, ev_ixT, ev_ixS, ev_ixR, ev_ixL, ev_ixK, ev_getL, ev_getM, ev_gL, ev_gM, ev_at0, ev_at1, ev_at2, ev_at3, ev_at4, ev_lenS, ev_lenR, ev_lenT, ev_lenL, ev_lenO, ev_lenD, ev_abs, ev_min2, ev_max2, ev_intI, ev_intB, ev_set, ev_fc, ev_setset, ev_last, ev_appk, ev_app0, ev_setk, ev_set0, ev_assoc, ev_lapp, ev_lappA, ev_sl, ev_nopart, ev_part, ev_ptK, ev_slT, ev_slS, ev_slR, ev_slK, ev_tyN, ev_tyB, ev_tyI, ev_tyS, ev_tyT, ev_tyL, ev_tyR, ev_tyRL, ev_isi, ev_isi1, ev_isi2, ev_isi3, ev_isi4, ev_isi5, ev_isiT, ev_isi2K, ev_isTy, ev_list, ev_listK, ev_tuple, ev_tupK, ev_getST, ev_getSR, ev_getSL, ev_all, ev_allK, ev_eqXI, ev_eqXS, ev_neXI, ev_neXS, ev_neXB, ev_eqXB, ev_eqXR, ev_neXR, ev_nil2, ev_eqK, ev_neK, ev_meth, ev_meth0, ev_mth1, ev_mth2, ev_mth3, ev_append, ev_m0, ev_m0K, ev_str, ev_for, ev_miR1, ev_rg1K, ev_miL, ev_liK, ev_miT, ev_tiK, ev_lc, ev_wipe0, ev_wipeS, ev_yes, ev_lenSet, ev_lenSetK, ev_listR, ev_lrK, ev_put2, ev_p2A, ev_p2K, ev_p2E, ev_put1, ev_pt1, ev_addXI, ev_addXB, ev_addXS, ev_addXT, ev_addXL, ev_subXI, ev_subXB, ev_mulXI, ev_mulXB, ev_mulXL, ev_negXI, ev_negXB, ev_strXI, ev_strXB, ev_mulYI, ev_mulYB, ev_mulYL, ev_mulYT, ev_dnew, ev_dnewT, ev_dgetE, ev_getD, ev_gD, ev_keyI, ev_keyS, ev_dgK, ev_dinE, ev_diK, ev_dputE, ev_dpK, ev_dget2E, ev_isDA, ev_isSome, ev_isNone, ev_dg2K, ev_dpop2E, ev_dp2K, ev_dp3S, ev_dp3N, ev_sortedE, ev_srO1, ev_srO2, ev_gLd, ev_srKS, ev_srKI, ev_gDT, ev_gT, ev_tinE, ev_tiKK, ev_keysA, ev_keysN, ev_keysC, ev_dputTE, ev_dptK, ev_dispE, ev_mpN, ev_mpC, ev_pcK, ev_dsK, ev_dsK2, ev_lc2E, ev_imp, ev_simp, ev_split, ev_splF, ev_splG, ev_fmt, ev_fmtS, ev_fmtI, ev_addK, ev_js0, ev_js1, ev_joined, ev_star, ev_starK, ev_each2, ev_each2K, ev_unl, ev_unlK, ev_intS, ev_strYS, ev_strYI, ev_fldE, ev_getI, ev_gI, ev_fdK, ev_fldS, ev_fpK, ev_mtE, ev_miK, ev_mkE, ev_mkK, ev_callE, ev_tryAs, ev_raise0, ev_raise1, ev_raiseN, ev_revS, ev_revK, ev_zip, ev_enumF, ev_enum, ev_kget, ev_kgK, ev_index, ev_mjoin, ev_joinG, ev_joinK, ev_sbind, ev_miS, ev_siK, ev_truS, List.getElem?_cons_zero, List.getElem?_cons_succ, List.set_cons_zero, List.set_cons_succ, List.length_cons, List.length_nil, List.cons_append, List.nil_append, if_true, if_false, Bool.false_eq_true, Bool.true_eq_false, reduceIte, Bool.not_true, Bool.not_false, Bool.and_true, Bool.true_and, Bool.and_false, Bool.false_and, Bool.or_true, Bool.true_or, Bool.or_false, Bool.false_or, decide_eq_true_eq, Nat.reduceAdd, Nat.reduceLeDiff, Nat.zero_add, Int.reduceLT, Int.reduceLE, Int.reduceEq, Int.reduceNeg, Nat.reduceEqDiff, and_self, and_true, true_and, decide_true, decide_false, eq_self, ite_true, ite_false, Int.reduceSub, Int.reduceAdd, Int.cast_ofNat_Int, Int.natCast_add, Int.cast_ofNat_Int, Nat.reduceSub, Nat.add_assoc, String.reduceBEq, String.reduceEq, Bool.or_not_self, beq_self_eq_true, nm, g5, e2, hb, u]
  refine okR_use (readLines_wp h.ls (by omega)) fun a t hh => ?_
  obtain ⟨rfl, l, rfl⟩ := hh
  have h2 := h.app (AO.lst (sts.map stA) :: l)
  have ne := neL_same (k := 1) (mid_get (S := s) (l := l) (o := AO.lst (sts.map stA))) h2.g4 (fun x hx => by obtain ⟨q, hq, rfl⟩ := List.mem_map.mp hx; exact good_pd (h.ok q hq)) (by decide)
  simp only [wp_okR, wp_okF, wp_fin, wp_next, wp_then, wp_bind, wp_nox, wp_tK, wp_bK, wp_fr, wp_fn, wp_nn, wp_nr, wp_nb, wp_nc, wp_ln, wp_lc, wp_lb, wp_lr, wp_jn, wp_jc, ev_bok, ev_bno, ev_bex, ev_tok, ev_tno, ev_tex, ev_nnx, ev_nrt, ev_nbk, ev_nct, ev_nex, ev_nno, ev_frt, ev_fnx, ev_fex, ev_xok, ev_lsome, ev_lnone, ev_seq, ev_if, ev_ret, ev_retN, ev_drop, ev_nop, ev_brk, ev_cont, ev_asgN, ev_asgT, ev_asgO, ev_mgTup, ev_mgN, ev_mgC, ev_mg0, ev_putL, ev_putO, ev_var, ev_vr, ev_c, ev_op, ev_un, ev_test, ev_tb, ev_notT, ev_andT, ev_orT, ev_ifE, ev_not, ev_nb, ev_and, ev_andK, ev_or, ev_orK, ev_chain, ev_chK, ev_nil, ev_cons, ev_tup, ev_lst, ev_new, ev_call, ev_cb, ev_size, ev_addI, ev_addS, ev_addT, ev_addL, ev_catO, ev_sub, ev_mul, ev_div, ev_mod, ev_p5, ev_p6, ev_p12, ev_p18, ev_p30, ev_neg, ev_ltI, ev_ltS, ev_leI, ev_leS, ev_gt, ev_ge, ev_eqI, ev_eqS, ev_neI, ev_neS, ev_neB, ev_eqB, ev_is, ev_isnot, ev_ixT, ev_ixS, ev_ixR, ev_ixL, ev_ixK, ev_getL, ev_getM, ev_gL, ev_gM, ev_at0, ev_at1, ev_at2, ev_at3, ev_at4, ev_lenS, ev_lenR, ev_lenT, ev_lenL, ev_lenO, ev_lenD, ev_abs, ev_min2, ev_max2, ev_intI, ev_intB, ev_set, ev_fc, ev_setset, ev_last, ev_appk, ev_app0, ev_setk, ev_set0, ev_assoc, ev_lapp, ev_lappA, ev_sl, ev_nopart, ev_part, ev_ptK, ev_slT, ev_slS, ev_slR, ev_slK, ev_tyN, ev_tyB, ev_tyI, ev_tyS, ev_tyT, ev_tyL, ev_tyR, ev_tyRL, ev_isi, ev_isi1, ev_isi2, ev_isi3, ev_isi4, ev_isi5, ev_isiT, ev_isi2K, ev_isTy, ev_list, ev_listK, ev_tuple, ev_tupK, ev_getST, ev_getSR, ev_getSL, ev_all, ev_allK, ev_eqXI, ev_eqXS, ev_neXI, ev_neXS, ev_neXB, ev_eqXB, ev_eqXR, ev_neXR, ev_nil2, ev_eqK, ev_neK, ev_meth, ev_meth0, ev_mth1, ev_mth2, ev_mth3, ev_append, ev_m0, ev_m0K, ev_str, ev_for, ev_miR1, ev_rg1K, ev_miL, ev_liK, ev_miT, ev_tiK, ev_lc, ev_wipe0, ev_wipeS, ev_yes, ev_lenSet, ev_lenSetK, ev_listR, ev_lrK, ev_put2, ev_p2A, ev_p2K, ev_p2E, ev_put1, ev_pt1, ev_addXI, ev_addXB, ev_addXS, ev_addXT, ev_addXL, ev_subXI, ev_subXB, ev_mulXI, ev_mulXB, ev_mulXL, ev_negXI, ev_negXB, ev_strXI, ev_strXB, ev_mulYI, ev_mulYB, ev_mulYL, ev_mulYT, ev_dnew, ev_dnewT, ev_dgetE, ev_getD, ev_gD, ev_keyI, ev_keyS, ev_dgK, ev_dinE, ev_diK, ev_dputE, ev_dpK, ev_dget2E, ev_isDA, ev_isSome, ev_isNone, ev_dg2K, ev_dpop2E, ev_dp2K, ev_dp3S, ev_dp3N, ev_sortedE, ev_srO1, ev_srO2, ev_gLd, ev_srKS, ev_srKI, ev_gDT, ev_gT, ev_tinE, ev_tiKK, ev_keysA, ev_keysN, ev_keysC, ev_dputTE, ev_dptK, ev_dispE, ev_mpN, ev_mpC, ev_pcK, ev_dsK, ev_dsK2, ev_lc2E, ev_imp, ev_simp, ev_split, ev_splF, ev_splG, ev_fmt, ev_fmtS, ev_fmtI, ev_addK, ev_js0, ev_js1, ev_joined, ev_star, ev_starK, ev_each2, ev_each2K, ev_unl, ev_unlK, ev_intS, ev_strYS, ev_strYI, ev_fldE, ev_getI, ev_gI, ev_fdK, ev_fldS, ev_fpK, ev_mtE, ev_miK, ev_mkE, ev_mkK, ev_callE, ev_tryAs, ev_raise0, ev_raise1, ev_raiseN, ev_revS, ev_revK, ev_zip, ev_enumF, ev_enum, ev_kget, ev_kgK, ev_index, ev_mjoin, ev_joinG, ev_joinK, ev_sbind, ev_miS, ev_siK, ev_truS, List.getElem?_cons_zero, List.getElem?_cons_succ, List.set_cons_zero, List.set_cons_succ, List.length_cons, List.length_nil, List.cons_append, List.nil_append, if_true, if_false, Bool.false_eq_true, Bool.true_eq_false, reduceIte, Bool.not_true, Bool.not_false, Bool.and_true, Bool.true_and, Bool.and_false, Bool.false_and, Bool.or_true, Bool.true_or, Bool.or_false, Bool.false_or, decide_eq_true_eq, Nat.reduceAdd, Nat.reduceLeDiff, Nat.zero_add, Int.reduceLT, Int.reduceLE, Int.reduceEq, Int.reduceNeg, Nat.reduceEqDiff, and_self, and_true, true_and, decide_true, decide_false, eq_self, ite_true, ite_false, Int.reduceSub, Int.reduceAdd, Int.cast_ofNat_Int, Int.natCast_add, Int.cast_ofNat_Int, Nat.reduceSub, Nat.add_assoc, String.reduceBEq, String.reduceEq, Bool.or_not_self, beq_self_eq_true, ne]
  exact h2
theorem rd4_wp {e0 e1 e3 e6 e7 : Option A} {b n4 n5 m : Nat} {sts : List (Str × List A)} {s : Sto} (h : Rnd b n4 n5 sts m (sts.map lnT) s) (hm : m ≤ 30) :
    okF (rdA4 (envR e0 e1 e3 e6 e7 b n4 n5) s) fun f t => f = .nx (envR e0 e1 e3 e6 e7 b n4 n5) ∧ Rnd b n4 n5 sts m (sts.map lnT) t := by
  unfold rdA4 envR
  have nm : Str.ofString "\n" = NL := rfl
  have g4 := h.g4
  have e2 := strs_str (sts.map lnT)
  have hb : NL.length = 1 := by decide +kernel
  have u := join_ok h.ls (by omega)
  have hl := h.ls.l
  rw [List.length_map] at hl
  simp only [wp_okR, wp_okF, wp_fin, wp_next, wp_then, wp_bind, wp_nox, wp_tK, wp_bK, wp_fr, wp_fn, wp_nn, wp_nr, wp_nb, wp_nc, wp_ln, wp_lc, wp_lb, wp_lr, wp_jn, wp_jc, ev_bok, ev_bno, ev_bex, ev_tok, ev_tno, ev_tex, ev_nnx, ev_nrt, ev_nbk, ev_nct, ev_nex, ev_nno, ev_frt, ev_fnx, ev_fex, ev_xok, ev_lsome, ev_lnone, ev_seq, ev_if, ev_ret, ev_retN, ev_drop, ev_nop, ev_brk, ev_cont, ev_asgN, ev_asgT, ev_asgO, ev_mgTup, ev_mgN, ev_mgC, ev_mg0, ev_putL, ev_putO, ev_var, ev_vr, ev_c, ev_op, ev_un, ev_test, ev_tb, ev_notT, ev_andT, ev_orT, ev_ifE, ev_not, ev_nb, ev_and, ev_andK, ev_or, ev_orK, ev_chain, ev_chK, ev_nil, ev_cons, ev_tup, ev_lst, ev_new, ev_call, ev_cb, ev_size, ev_addI, ev_addS, ev_addT, ev_addL, ev_catO, ev_sub, ev_mul, ev_div, ev_mod, ev_p5, ev_p6, ev_p12, ev_p18, ev_p30, ev_neg, ev_ltI, ev_ltS, ev_leI, ev_leS, ev_gt, ev_ge, ev_eqI, ev_eqS, ev_neI, ev_neS, ev_neB, ev_eqB, ev_is, ev_isnot, ev_ixT, ev_ixS, ev_ixR, ev_ixL, ev_ixK, ev_getL, ev_getM, ev_gL, ev_gM, ev_at0, ev_at1, ev_at2, ev_at3, ev_at4, ev_lenS, ev_lenR, ev_lenT, ev_lenL, ev_lenO, ev_lenD, ev_abs, ev_min2, ev_max2, ev_intI, ev_intB, ev_set, ev_fc, ev_setset, ev_last, ev_appk, ev_app0, ev_setk, ev_set0, ev_assoc, ev_lapp, ev_lappA, ev_sl, ev_nopart, ev_part, ev_ptK, ev_slT, ev_slS, ev_slR, ev_slK, ev_tyN, ev_tyB, ev_tyI, ev_tyS, ev_tyT, ev_tyL, ev_tyR, ev_tyRL, ev_isi, ev_isi1, ev_isi2, ev_isi3, ev_isi4, ev_isi5, ev_isiT, ev_isi2K, ev_isTy, ev_list, ev_listK, ev_tuple, ev_tupK, ev_getST, ev_getSR, ev_getSL, ev_all, ev_allK, ev_eqXI, ev_eqXS, ev_neXI, ev_neXS, ev_neXB, ev_eqXB, ev_eqXR, ev_neXR, ev_nil2, ev_eqK, ev_neK, ev_meth, ev_meth0, ev_mth1, ev_mth2, ev_mth3, ev_append, ev_m0, ev_m0K, ev_str, ev_for, ev_miR1, ev_rg1K, ev_miL, ev_liK, ev_miT, ev_tiK, ev_lc, ev_wipe0, ev_wipeS, ev_yes, ev_lenSet, ev_lenSetK, ev_listR, ev_lrK, ev_put2, ev_p2A, ev_p2K, ev_p2E, ev_put1, ev_pt1, ev_addXI, ev_addXB, ev_addXS, ev_addXT, ev_addXL, ev_subXI, ev_subXB, ev_mulXI, ev_mulXB, ev_mulXL, ev_negXI, ev_negXB, ev_strXI, ev_strXB, ev_mulYI, ev_mulYB, ev_mulYL, ev_mulYT, ev_dnew, ev_dnewT, ev_dgetE, ev_getD, ev_gD, ev_keyI, ev_keyS, ev_dgK, ev_dinE, ev_diK, ev_dputE, ev_dpK, ev_dget2E, ev_isDA, ev_isSome, ev_isNone, ev_dg2K, ev_dpop2E, ev_dp2K, ev_dp3S, ev_dp3N, ev_sortedE, ev_srO1, ev_srO2, ev_gLd, ev_srKS, ev_srKI, ev_gDT, ev_gT, ev_tinE, ev_tiKK, ev_keysA, ev_keysN, ev_keysC, ev_dputTE, ev_dptK, ev_dispE, ev_mpN, ev_mpC, ev_pcK, ev_dsK, ev_dsK2, ev_lc2E, ev_imp, ev_simp, ev_split, ev_splF, ev_splG, ev_fmt, ev_fmtS, ev_fmtI, ev_addK, ev_js0, ev_js1, ev_joined, ev_star, ev_starK, ev_each2, ev_each2K, ev_unl, ev_unlK, ev_intS, ev_strYS, ev_strYI, ev_fldE, ev_getI, ev_gI, ev_fdK, ev_fldS, ev_fpK, ev_mtE, ev_miK, ev_mkE, ev_mkK, ev_callE, ev_tryAs, ev_raise0, ev_raise1, ev_raiseN, ev_revS, ev_revK, ev_zip, ev_enumF, ev_enum, ev_kget, ev_kgK, ev_index, ev_mjoin, ev_joinG, ev_joinK, ev_sbind, ev_miS, ev_siK, ev_truS, List.getElem?_cons_zero, List.getElem?_cons_succ, List.set_cons_zero, List.set_cons_succ, List.length_cons, List.length_nil, List.cons_append, List.nil_append, if_true, if_false, Bool.false_eq_true, Bool.true_eq_false, reduceIte, Bool.not_true, Bool.not_false, Bool.and_true, Bool.true_and, Bool.and_false, Bool.false_and, Bool.or_true, Bool.true_or, Bool.or_false, Bool.false_or, decide_eq_true_eq, Nat.reduceAdd, Nat.reduceLeDiff, Nat.zero_add, Int.reduceLT, Int.reduceLE, Int.reduceEq, Int.reduceNeg, Nat.reduceEqDiff, and_self, and_true, true_and, decide_true, decide_false, eq_self, ite_true, ite_false, Int.reduceSub, Int.reduceAdd, Int.cast_ofNat_Int, Int.natCast_add, Int.cast_ofNat_Int, Nat.reduceSub, Nat.add_assoc, String.reduceBEq, String.reduceEq, Bool.or_not_self, beq_self_eq_true]
  refine okR_use (stepsText_wp g4 h.ok (by omega)) fun a t hh => ?_
  obtain ⟨rfl, l, rfl⟩ := hh
  have h2 := h.app l
  obtain ⟨S1, hS1⟩ : ∃ S1, S1 = s ++ l := ⟨_, rfl⟩
  rw [← hS1] at h2 ⊢
  have g42 := h2.g4
  have g52 := h2.g5
  simp only [wp_okR, wp_okF, wp_fin, wp_next, wp_then, wp_bind, wp_nox, wp_tK, wp_bK, wp_fr, wp_fn, wp_nn, wp_nr, wp_nb, wp_nc, wp_ln, wp_lc, wp_lb, wp_lr, wp_jn, wp_jc, ev_bok, ev_bno, ev_bex, ev_tok, ev_tno, ev_tex, ev_nnx, ev_nrt, ev_nbk, ev_nct, ev_nex, ev_nno, ev_frt, ev_fnx, ev_fex, ev_xok, ev_lsome, ev_lnone, ev_seq, ev_if, ev_ret, ev_retN, ev_drop, ev_nop, ev_brk, ev_cont, ev_asgN, ev_asgT, ev_asgO, ev_mgTup, ev_mgN, ev_mgC, ev_mg0, ev_putL, ev_putO, ev_var, ev_vr, ev_c, ev_op, ev_un, ev_test, ev_tb, ev_notT, ev_andT, ev_orT, ev_ifE, ev_not, ev_nb, ev_and, ev_andK, ev_or, ev_orK, ev_chain, ev_chK, ev_nil, ev_cons, ev_tup, ev_lst, ev_new, ev_call, ev_cb, ev_size, ev_addI, ev_addS, ev_addT, ev_addL, ev_catO, ev_sub, ev_mul, ev_div, ev_mod, ev_p5, ev_p6, ev_p12, ev_p18, ev_p30, ev_neg, ev_ltI, ev_ltS, ev_leI, ev_leS, ev_gt, ev_ge, ev_eqI, ev_eqS, ev_neI, ev_neS, ev_neB, ev_eqB, ev_is, ev_isnot, ev_ixT, ev_ixS, ev_ixR, ev_ixL, ev_ixK, ev_getL, ev_getM, ev_gL, ev_gM, ev_at0, ev_at1, ev_at2, ev_at3, ev_at4, ev_lenS, ev_lenR, ev_lenT, ev_lenL, ev_lenO, ev_lenD, ev_abs, ev_min2, ev_max2, ev_intI, ev_intB, ev_set, ev_fc, ev_setset, ev_last, ev_appk, ev_app0, ev_setk, ev_set0, ev_assoc, ev_lapp, ev_lappA, ev_sl, ev_nopart, ev_part, ev_ptK, ev_slT, ev_slS, ev_slR, ev_slK, ev_tyN, ev_tyB, ev_tyI, ev_tyS, ev_tyT, ev_tyL, ev_tyR, ev_tyRL, ev_isi, ev_isi1, ev_isi2, ev_isi3, ev_isi4, ev_isi5, ev_isiT, ev_isi2K, ev_isTy, ev_list, ev_listK, ev_tuple, ev_tupK, ev_getST, ev_getSR, ev_getSL, ev_all, ev_allK, ev_eqXI, ev_eqXS, ev_neXI, ev_neXS, ev_neXB, ev_eqXB, ev_eqXR, ev_neXR, ev_nil2, ev_eqK, ev_neK, ev_meth, ev_meth0, ev_mth1, ev_mth2, ev_mth3, ev_append, ev_m0, ev_m0K, ev_str, ev_for, ev_miR1, ev_rg1K, ev_miL, ev_liK, ev_miT, ev_tiK, ev_lc, ev_wipe0, ev_wipeS, ev_yes, ev_lenSet, ev_lenSetK, ev_listR, ev_lrK, ev_put2, ev_p2A, ev_p2K, ev_p2E, ev_put1, ev_pt1, ev_addXI, ev_addXB, ev_addXS, ev_addXT, ev_addXL, ev_subXI, ev_subXB, ev_mulXI, ev_mulXB, ev_mulXL, ev_negXI, ev_negXB, ev_strXI, ev_strXB, ev_mulYI, ev_mulYB, ev_mulYL, ev_mulYT, ev_dnew, ev_dnewT, ev_dgetE, ev_getD, ev_gD, ev_keyI, ev_keyS, ev_dgK, ev_dinE, ev_diK, ev_dputE, ev_dpK, ev_dget2E, ev_isDA, ev_isSome, ev_isNone, ev_dg2K, ev_dpop2E, ev_dp2K, ev_dp3S, ev_dp3N, ev_sortedE, ev_srO1, ev_srO2, ev_gLd, ev_srKS, ev_srKI, ev_gDT, ev_gT, ev_tinE, ev_tiKK, ev_keysA, ev_keysN, ev_keysC, ev_dputTE, ev_dptK, ev_dispE, ev_mpN, ev_mpC, ev_pcK, ev_dsK, ev_dsK2, ev_lc2E, ev_imp, ev_simp, ev_split, ev_splF, ev_splG, ev_fmt, ev_fmtS, ev_fmtI, ev_addK, ev_js0, ev_js1, ev_joined, ev_star, ev_starK, ev_each2, ev_each2K, ev_unl, ev_unlK, ev_intS, ev_strYS, ev_strYI, ev_fldE, ev_getI, ev_gI, ev_fdK, ev_fldS, ev_fpK, ev_mtE, ev_miK, ev_mkE, ev_mkK, ev_callE, ev_tryAs, ev_raise0, ev_raise1, ev_raiseN, ev_revS, ev_revK, ev_zip, ev_enumF, ev_enum, ev_kget, ev_kgK, ev_index, ev_mjoin, ev_joinG, ev_joinK, ev_sbind, ev_miS, ev_siK, ev_truS, List.getElem?_cons_zero, List.getElem?_cons_succ, List.set_cons_zero, List.set_cons_succ, List.length_cons, List.length_nil, List.cons_append, List.nil_append, if_true, if_false, Bool.false_eq_true, Bool.true_eq_false, reduceIte, Bool.not_true, Bool.not_false, Bool.and_true, Bool.true_and, Bool.and_false, Bool.false_and, Bool.or_true, Bool.true_or, Bool.or_false, Bool.false_or, decide_eq_true_eq, Nat.reduceAdd, Nat.reduceLeDiff, Nat.zero_add, Int.reduceLT, Int.reduceLE, Int.reduceEq, Int.reduceNeg, Nat.reduceEqDiff, and_self, and_true, true_and, decide_true, decide_false, eq_self, ite_true, ite_false, Int.reduceSub, Int.reduceAdd, Int.cast_ofNat_Int, Int.natCast_add, Int.cast_ofNat_Int, Nat.reduceSub, Nat.add_assoc, String.reduceBEq, String.reduceEq, Bool.or_not_self, beq_self_eq_true, nm, g42, g52, e2, hb, u]
  refine lc_M lineF (fun k => ?_) (by rw [List.length_map]; omega) (fun x hx => ?_) (fun l' => ?_)
  · show getL (S1 ++ k) (.ref n4) = _
    rw [ev_getL, app_get g42]
    rfl
  · obtain ⟨q, hq, rfl⟩ := List.mem_map.mp hx
    refine ⟨_, rfl, fun k => ?_⟩
    simp only [wp_okR, wp_okF, wp_fin, wp_next, wp_then, wp_bind, wp_nox, wp_tK, wp_bK, wp_fr, wp_fn, wp_nn, wp_nr, wp_nb, wp_nc, wp_ln, wp_lc, wp_lb, wp_lr, wp_jn, wp_jc, ev_bok, ev_bno, ev_bex, ev_tok, ev_tno, ev_tex, ev_nnx, ev_nrt, ev_nbk, ev_nct, ev_nex, ev_nno, ev_frt, ev_fnx, ev_fex, ev_xok, ev_lsome, ev_lnone, ev_seq, ev_if, ev_ret, ev_retN, ev_drop, ev_nop, ev_brk, ev_cont, ev_asgN, ev_asgT, ev_asgO, ev_mgTup, ev_mgN, ev_mgC, ev_mg0, ev_putL, ev_putO, ev_var, ev_vr, ev_c, ev_op, ev_un, ev_test, ev_tb, ev_notT, ev_andT, ev_orT, ev_ifE, ev_not, ev_nb, ev_and, ev_andK, ev_or, ev_orK, ev_chain, ev_chK, ev_nil, ev_cons, ev_tup, ev_lst, ev_new, ev_call, ev_cb, ev_size, ev_addI, ev_addS, ev_addT, ev_addL, ev_catO, ev_sub, ev_mul, ev_div, ev_mod, ev_p5, ev_p6, ev_p12, ev_p18, ev_p30, ev_neg, ev_ltI, ev_ltS, ev_leI, ev_leS, ev_gt, ev_ge, ev_eqI, ev_eqS, ev_neI, ev_neS, ev_neB, ev_eqB, ev_is, ev_isnot, ev_ixT, ev_ixS, ev_ixR, ev_ixL, ev_ixK, ev_getL, ev_getM, ev_gL, ev_gM, ev_at0, ev_at1, ev_at2, ev_at3, ev_at4, ev_lenS, ev_lenR, ev_lenT, ev_lenL, ev_lenO, ev_lenD, ev_abs, ev_min2, ev_max2, ev_intI, ev_intB, ev_set, ev_fc, ev_setset, ev_last, ev_appk, ev_app0, ev_setk, ev_set0, ev_assoc, ev_lapp, ev_lappA, ev_sl, ev_nopart, ev_part, ev_ptK, ev_slT, ev_slS, ev_slR, ev_slK, ev_tyN, ev_tyB, ev_tyI, ev_tyS, ev_tyT, ev_tyL, ev_tyR, ev_tyRL, ev_isi, ev_isi1, ev_isi2, ev_isi3, ev_isi4, ev_isi5, ev_isiT, ev_isi2K, ev_isTy, ev_list, ev_listK, ev_tuple, ev_tupK, ev_getST, ev_getSR, ev_getSL, ev_all, ev_allK, ev_eqXI, ev_eqXS, ev_neXI, ev_neXS, ev_neXB, ev_eqXB, ev_eqXR, ev_neXR, ev_nil2, ev_eqK, ev_neK, ev_meth, ev_meth0, ev_mth1, ev_mth2, ev_mth3, ev_append, ev_m0, ev_m0K, ev_str, ev_for, ev_miR1, ev_rg1K, ev_miL, ev_liK, ev_miT, ev_tiK, ev_lc, ev_wipe0, ev_wipeS, ev_yes, ev_lenSet, ev_lenSetK, ev_listR, ev_lrK, ev_put2, ev_p2A, ev_p2K, ev_p2E, ev_put1, ev_pt1, ev_addXI, ev_addXB, ev_addXS, ev_addXT, ev_addXL, ev_subXI, ev_subXB, ev_mulXI, ev_mulXB, ev_mulXL, ev_negXI, ev_negXB, ev_strXI, ev_strXB, ev_mulYI, ev_mulYB, ev_mulYL, ev_mulYT, ev_dnew, ev_dnewT, ev_dgetE, ev_getD, ev_gD, ev_keyI, ev_keyS, ev_dgK, ev_dinE, ev_diK, ev_dputE, ev_dpK, ev_dget2E, ev_isDA, ev_isSome, ev_isNone, ev_dg2K, ev_dpop2E, ev_dp2K, ev_dp3S, ev_dp3N, ev_sortedE, ev_srO1, ev_srO2, ev_gLd, ev_srKS, ev_srKI, ev_gDT, ev_gT, ev_tinE, ev_tiKK, ev_keysA, ev_keysN, ev_keysC, ev_dputTE, ev_dptK, ev_dispE, ev_mpN, ev_mpC, ev_pcK, ev_dsK, ev_dsK2, ev_lc2E, ev_imp, ev_simp, ev_split, ev_splF, ev_splG, ev_fmt, ev_fmtS, ev_fmtI, ev_addK, ev_js0, ev_js1, ev_joined, ev_star, ev_starK, ev_each2, ev_each2K, ev_unl, ev_unlK, ev_intS, ev_strYS, ev_strYI, ev_fldE, ev_getI, ev_gI, ev_fdK, ev_fldS, ev_fpK, ev_mtE, ev_miK, ev_mkE, ev_mkK, ev_callE, ev_tryAs, ev_raise0, ev_raise1, ev_raiseN, ev_revS, ev_revK, ev_zip, ev_enumF, ev_enum, ev_kget, ev_kgK, ev_index, ev_mjoin, ev_joinG, ev_joinK, ev_sbind, ev_miS, ev_siK, ev_truS, List.getElem?_cons_zero, List.getElem?_cons_succ, List.set_cons_zero, List.set_cons_succ, List.length_cons, List.length_nil, List.cons_append, List.nil_append, if_true, if_false, Bool.false_eq_true, Bool.true_eq_false, reduceIte, Bool.not_true, Bool.not_false, Bool.and_true, Bool.true_and, Bool.and_false, Bool.false_and, Bool.or_true, Bool.true_or, Bool.or_false, Bool.false_or, decide_eq_true_eq, Nat.reduceAdd, Nat.reduceLeDiff, Nat.zero_add, Int.reduceLT, Int.reduceLE, Int.reduceEq, Int.reduceNeg, Nat.reduceEqDiff, and_self, and_true, true_and, decide_true, decide_false, eq_self, ite_true, ite_false, Int.reduceSub, Int.reduceAdd, Int.cast_ofNat_Int, Int.natCast_add, Int.cast_ofNat_Int, Nat.reduceSub, Nat.add_assoc, String.reduceBEq, String.reduceEq, Bool.or_not_self, beq_self_eq_true]
    refine okR_use (stepText_wp (h.ok q hq)) fun a s hh => ?_
    obtain ⟨rfl, k2, rfl⟩ := hh
    exact ⟨rfl, k2, List.append_assoc _ _ _⟩
  · have e1 : (sts.map stA).map lineF = (sts.map lnT).map A.str := by
      rw [List.map_map, List.map_map]
      rfl
    rw [e1]
    have h3 := h2.app (AO.lst ((sts.map lnT).map A.str) :: l')
    have ne := neL_same (k := 0) (mid_get (S := S1) (l := l') (o := AO.lst ((sts.map lnT).map A.str))) h3.g5 (fun x hx => by
      obtain ⟨y, hy, rfl⟩ := List.mem_map.mp hx
      obtain ⟨q, hq, rfl⟩ := List.mem_map.mp hy
      exact .inr (.inr ⟨_, rfl, line_asc (h.ok q hq)⟩)) (by decide)
    simp only [wp_okR, wp_okF, wp_fin, wp_next, wp_then, wp_bind, wp_nox, wp_tK, wp_bK, wp_fr, wp_fn, wp_nn, wp_nr, wp_nb, wp_nc, wp_ln, wp_lc, wp_lb, wp_lr, wp_jn, wp_jc, ev_bok, ev_bno, ev_bex, ev_tok, ev_tno, ev_tex, ev_nnx, ev_nrt, ev_nbk, ev_nct, ev_nex, ev_nno, ev_frt, ev_fnx, ev_fex, ev_xok, ev_lsome, ev_lnone, ev_seq, ev_if, ev_ret, ev_retN, ev_drop, ev_nop, ev_brk, ev_cont, ev_asgN, ev_asgT, ev_asgO, ev_mgTup, ev_mgN, ev_mgC, ev_mg0, ev_putL, ev_putO, ev_var, ev_vr, ev_c, ev_op, ev_un, ev_test, ev_tb, ev_notT, ev_andT, ev_orT, ev_ifE, ev_not, ev_nb, ev_and, ev_andK, ev_or, ev_orK, ev_chain, ev_chK, ev_nil, ev_cons, ev_tup, ev_lst, ev_new, ev_call, ev_cb, ev_size, ev_addI, ev_addS, ev_addT, ev_addL, ev_catO, ev_sub, ev_mul, ev_div, ev_mod, ev_p5, ev_p6, ev_p12, ev_p18, ev_p30, ev_neg, ev_ltI, ev_ltS, ev_leI, ev_leS, ev_gt, ev_ge, ev_eqI, ev_eqS, ev_neI, ev_neS, ev_neB, ev_eqB, ev_is, ev_isnot, ev_ixT, ev_ixS, ev_ixR, ev_ixL, ev_ixK, ev_getL, ev_getM, ev_gL, ev_gM, ev_at0, ev_at1, ev_at2, ev_at3, ev_at4, ev_lenS, ev_lenR, ev_lenT, ev_lenL, ev_lenO, ev_lenD, ev_abs, ev_min2, ev_max2, ev_intI, ev_intB, ev_set, ev_fc, ev_setset, ev_last, ev_appk, ev_app0, ev_setk, ev_set0, ev_assoc, ev_lapp, ev_lappA, ev_sl, ev_nopart, ev_part, ev_ptK, ev_slT, ev_slS, ev_slR, ev_slK, ev_tyN, ev_tyB, ev_tyI, ev_tyS, ev_tyT, ev_tyL, ev_tyR, ev_tyRL, ev_isi, ev_isi1, ev_isi2, ev_isi3, ev_isi4, ev_isi5, ev_isiT, ev_isi2K, ev_isTy, ev_list, ev_listK, ev_tuple, ev_tupK, ev_getST, ev_getSR, ev_getSL, ev_all, ev_allK, ev_eqXI, ev_eqXS, ev_neXI, ev_neXS, ev_neXB, ev_eqXB, ev_eqXR, ev_neXR, ev_nil2, ev_eqK, ev_neK, ev_meth, ev_meth0, ev_mth1, ev_mth2, ev_mth3, ev_append, ev_m0, ev_m0K, ev_str, ev_for, ev_miR1, ev_rg1K, ev_miL, ev_liK, ev_miT, ev_tiK, ev_lc, ev_wipe0, ev_wipeS, ev_yes, ev_lenSet, ev_lenSetK, ev_listR, ev_lrK, ev_put2, ev_p2A, ev_p2K, ev_p2E, ev_put1, ev_pt1, ev_addXI, ev_addXB, ev_addXS, ev_addXT, ev_addXL, ev_subXI, ev_subXB, ev_mulXI, ev_mulXB, ev_mulXL, ev_negXI, ev_negXB, ev_strXI, ev_strXB, ev_mulYI, ev_mulYB, ev_mulYL, ev_mulYT, ev_dnew, ev_dnewT, ev_dgetE, ev_getD, ev_gD, ev_keyI, ev_keyS, ev_dgK, ev_dinE, ev_diK, ev_dputE, ev_dpK, ev_dget2E, ev_isDA, ev_isSome, ev_isNone, ev_dg2K, ev_dpop2E, ev_dp2K, ev_dp3S, ev_dp3N, ev_sortedE, ev_srO1, ev_srO2, ev_gLd, ev_srKS, ev_srKI, ev_gDT, ev_gT, ev_tinE, ev_tiKK, ev_keysA, ev_keysN, ev_keysC, ev_dputTE, ev_dptK, ev_dispE, ev_mpN, ev_mpC, ev_pcK, ev_dsK, ev_dsK2, ev_lc2E, ev_imp, ev_simp, ev_split, ev_splF, ev_splG, ev_fmt, ev_fmtS, ev_fmtI, ev_addK, ev_js0, ev_js1, ev_joined, ev_star, ev_starK, ev_each2, ev_each2K, ev_unl, ev_unlK, ev_intS, ev_strYS, ev_strYI, ev_fldE, ev_getI, ev_gI, ev_fdK, ev_fldS, ev_fpK, ev_mtE, ev_miK, ev_mkE, ev_mkK, ev_callE, ev_tryAs, ev_raise0, ev_raise1, ev_raiseN, ev_revS, ev_revK, ev_zip, ev_enumF, ev_enum, ev_kget, ev_kgK, ev_index, ev_mjoin, ev_joinG, ev_joinK, ev_sbind, ev_miS, ev_siK, ev_truS, List.getElem?_cons_zero, List.getElem?_cons_succ, List.set_cons_zero, List.set_cons_succ, List.length_cons, List.length_nil, List.cons_append, List.nil_append, if_true, if_false, Bool.false_eq_true, Bool.true_eq_false, reduceIte, Bool.not_true, Bool.not_false, Bool.and_true, Bool.true_and, Bool.and_false, Bool.false_and, Bool.or_true, Bool.true_or, Bool.or_false, Bool.false_or, decide_eq_true_eq, Nat.reduceAdd, Nat.reduceLeDiff, Nat.zero_add, Int.reduceLT, Int.reduceLE, Int.reduceEq, Int.reduceNeg, Nat.reduceEqDiff, and_self, and_true, true_and, decide_true, decide_false, eq_self, ite_true, ite_false, Int.reduceSub, Int.reduceAdd, Int.cast_ofNat_Int, Int.natCast_add, Int.cast_ofNat_Int, Nat.reduceSub, Nat.add_assoc, String.reduceBEq, String.reduceEq, Bool.or_not_self, beq_self_eq_true, ne]
    exact h3
theorem rd5_wp {e0 e1 e3 e6 e7 : Option A} {b n4 n5 m : Nat} {sts : List (Str × List A)} {s : Sto} (h : Rnd b n4 n5 sts m (sts.map lnT) s) (hm : m ≤ 30) :
    okF (rdA5 (envR e0 e1 e3 e6 e7 b n4 n5) s) fun f t => f = .nx (envR e0 e1 e3 e6 e7 b n4 n5) ∧ Rnd b n4 n5 sts m (sts.map lnT) t := by
  unfold rdA5 envR
  have nm : Str.ofString "\n" = NL := rfl
  have g5 := h.g5
  have e2 := strs_str (sts.map lnT)
  have hb : NL.length = 1 := by decide +kernel
  have u := join_ok h.ls (by omega)
  have hl := h.ls.l
  rw [List.length_map] at hl
  have pds : ∀ x ∈ sts.map stA, pd 1 x := fun x hx => by
    obtain ⟨q, hq, rfl⟩ := List.mem_map.mp hx
    exact good_pd (h.ok q hq)
  simp only [wp_okR, wp_okF, wp_fin, wp_next, wp_then, wp_bind, wp_nox, wp_tK, wp_bK, wp_fr, wp_fn, wp_nn, wp_nr, wp_nb, wp_nc, wp_ln, wp_lc, wp_lb, wp_lr, wp_jn, wp_jc, ev_bok, ev_bno, ev_bex, ev_tok, ev_tno, ev_tex, ev_nnx, ev_nrt, ev_nbk, ev_nct, ev_nex, ev_nno, ev_frt, ev_fnx, ev_fex, ev_xok, ev_lsome, ev_lnone, ev_seq, ev_if, ev_ret, ev_retN, ev_drop, ev_nop, ev_brk, ev_cont, ev_asgN, ev_asgT, ev_asgO, ev_mgTup, ev_mgN, ev_mgC, ev_mg0, ev_putL, ev_putO, ev_var, ev_vr, ev_c, ev_op, ev_un, ev_test, ev_tb, ev_notT, ev_andT, ev_orT, ev_ifE, ev_not, ev_nb, ev_and, ev_andK, ev_or, ev_orK, ev_chain, ev_chK, ev_nil, ev_cons, ev_tup, ev_lst, ev_new, ev_call, ev_cb, ev_size, ev_addI, ev_addS, ev_addT, ev_addL, ev_catO, ev_sub, ev_mul, ev_div, ev_mod, ev_p5, ev_p6, ev_p12, ev_p18, ev_p30, ev_neg, ev_ltI, ev_ltS, ev_leI, ev_leS, ev_gt, ev_ge, ev_eqI, ev_eqS, ev_neI, ev_neS, ev_neB, ev_eqB, ev_is, ev_isnot, ev_ixT, ev_ixS, ev_ixR, ev_ixL, ev_ixK, ev_getL, ev_getM, ev_gL, ev_gM, ev_at0, ev_at1, ev_at2, ev_at3, ev_at4, ev_lenS, ev_lenR, ev_lenT, ev_lenL, ev_lenO, ev_lenD, ev_abs, ev_min2, ev_max2, ev_intI, ev_intB, ev_set, ev_fc, ev_setset, ev_last, ev_appk, ev_app0, ev_setk, ev_set0, ev_assoc, ev_lapp, ev_lappA, ev_sl, ev_nopart, ev_part, ev_ptK, ev_slT, ev_slS, ev_slR, ev_slK, ev_tyN, ev_tyB, ev_tyI, ev_tyS, ev_tyT, ev_tyL, ev_tyR, ev_tyRL, ev_isi, ev_isi1, ev_isi2, ev_isi3, ev_isi4, ev_isi5, ev_isiT, ev_isi2K, ev_isTy, ev_list, ev_listK, ev_tuple, ev_tupK, ev_getST, ev_getSR, ev_getSL, ev_all, ev_allK, ev_eqXI, ev_eqXS, ev_neXI, ev_neXS, ev_neXB, ev_eqXB, ev_eqXR, ev_neXR, ev_nil2, ev_eqK, ev_neK, ev_meth, ev_meth0, ev_mth1, ev_mth2, ev_mth3, ev_append, ev_m0, ev_m0K, ev_str, ev_for, ev_miR1, ev_rg1K, ev_miL, ev_liK, ev_miT, ev_tiK, ev_lc, ev_wipe0, ev_wipeS, ev_yes, ev_lenSet, ev_lenSetK, ev_listR, ev_lrK, ev_put2, ev_p2A, ev_p2K, ev_p2E, ev_put1, ev_pt1, ev_addXI, ev_addXB, ev_addXS, ev_addXT, ev_addXL, ev_subXI, ev_subXB, ev_mulXI, ev_mulXB, ev_mulXL, ev_negXI, ev_negXB, ev_strXI, ev_strXB, ev_mulYI, ev_mulYB, ev_mulYL, ev_mulYT, ev_dnew, ev_dnewT, ev_dgetE, ev_getD, ev_gD, ev_keyI, ev_keyS, ev_dgK, ev_dinE, ev_diK, ev_dputE, ev_dpK, ev_dget2E, ev_isDA, ev_isSome, ev_isNone, ev_dg2K, ev_dpop2E, ev_dp2K, ev_dp3S, ev_dp3N, ev_sortedE, ev_srO1, ev_srO2, ev_gLd, ev_srKS, ev_srKI, ev_gDT, ev_gT, ev_tinE, ev_tiKK, ev_keysA, ev_keysN, ev_keysC, ev_dputTE, ev_dptK, ev_dispE, ev_mpN, ev_mpC, ev_pcK, ev_dsK, ev_dsK2, ev_lc2E, ev_imp, ev_simp, ev_split, ev_splF, ev_splG, ev_fmt, ev_fmtS, ev_fmtI, ev_addK, ev_js0, ev_js1, ev_joined, ev_star, ev_starK, ev_each2, ev_each2K, ev_unl, ev_unlK, ev_intS, ev_strYS, ev_strYI, ev_fldE, ev_getI, ev_gI, ev_fdK, ev_fldS, ev_fpK, ev_mtE, ev_miK, ev_mkE, ev_mkK, ev_callE, ev_tryAs, ev_raise0, ev_raise1, ev_raiseN, ev_revS, ev_revK, ev_zip, ev_enumF, ev_enum, ev_kget, ev_kgK, ev_index, ev_mjoin, ev_joinG, ev_joinK, ev_sbind, ev_miS, ev_siK, ev_truS, List.getElem?_cons_zero, List.getElem?_cons_succ, List.set_cons_zero, List.set_cons_succ, List.length_cons, List.length_nil, List.cons_append, List.nil_append, if_true, if_false, Bool.false_eq_true, Bool.true_eq_false, reduceIte, Bool.not_true, Bool.not_false, Bool.and_true, Bool.true_and, Bool.and_false, Bool.false_and, Bool.or_true, Bool.true_or, Bool.or_false, Bool.false_or, decide_eq_true_eq, Nat.reduceAdd, Nat.reduceLeDiff, Nat.zero_add, Int.reduceLT, Int.reduceLE, Int.reduceEq, Int.reduceNeg, Nat.reduceEqDiff, and_self, and_true, true_and, decide_true, decide_false, eq_self, ite_true, ite_false, Int.reduceSub, Int.reduceAdd, Int.cast_ofNat_Int, Int.natCast_add, Int.cast_ofNat_Int, Nat.reduceSub, Nat.add_assoc, String.reduceBEq, String.reduceEq, Bool.or_not_self, beq_self_eq_true, g5]
  refine lc_M stepFA (fun k => ?_) (by rw [List.length_map, List.length_map]; omega) (fun x hx => ?_) (fun l' => ?_)
  · show getL (s ++ k) (.ref n5) = _
    rw [ev_getL, app_get g5]
    rfl
  · obtain ⟨y, hy, rfl⟩ := List.mem_map.mp hx
    obtain ⟨q, hq, rfl⟩ := List.mem_map.mp hy
    refine ⟨_, rfl, fun k => ?_⟩
    simp only [wp_okR, wp_okF, wp_fin, wp_next, wp_then, wp_bind, wp_nox, wp_tK, wp_bK, wp_fr, wp_fn, wp_nn, wp_nr, wp_nb, wp_nc, wp_ln, wp_lc, wp_lb, wp_lr, wp_jn, wp_jc, ev_bok, ev_bno, ev_bex, ev_tok, ev_tno, ev_tex, ev_nnx, ev_nrt, ev_nbk, ev_nct, ev_nex, ev_nno, ev_frt, ev_fnx, ev_fex, ev_xok, ev_lsome, ev_lnone, ev_seq, ev_if, ev_ret, ev_retN, ev_drop, ev_nop, ev_brk, ev_cont, ev_asgN, ev_asgT, ev_asgO, ev_mgTup, ev_mgN, ev_mgC, ev_mg0, ev_putL, ev_putO, ev_var, ev_vr, ev_c, ev_op, ev_un, ev_test, ev_tb, ev_notT, ev_andT, ev_orT, ev_ifE, ev_not, ev_nb, ev_and, ev_andK, ev_or, ev_orK, ev_chain, ev_chK, ev_nil, ev_cons, ev_tup, ev_lst, ev_new, ev_call, ev_cb, ev_size, ev_addI, ev_addS, ev_addT, ev_addL, ev_catO, ev_sub, ev_mul, ev_div, ev_mod, ev_p5, ev_p6, ev_p12, ev_p18, ev_p30, ev_neg, ev_ltI, ev_ltS, ev_leI, ev_leS, ev_gt, ev_ge, ev_eqI, ev_eqS, ev_neI, ev_neS, ev_neB, ev_eqB, ev_is, ev_isnot, ev_ixT, ev_ixS, ev_ixR, ev_ixL, ev_ixK, ev_getL, ev_getM, ev_gL, ev_gM, ev_at0, ev_at1, ev_at2, ev_at3, ev_at4, ev_lenS, ev_lenR, ev_lenT, ev_lenL, ev_lenO, ev_lenD, ev_abs, ev_min2, ev_max2, ev_intI, ev_intB, ev_set, ev_fc, ev_setset, ev_last, ev_appk, ev_app0, ev_setk, ev_set0, ev_assoc, ev_lapp, ev_lappA, ev_sl, ev_nopart, ev_part, ev_ptK, ev_slT, ev_slS, ev_slR, ev_slK, ev_tyN, ev_tyB, ev_tyI, ev_tyS, ev_tyT, ev_tyL, ev_tyR, ev_tyRL, ev_isi, ev_isi1, ev_isi2, ev_isi3, ev_isi4, ev_isi5, ev_isiT, ev_isi2K, ev_isTy, ev_list, ev_listK, ev_tuple, ev_tupK, ev_getST, ev_getSR, ev_getSL, ev_all, ev_allK, ev_eqXI, ev_eqXS, ev_neXI, ev_neXS, ev_neXB, ev_eqXB, ev_eqXR, ev_neXR, ev_nil2, ev_eqK, ev_neK, ev_meth, ev_meth0, ev_mth1, ev_mth2, ev_mth3, ev_append, ev_m0, ev_m0K, ev_str, ev_for, ev_miR1, ev_rg1K, ev_miL, ev_liK, ev_miT, ev_tiK, ev_lc, ev_wipe0, ev_wipeS, ev_yes, ev_lenSet, ev_lenSetK, ev_listR, ev_lrK, ev_put2, ev_p2A, ev_p2K, ev_p2E, ev_put1, ev_pt1, ev_addXI, ev_addXB, ev_addXS, ev_addXT, ev_addXL, ev_subXI, ev_subXB, ev_mulXI, ev_mulXB, ev_mulXL, ev_negXI, ev_negXB, ev_strXI, ev_strXB, ev_mulYI, ev_mulYB, ev_mulYL, ev_mulYT, ev_dnew, ev_dnewT, ev_dgetE, ev_getD, ev_gD, ev_keyI, ev_keyS, ev_dgK, ev_dinE, ev_diK, ev_dputE, ev_dpK, ev_dget2E, ev_isDA, ev_isSome, ev_isNone, ev_dg2K, ev_dpop2E, ev_dp2K, ev_dp3S, ev_dp3N, ev_sortedE, ev_srO1, ev_srO2, ev_gLd, ev_srKS, ev_srKI, ev_gDT, ev_gT, ev_tinE, ev_tiKK, ev_keysA, ev_keysN, ev_keysC, ev_dputTE, ev_dptK, ev_dispE, ev_mpN, ev_mpC, ev_pcK, ev_dsK, ev_dsK2, ev_lc2E, ev_imp, ev_simp, ev_split, ev_splF, ev_splG, ev_fmt, ev_fmtS, ev_fmtI, ev_addK, ev_js0, ev_js1, ev_joined, ev_star, ev_starK, ev_each2, ev_each2K, ev_unl, ev_unlK, ev_intS, ev_strYS, ev_strYI, ev_fldE, ev_getI, ev_gI, ev_fdK, ev_fldS, ev_fpK, ev_mtE, ev_miK, ev_mkE, ev_mkK, ev_callE, ev_tryAs, ev_raise0, ev_raise1, ev_raiseN, ev_revS, ev_revK, ev_zip, ev_enumF, ev_enum, ev_kget, ev_kgK, ev_index, ev_mjoin, ev_joinG, ev_joinK, ev_sbind, ev_miS, ev_siK, ev_truS, List.getElem?_cons_zero, List.getElem?_cons_succ, List.set_cons_zero, List.set_cons_succ, List.length_cons, List.length_nil, List.cons_append, List.nil_append, if_true, if_false, Bool.false_eq_true, Bool.true_eq_false, reduceIte, Bool.not_true, Bool.not_false, Bool.and_true, Bool.true_and, Bool.and_false, Bool.false_and, Bool.or_true, Bool.true_or, Bool.or_false, Bool.false_or, decide_eq_true_eq, Nat.reduceAdd, Nat.reduceLeDiff, Nat.zero_add, Int.reduceLT, Int.reduceLE, Int.reduceEq, Int.reduceNeg, Nat.reduceEqDiff, and_self, and_true, true_and, decide_true, decide_false, eq_self, ite_true, ite_false, Int.reduceSub, Int.reduceAdd, Int.cast_ofNat_Int, Int.natCast_add, Int.cast_ofNat_Int, Nat.reduceSub, Nat.add_assoc, String.reduceBEq, String.reduceEq, Bool.or_not_self, beq_self_eq_true]
    refine okR_use (readStep_wp (h.ok q hq)) fun a s hh => ?_
    obtain ⟨rfl, k2, rfl⟩ := hh
    exact ⟨(step_back (h.ok q hq)).symm, k2, List.append_assoc _ _ _⟩
  · have e1 : ((sts.map lnT).map A.str).map stepFA = sts.map stA := by
      rw [List.map_map, List.map_map]
      exact List.map_congr_left fun q hq => step_back (h.ok q hq)
    rw [e1]
    have h3 := h.app (AO.lst (sts.map stA) :: l')
    have ne := neL_same (k := 1) (mid_get (S := s) (l := l') (o := AO.lst (sts.map stA))) h3.g4 pds (by decide)
    obtain ⟨S1, hS1⟩ : ∃ S1, S1 = s ++ AO.lst (sts.map stA) :: l' := ⟨_, rfl⟩
    rw [← hS1] at h3 ne ⊢
    have g52 := h3.g5
    simp only [wp_okR, wp_okF, wp_fin, wp_next, wp_then, wp_bind, wp_nox, wp_tK, wp_bK, wp_fr, wp_fn, wp_nn, wp_nr, wp_nb, wp_nc, wp_ln, wp_lc, wp_lb, wp_lr, wp_jn, wp_jc, ev_bok, ev_bno, ev_bex, ev_tok, ev_tno, ev_tex, ev_nnx, ev_nrt, ev_nbk, ev_nct, ev_nex, ev_nno, ev_frt, ev_fnx, ev_fex, ev_xok, ev_lsome, ev_lnone, ev_seq, ev_if, ev_ret, ev_retN, ev_drop, ev_nop, ev_brk, ev_cont, ev_asgN, ev_asgT, ev_asgO, ev_mgTup, ev_mgN, ev_mgC, ev_mg0, ev_putL, ev_putO, ev_var, ev_vr, ev_c, ev_op, ev_un, ev_test, ev_tb, ev_notT, ev_andT, ev_orT, ev_ifE, ev_not, ev_nb, ev_and, ev_andK, ev_or, ev_orK, ev_chain, ev_chK, ev_nil, ev_cons, ev_tup, ev_lst, ev_new, ev_call, ev_cb, ev_size, ev_addI, ev_addS, ev_addT, ev_addL, ev_catO, ev_sub, ev_mul, ev_div, ev_mod, ev_p5, ev_p6, ev_p12, ev_p18, ev_p30, ev_neg, ev_ltI, ev_ltS, ev_leI, ev_leS, ev_gt, ev_ge, ev_eqI, ev_eqS, ev_neI, ev_neS, ev_neB, ev_eqB, ev_is, ev_isnot, ev_ixT, ev_ixS, ev_ixR, ev_ixL, ev_ixK, ev_getL, ev_getM, ev_gL, ev_gM, ev_at0, ev_at1, ev_at2, ev_at3, ev_at4, ev_lenS, ev_lenR, ev_lenT, ev_lenL, ev_lenO, ev_lenD, ev_abs, ev_min2, ev_max2, ev_intI, ev_intB, ev_set, ev_fc, ev_setset, ev_last, ev_appk, ev_app0, ev_setk, ev_set0, ev_assoc, ev_lapp, ev_lappA, ev_sl, ev_nopart, ev_part, ev_ptK, ev_slT, ev_slS, ev_slR, ev_slK, ev_tyN, ev_tyB, ev_tyI, ev_tyS, ev_tyT, ev_tyL, ev_tyR, ev_tyRL, ev_isi, ev_isi1, ev_isi2, ev_isi3, ev_isi4, ev_isi5, ev_isiT, ev_isi2K, ev_isTy, ev_list, ev_listK, ev_tuple, ev_tupK, ev_getST, ev_getSR, ev_getSL, ev_all, ev_allK, ev_eqXI, ev_eqXS, ev_neXI, ev_neXS, ev_neXB, ev_eqXB, ev_eqXR, ev_neXR, ev_nil2, ev_eqK, ev_neK, ev_meth, ev_meth0, ev_mth1, ev_mth2, ev_mth3, ev_append, ev_m0, ev_m0K, ev_str, ev_for, ev_miR1, ev_rg1K, ev_miL, ev_liK, ev_miT, ev_tiK, ev_lc, ev_wipe0, ev_wipeS, ev_yes, ev_lenSet, ev_lenSetK, ev_listR, ev_lrK, ev_put2, ev_p2A, ev_p2K, ev_p2E, ev_put1, ev_pt1, ev_addXI, ev_addXB, ev_addXS, ev_addXT, ev_addXL, ev_subXI, ev_subXB, ev_mulXI, ev_mulXB, ev_mulXL, ev_negXI, ev_negXB, ev_strXI, ev_strXB, ev_mulYI, ev_mulYB, ev_mulYL, ev_mulYT, ev_dnew, ev_dnewT, ev_dgetE, ev_getD, ev_gD, ev_keyI, ev_keyS, ev_dgK, ev_dinE, ev_diK, ev_dputE, ev_dpK, ev_dget2E, ev_isDA, ev_isSome, ev_isNone, ev_dg2K, ev_dpop2E, ev_dp2K, ev_dp3S, ev_dp3N, ev_sortedE, ev_srO1, ev_srO2, ev_gLd, ev_srKS, ev_srKI, ev_gDT, ev_gT, ev_tinE, ev_tiKK, ev_keysA, ev_keysN, ev_keysC, ev_dputTE, ev_dptK, ev_dispE, ev_mpN, ev_mpC, ev_pcK, ev_dsK, ev_dsK2, ev_lc2E, ev_imp, ev_simp, ev_split, ev_splF, ev_splG, ev_fmt, ev_fmtS, ev_fmtI, ev_addK, ev_js0, ev_js1, ev_joined, ev_star, ev_starK, ev_each2, ev_each2K, ev_unl, ev_unlK, ev_intS, ev_strYS, ev_strYI, ev_fldE, ev_getI, ev_gI, ev_fdK, ev_fldS, ev_fpK, ev_mtE, ev_miK, ev_mkE, ev_mkK, ev_callE, ev_tryAs, ev_raise0, ev_raise1, ev_raiseN, ev_revS, ev_revK, ev_zip, ev_enumF, ev_enum, ev_kget, ev_kgK, ev_index, ev_mjoin, ev_joinG, ev_joinK, ev_sbind, ev_miS, ev_siK, ev_truS, List.getElem?_cons_zero, List.getElem?_cons_succ, List.set_cons_zero, List.set_cons_succ, List.length_cons, List.length_nil, List.cons_append, List.nil_append, if_true, if_false, Bool.false_eq_true, Bool.true_eq_false, reduceIte, Bool.not_true, Bool.not_false, Bool.and_true, Bool.true_and, Bool.and_false, Bool.false_and, Bool.or_true, Bool.true_or, Bool.or_false, Bool.false_or, decide_eq_true_eq, Nat.reduceAdd, Nat.reduceLeDiff, Nat.zero_add, Int.reduceLT, Int.reduceLE, Int.reduceEq, Int.reduceNeg, Nat.reduceEqDiff, and_self, and_true, true_and, decide_true, decide_false, eq_self, ite_true, ite_false, Int.reduceSub, Int.reduceAdd, Int.cast_ofNat_Int, Int.natCast_add, Int.cast_ofNat_Int, Nat.reduceSub, Nat.add_assoc, String.reduceBEq, String.reduceEq, Bool.or_not_self, beq_self_eq_true, ne, nm, g52, e2, hb, u]
    refine okR_use (readLines_wp h3.ls (by omega)) fun a t hh => ?_
    obtain ⟨rfl, l, rfl⟩ := hh
    have h4 := h3.app (AO.lst (sts.map stA) :: l)
    have ne := neL_same (k := 1) (mid_get (S := S1) (l := l) (o := AO.lst (sts.map stA))) h4.g4 pds (by decide)
    simp only [wp_okR, wp_okF, wp_fin, wp_next, wp_then, wp_bind, wp_nox, wp_tK, wp_bK, wp_fr, wp_fn, wp_nn, wp_nr, wp_nb, wp_nc, wp_ln, wp_lc, wp_lb, wp_lr, wp_jn, wp_jc, ev_bok, ev_bno, ev_bex, ev_tok, ev_tno, ev_tex, ev_nnx, ev_nrt, ev_nbk, ev_nct, ev_nex, ev_nno, ev_frt, ev_fnx, ev_fex, ev_xok, ev_lsome, ev_lnone, ev_seq, ev_if, ev_ret, ev_retN, ev_drop, ev_nop, ev_brk, ev_cont, ev_asgN, ev_asgT, ev_asgO, ev_mgTup, ev_mgN, ev_mgC, ev_mg0, ev_putL, ev_putO, ev_var, ev_vr, ev_c, ev_op, ev_un, ev_test, ev_tb, ev_notT, ev_andT, ev_orT, ev_ifE, ev_not, ev_nb, ev_and, ev_andK, ev_or, ev_orK, ev_chain, ev_chK, ev_nil, ev_cons, ev_tup, ev_lst, ev_new, ev_call, ev_cb, ev_size, ev_addI, ev_addS, ev_addT, ev_addL, ev_catO, ev_sub, ev_mul, ev_div, ev_mod, ev_p5, ev_p6, ev_p12, ev_p18, ev_p30, ev_neg, ev_ltI, ev_ltS, ev_leI, ev_leS, ev_gt, ev_ge, ev_eqI, ev_eqS, ev_neI, ev_neS, ev_neB, ev_eqB, ev_is, ev_isnot, ev_ixT, ev_ixS, ev_ixR, ev_ixL, ev_ixK, ev_getL, ev_getM, ev_gL, ev_gM, ev_at0, ev_at1, ev_at2, ev_at3, ev_at4, ev_lenS, ev_lenR, ev_lenT, ev_lenL, ev_lenO, ev_lenD, ev_abs, ev_min2, ev_max2, ev_intI, ev_intB, ev_set, ev_fc, ev_setset, ev_last, ev_appk, ev_app0, ev_setk, ev_set0, ev_assoc, ev_lapp, ev_lappA, ev_sl, ev_nopart, ev_part, ev_ptK, ev_slT, ev_slS, ev_slR, ev_slK, ev_tyN, ev_tyB, ev_tyI, ev_tyS, ev_tyT, ev_tyL, ev_tyR, ev_tyRL, ev_isi, ev_isi1, ev_isi2, ev_isi3, ev_isi4, ev_isi5, ev_isiT, ev_isi2K, ev_isTy, ev_list, ev_listK, ev_tuple, ev_tupK, ev_getST, ev_getSR, ev_getSL, ev_all, ev_allK, ev_eqXI, ev_eqXS, ev_neXI, ev_neXS, ev_neXB, ev_eqXB, ev_eqXR, ev_neXR, ev_nil2, ev_eqK, ev_neK, ev_meth, ev_meth0, ev_mth1, ev_mth2, ev_mth3, ev_append, ev_m0, ev_m0K, ev_str, ev_for, ev_miR1, ev_rg1K, ev_miL, ev_liK, ev_miT, ev_tiK, ev_lc, ev_wipe0, ev_wipeS, ev_yes, ev_lenSet, ev_lenSetK, ev_listR, ev_lrK, ev_put2, ev_p2A, ev_p2K, ev_p2E, ev_put1, ev_pt1, ev_addXI, ev_addXB, ev_addXS, ev_addXT, ev_addXL, ev_subXI, ev_subXB, ev_mulXI, ev_mulXB, ev_mulXL, ev_negXI, ev_negXB, ev_strXI, ev_strXB, ev_mulYI, ev_mulYB, ev_mulYL, ev_mulYT, ev_dnew, ev_dnewT, ev_dgetE, ev_getD, ev_gD, ev_keyI, ev_keyS, ev_dgK, ev_dinE, ev_diK, ev_dputE, ev_dpK, ev_dget2E, ev_isDA, ev_isSome, ev_isNone, ev_dg2K, ev_dpop2E, ev_dp2K, ev_dp3S, ev_dp3N, ev_sortedE, ev_srO1, ev_srO2, ev_gLd, ev_srKS, ev_srKI, ev_gDT, ev_gT, ev_tinE, ev_tiKK, ev_keysA, ev_keysN, ev_keysC, ev_dputTE, ev_dptK, ev_dispE, ev_mpN, ev_mpC, ev_pcK, ev_dsK, ev_dsK2, ev_lc2E, ev_imp, ev_simp, ev_split, ev_splF, ev_splG, ev_fmt, ev_fmtS, ev_fmtI, ev_addK, ev_js0, ev_js1, ev_joined, ev_star, ev_starK, ev_each2, ev_each2K, ev_unl, ev_unlK, ev_intS, ev_strYS, ev_strYI, ev_fldE, ev_getI, ev_gI, ev_fdK, ev_fldS, ev_fpK, ev_mtE, ev_miK, ev_mkE, ev_mkK, ev_callE, ev_tryAs, ev_raise0, ev_raise1, ev_raiseN, ev_revS, ev_revK, ev_zip, ev_enumF, ev_enum, ev_kget, ev_kgK, ev_index, ev_mjoin, ev_joinG, ev_joinK, ev_sbind, ev_miS, ev_siK, ev_truS, List.getElem?_cons_zero, List.getElem?_cons_succ, List.set_cons_zero, List.set_cons_succ, List.length_cons, List.length_nil, List.cons_append, List.nil_append, if_true, if_false, Bool.false_eq_true, Bool.true_eq_false, reduceIte, Bool.not_true, Bool.not_false, Bool.and_true, Bool.true_and, Bool.and_false, Bool.false_and, Bool.or_true, Bool.true_or, Bool.or_false, Bool.false_or, decide_eq_true_eq, Nat.reduceAdd, Nat.reduceLeDiff, Nat.zero_add, Int.reduceLT, Int.reduceLE, Int.reduceEq, Int.reduceNeg, Nat.reduceEqDiff, and_self, and_true, true_and, decide_true, decide_false, eq_self, ite_true, ite_false, Int.reduceSub, Int.reduceAdd, Int.cast_ofNat_Int, Int.natCast_add, Int.cast_ofNat_Int, Nat.reduceSub, Nat.add_assoc, String.reduceBEq, String.reduceEq, Bool.or_not_self, beq_self_eq_true, ne]
    exact h4
theorem rd6_wp {e0 e1 e3 e6 e7 : Option A} {b n4 n5 m : Nat} {sts : List (Str × List A)} {ms : List Str} {s : Sto} (h : Rnd b n4 n5 sts m ms s) (hm : m ≤ 30) :
    okF (rdA6 (envR e0 e1 e3 e6 e7 b n4 n5) s) fun f t => ∃ e3' ms', f = .nx (envR e0 e1 e3' e6 e7 b n4 n5) ∧ Rnd b n4 n5 sts (m + 6) ms' t := by
  unfold rdA6 envR
  simp only [wp_okR, wp_okF, wp_fin, wp_next, wp_then, wp_bind, wp_nox, wp_tK, wp_bK, wp_fr, wp_fn, wp_nn, wp_nr, wp_nb, wp_nc, wp_ln, wp_lc, wp_lb, wp_lr, wp_jn, wp_jc, ev_bok, ev_bno, ev_bex, ev_tok, ev_tno, ev_tex, ev_nnx, ev_nrt, ev_nbk, ev_nct, ev_nex, ev_nno, ev_frt, ev_fnx, ev_fex, ev_xok, ev_lsome, ev_lnone, ev_seq, ev_if, ev_ret, ev_retN, ev_drop, ev_nop, ev_brk, ev_cont, ev_asgN, ev_asgT, ev_asgO, ev_mgTup, ev_mgN, ev_mgC, ev_mg0, ev_putL, ev_putO, ev_var, ev_vr, ev_c, ev_op, ev_un, ev_test, ev_tb, ev_notT, ev_andT, ev_orT, ev_ifE, ev_not, ev_nb, ev_and, ev_andK, ev_or, ev_orK, ev_chain, ev_chK, ev_nil, ev_cons, ev_tup, ev_lst, ev_new, ev_call, ev_cb, ev_size, ev_addI, ev_addS, ev_addT, ev_addL, ev_catO, ev_sub, ev_mul, ev_div, ev_mod, ev_p5, ev_p6, ev_p12, ev_p18, ev_p30, ev_neg, ev_ltI, ev_ltS, ev_leI, ev_leS, ev_gt, ev_ge, ev_eqI, ev_eqS, ev_neI, ev_neS, ev_neB, ev_eqB, ev_is, ev_isnot, ev_ixT, ev_ixS, ev_ixR, ev_ixL, ev_ixK, ev_getL, ev_getM, ev_gL, ev_gM, ev_at0, ev_at1, ev_at2, ev_at3, ev_at4, ev_lenS, ev_lenR, ev_lenT, ev_lenL, ev_lenO, ev_lenD, ev_abs, ev_min2, ev_max2, ev_intI, ev_intB, ev_set, ev_fc, ev_setset, ev_last, ev_appk, ev_app0, ev_setk, ev_set0, ev_assoc, ev_lapp, ev_lappA, ev_sl, ev_nopart, ev_part, ev_ptK, ev_slT, ev_slS, ev_slR, ev_slK, ev_tyN, ev_tyB, ev_tyI, ev_tyS, ev_tyT, ev_tyL, ev_tyR, ev_tyRL, ev_isi, ev_isi1, ev_isi2, ev_isi3, ev_isi4, ev_isi5, ev_isiT, ev_isi2K, ev_isTy, ev_list, ev_listK, ev_tuple, ev_tupK, ev_getST, ev_getSR, ev_getSL, ev_all, ev_allK, ev_eqXI, ev_eqXS, ev_neXI, ev_neXS, ev_neXB, ev_eqXB, ev_eqXR, ev_neXR, ev_nil2, ev_eqK, ev_neK, ev_meth, ev_meth0, ev_mth1, ev_mth2, ev_mth3, ev_append, ev_m0, ev_m0K, ev_str, ev_for, ev_miR1, ev_rg1K, ev_miL, ev_liK, ev_miT, ev_tiK, ev_lc, ev_wipe0, ev_wipeS, ev_yes, ev_lenSet, ev_lenSetK, ev_listR, ev_lrK, ev_put2, ev_p2A, ev_p2K, ev_p2E, ev_put1, ev_pt1, ev_addXI, ev_addXB, ev_addXS, ev_addXT, ev_addXL, ev_subXI, ev_subXB, ev_mulXI, ev_mulXB, ev_mulXL, ev_negXI, ev_negXB, ev_strXI, ev_strXB, ev_mulYI, ev_mulYB, ev_mulYL, ev_mulYT, ev_dnew, ev_dnewT, ev_dgetE, ev_getD, ev_gD, ev_keyI, ev_keyS, ev_dgK, ev_dinE, ev_diK, ev_dputE, ev_dpK, ev_dget2E, ev_isDA, ev_isSome, ev_isNone, ev_dg2K, ev_dpop2E, ev_dp2K, ev_dp3S, ev_dp3N, ev_sortedE, ev_srO1, ev_srO2, ev_gLd, ev_srKS, ev_srKI, ev_gDT, ev_gT, ev_tinE, ev_tiKK, ev_keysA, ev_keysN, ev_keysC, ev_dputTE, ev_dptK, ev_dispE, ev_mpN, ev_mpC, ev_pcK, ev_dsK, ev_dsK2, ev_lc2E, ev_imp, ev_simp, ev_split, ev_splF, ev_splG, ev_fmt, ev_fmtS, ev_fmtI, ev_addK, ev_js0, ev_js1, ev_joined, ev_star, ev_starK, ev_each2, ev_each2K, ev_unl, ev_unlK, ev_intS, ev_strYS, ev_strYI, ev_fldE, ev_getI, ev_gI, ev_fdK, ev_fldS, ev_fpK, ev_mtE, ev_miK, ev_mkE, ev_mkK, ev_callE, ev_tryAs, ev_raise0, ev_raise1, ev_raiseN, ev_revS, ev_revK, ev_zip, ev_enumF, ev_enum, ev_kget, ev_kgK, ev_index, ev_mjoin, ev_joinG, ev_joinK, ev_sbind, ev_miS, ev_siK, ev_truS, List.getElem?_cons_zero, List.getElem?_cons_succ, List.set_cons_zero, List.set_cons_succ, List.length_cons, List.length_nil, List.cons_append, List.nil_append, if_true, if_false, Bool.false_eq_true, Bool.true_eq_false, reduceIte, Bool.not_true, Bool.not_false, Bool.and_true, Bool.true_and, Bool.and_false, Bool.false_and, Bool.or_true, Bool.true_or, Bool.or_false, Bool.false_or, decide_eq_true_eq, Nat.reduceAdd, Nat.reduceLeDiff, Nat.zero_add, Int.reduceLT, Int.reduceLE, Int.reduceEq, Int.reduceNeg, Nat.reduceEqDiff, and_self, and_true, true_and, decide_true, decide_false, eq_self, ite_true, ite_false, Int.reduceSub, Int.reduceAdd, Int.cast_ofNat_Int, Int.natCast_add, Int.cast_ofNat_Int, Nat.reduceSub, Nat.add_assoc, String.reduceBEq, String.reduceEq, Bool.or_not_self, beq_self_eq_true]
  refine okR_use (take_wp h.bag (by decide) (by decide)) fun a t hh => ?_
  obtain ⟨r, rfl, r0, r1, D⟩ := hh
  have h2 := h.dr D
  have u1 : -(2 ^ 62) ≤ r ∧ r < 2 ^ 62 := by omega
  simp only [wp_okR, wp_okF, wp_fin, wp_next, wp_then, wp_bind, wp_nox, wp_tK, wp_bK, wp_fr, wp_fn, wp_nn, wp_nr, wp_nb, wp_nc, wp_ln, wp_lc, wp_lb, wp_lr, wp_jn, wp_jc, ev_bok, ev_bno, ev_bex, ev_tok, ev_tno, ev_tex, ev_nnx, ev_nrt, ev_nbk, ev_nct, ev_nex, ev_nno, ev_frt, ev_fnx, ev_fex, ev_xok, ev_lsome, ev_lnone, ev_seq, ev_if, ev_ret, ev_retN, ev_drop, ev_nop, ev_brk, ev_cont, ev_asgN, ev_asgT, ev_asgO, ev_mgTup, ev_mgN, ev_mgC, ev_mg0, ev_putL, ev_putO, ev_var, ev_vr, ev_c, ev_op, ev_un, ev_test, ev_tb, ev_notT, ev_andT, ev_orT, ev_ifE, ev_not, ev_nb, ev_and, ev_andK, ev_or, ev_orK, ev_chain, ev_chK, ev_nil, ev_cons, ev_tup, ev_lst, ev_new, ev_call, ev_cb, ev_size, ev_addI, ev_addS, ev_addT, ev_addL, ev_catO, ev_sub, ev_mul, ev_div, ev_mod, ev_p5, ev_p6, ev_p12, ev_p18, ev_p30, ev_neg, ev_ltI, ev_ltS, ev_leI, ev_leS, ev_gt, ev_ge, ev_eqI, ev_eqS, ev_neI, ev_neS, ev_neB, ev_eqB, ev_is, ev_isnot, ev_ixT, ev_ixS, ev_ixR, ev_ixL, ev_ixK, ev_getL, ev_getM, ev_gL, ev_gM, ev_at0, ev_at1, ev_at2, ev_at3, ev_at4, ev_lenS, ev_lenR, ev_lenT, ev_lenL, ev_lenO, ev_lenD, ev_abs, ev_min2, ev_max2, ev_intI, ev_intB, ev_set, ev_fc, ev_setset, ev_last, ev_appk, ev_app0, ev_setk, ev_set0, ev_assoc, ev_lapp, ev_lappA, ev_sl, ev_nopart, ev_part, ev_ptK, ev_slT, ev_slS, ev_slR, ev_slK, ev_tyN, ev_tyB, ev_tyI, ev_tyS, ev_tyT, ev_tyL, ev_tyR, ev_tyRL, ev_isi, ev_isi1, ev_isi2, ev_isi3, ev_isi4, ev_isi5, ev_isiT, ev_isi2K, ev_isTy, ev_list, ev_listK, ev_tuple, ev_tupK, ev_getST, ev_getSR, ev_getSL, ev_all, ev_allK, ev_eqXI, ev_eqXS, ev_neXI, ev_neXS, ev_neXB, ev_eqXB, ev_eqXR, ev_neXR, ev_nil2, ev_eqK, ev_neK, ev_meth, ev_meth0, ev_mth1, ev_mth2, ev_mth3, ev_append, ev_m0, ev_m0K, ev_str, ev_for, ev_miR1, ev_rg1K, ev_miL, ev_liK, ev_miT, ev_tiK, ev_lc, ev_wipe0, ev_wipeS, ev_yes, ev_lenSet, ev_lenSetK, ev_listR, ev_lrK, ev_put2, ev_p2A, ev_p2K, ev_p2E, ev_put1, ev_pt1, ev_addXI, ev_addXB, ev_addXS, ev_addXT, ev_addXL, ev_subXI, ev_subXB, ev_mulXI, ev_mulXB, ev_mulXL, ev_negXI, ev_negXB, ev_strXI, ev_strXB, ev_mulYI, ev_mulYB, ev_mulYL, ev_mulYT, ev_dnew, ev_dnewT, ev_dgetE, ev_getD, ev_gD, ev_keyI, ev_keyS, ev_dgK, ev_dinE, ev_diK, ev_dputE, ev_dpK, ev_dget2E, ev_isDA, ev_isSome, ev_isNone, ev_dg2K, ev_dpop2E, ev_dp2K, ev_dp3S, ev_dp3N, ev_sortedE, ev_srO1, ev_srO2, ev_gLd, ev_srKS, ev_srKI, ev_gDT, ev_gT, ev_tinE, ev_tiKK, ev_keysA, ev_keysN, ev_keysC, ev_dputTE, ev_dptK, ev_dispE, ev_mpN, ev_mpC, ev_pcK, ev_dsK, ev_dsK2, ev_lc2E, ev_imp, ev_simp, ev_split, ev_splF, ev_splG, ev_fmt, ev_fmtS, ev_fmtI, ev_addK, ev_js0, ev_js1, ev_joined, ev_star, ev_starK, ev_each2, ev_each2K, ev_unl, ev_unlK, ev_intS, ev_strYS, ev_strYI, ev_fldE, ev_getI, ev_gI, ev_fdK, ev_fldS, ev_fpK, ev_mtE, ev_miK, ev_mkE, ev_mkK, ev_callE, ev_tryAs, ev_raise0, ev_raise1, ev_raiseN, ev_revS, ev_revK, ev_zip, ev_enumF, ev_enum, ev_kget, ev_kgK, ev_index, ev_mjoin, ev_joinG, ev_joinK, ev_sbind, ev_miS, ev_siK, ev_truS, List.getElem?_cons_zero, List.getElem?_cons_succ, List.set_cons_zero, List.set_cons_succ, List.length_cons, List.length_nil, List.cons_append, List.nil_append, if_true, if_false, Bool.false_eq_true, Bool.true_eq_false, reduceIte, Bool.not_true, Bool.not_false, Bool.and_true, Bool.true_and, Bool.and_false, Bool.false_and, Bool.or_true, Bool.true_or, Bool.or_false, Bool.false_or, decide_eq_true_eq, Nat.reduceAdd, Nat.reduceLeDiff, Nat.zero_add, Int.reduceLT, Int.reduceLE, Int.reduceEq, Int.reduceNeg, Nat.reduceEqDiff, and_self, and_true, true_and, decide_true, decide_false, eq_self, ite_true, ite_false, Int.reduceSub, Int.reduceAdd, Int.cast_ofNat_Int, Int.natCast_add, Int.cast_ofNat_Int, Nat.reduceSub, Nat.add_assoc, String.reduceBEq, String.reduceEq, Bool.or_not_self, beq_self_eq_true, u1]
  refine forL_wp (fun i env s => ∃ e3 ms, env = [e0, e1, some (.ref b), e3, some (.ref n4), some (.ref n5), e6, e7] ∧ Rnd b n4 n5 sts (m + i) ms s) (j := 0) (fun _ _ _ _ => trivial) ⟨_, _, rfl, h2⟩ (fun i x env s hx hI => ?_) (fun env s hI => ?_)
  · obtain ⟨e3, ms1, rfl, hR⟩ := hI
    have hi : i < (rngA 0 r.toNat).length := (List.getElem?_eq_some_iff.mp hx).1
    unfold rngA at hi
    rw [List.length_map, List.length_range] at hi
    rw [Nat.zero_add] at hR ⊢
    refine ⟨_, rfl, okF_use (ins_wp hR (by omega)) fun f t hh => ?_⟩
    obtain ⟨rfl, ms2, h3⟩ := hh
    exact ⟨_, ms2, rfl, h3⟩
  · obtain ⟨e3, ms1, rfl, hR⟩ := hI
    unfold rngA at hR
    rw [List.length_map, List.length_range] at hR
    exact ⟨e3, ms1, rfl, ⟨hR.bag, hR.g4, hR.g5, ⟨hR.ls.k, hR.ls.b, by have := hR.ls.l; omega⟩, hR.ok, hR.b4, hR.b5, hR.n45⟩⟩
theorem rd8_wp {e0 e1 e3 e6 e7 : Option A} {b n4 n5 m : Nat} {sts : List (Str × List A)} {ms : List Str} {s : Sto} (h : Rnd b n4 n5 sts m ms s) (hm : m ≤ 999) :
    okF (rdA8 (envR e0 e1 e3 e6 e7 b n4 n5) s) fun f t => f = .nx (envR e0 e1 e3 e6 e7 b n4 n5) ∧ ∃ pre post, ms = pre ++ post ∧ t[n5]? = some (.lst ((pre ++ BLK :: post).map A.str)) := by
  unfold rdA8 envR
  have nm : Str.ofString " " = BLK := rfl
  have hl := h.ls.l
  have g5 := h.g5
  simp only [wp_okR, wp_okF, wp_fin, wp_next, wp_then, wp_bind, wp_nox, wp_tK, wp_bK, wp_fr, wp_fn, wp_nn, wp_nr, wp_nb, wp_nc, wp_ln, wp_lc, wp_lb, wp_lr, wp_jn, wp_jc, ev_bok, ev_bno, ev_bex, ev_tok, ev_tno, ev_tex, ev_nnx, ev_nrt, ev_nbk, ev_nct, ev_nex, ev_nno, ev_frt, ev_fnx, ev_fex, ev_xok, ev_lsome, ev_lnone, ev_seq, ev_if, ev_ret, ev_retN, ev_drop, ev_nop, ev_brk, ev_cont, ev_asgN, ev_asgT, ev_asgO, ev_mgTup, ev_mgN, ev_mgC, ev_mg0, ev_putL, ev_putO, ev_var, ev_vr, ev_c, ev_op, ev_un, ev_test, ev_tb, ev_notT, ev_andT, ev_orT, ev_ifE, ev_not, ev_nb, ev_and, ev_andK, ev_or, ev_orK, ev_chain, ev_chK, ev_nil, ev_cons, ev_tup, ev_lst, ev_new, ev_call, ev_cb, ev_size, ev_addI, ev_addS, ev_addT, ev_addL, ev_catO, ev_sub, ev_mul, ev_div, ev_mod, ev_p5, ev_p6, ev_p12, ev_p18, ev_p30, ev_neg, ev_ltI, ev_ltS, ev_leI, ev_leS, ev_gt, ev_ge, ev_eqI, ev_eqS, ev_neI, ev_neS, ev_neB, ev_eqB, ev_is, ev_isnot, ev_ixT, ev_ixS, ev_ixR, ev_ixL, ev_ixK, ev_getL, ev_getM, ev_gL, ev_gM, ev_at0, ev_at1, ev_at2, ev_at3, ev_at4, ev_lenS, ev_lenR, ev_lenT, ev_lenL, ev_lenO, ev_lenD, ev_abs, ev_min2, ev_max2, ev_intI, ev_intB, ev_set, ev_fc, ev_setset, ev_last, ev_appk, ev_app0, ev_setk, ev_set0, ev_assoc, ev_lapp, ev_lappA, ev_sl, ev_nopart, ev_part, ev_ptK, ev_slT, ev_slS, ev_slR, ev_slK, ev_tyN, ev_tyB, ev_tyI, ev_tyS, ev_tyT, ev_tyL, ev_tyR, ev_tyRL, ev_isi, ev_isi1, ev_isi2, ev_isi3, ev_isi4, ev_isi5, ev_isiT, ev_isi2K, ev_isTy, ev_list, ev_listK, ev_tuple, ev_tupK, ev_getST, ev_getSR, ev_getSL, ev_all, ev_allK, ev_eqXI, ev_eqXS, ev_neXI, ev_neXS, ev_neXB, ev_eqXB, ev_eqXR, ev_neXR, ev_nil2, ev_eqK, ev_neK, ev_meth, ev_meth0, ev_mth1, ev_mth2, ev_mth3, ev_append, ev_m0, ev_m0K, ev_str, ev_for, ev_miR1, ev_rg1K, ev_miL, ev_liK, ev_miT, ev_tiK, ev_lc, ev_wipe0, ev_wipeS, ev_yes, ev_lenSet, ev_lenSetK, ev_listR, ev_lrK, ev_put2, ev_p2A, ev_p2K, ev_p2E, ev_put1, ev_pt1, ev_addXI, ev_addXB, ev_addXS, ev_addXT, ev_addXL, ev_subXI, ev_subXB, ev_mulXI, ev_mulXB, ev_mulXL, ev_negXI, ev_negXB, ev_strXI, ev_strXB, ev_mulYI, ev_mulYB, ev_mulYL, ev_mulYT, ev_dnew, ev_dnewT, ev_dgetE, ev_getD, ev_gD, ev_keyI, ev_keyS, ev_dgK, ev_dinE, ev_diK, ev_dputE, ev_dpK, ev_dget2E, ev_isDA, ev_isSome, ev_isNone, ev_dg2K, ev_dpop2E, ev_dp2K, ev_dp3S, ev_dp3N, ev_sortedE, ev_srO1, ev_srO2, ev_gLd, ev_srKS, ev_srKI, ev_gDT, ev_gT, ev_tinE, ev_tiKK, ev_keysA, ev_keysN, ev_keysC, ev_dputTE, ev_dptK, ev_dispE, ev_mpN, ev_mpC, ev_pcK, ev_dsK, ev_dsK2, ev_lc2E, ev_imp, ev_simp, ev_split, ev_splF, ev_splG, ev_fmt, ev_fmtS, ev_fmtI, ev_addK, ev_js0, ev_js1, ev_joined, ev_star, ev_starK, ev_each2, ev_each2K, ev_unl, ev_unlK, ev_intS, ev_strYS, ev_strYI, ev_fldE, ev_getI, ev_gI, ev_fdK, ev_fldS, ev_fpK, ev_mtE, ev_miK, ev_mkE, ev_mkK, ev_callE, ev_tryAs, ev_raise0, ev_raise1, ev_raiseN, ev_revS, ev_revK, ev_zip, ev_enumF, ev_enum, ev_kget, ev_kgK, ev_index, ev_mjoin, ev_joinG, ev_joinK, ev_sbind, ev_miS, ev_siK, ev_truS, List.getElem?_cons_zero, List.getElem?_cons_succ, List.set_cons_zero, List.set_cons_succ, List.length_cons, List.length_nil, List.cons_append, List.nil_append, if_true, if_false, Bool.false_eq_true, Bool.true_eq_false, reduceIte, Bool.not_true, Bool.not_false, Bool.and_true, Bool.true_and, Bool.and_false, Bool.false_and, Bool.or_true, Bool.true_or, Bool.or_false, Bool.false_or, decide_eq_true_eq, Nat.reduceAdd, Nat.reduceLeDiff, Nat.zero_add, Int.reduceLT, Int.reduceLE, Int.reduceEq, Int.reduceNeg, Nat.reduceEqDiff, and_self, and_true, true_and, decide_true, decide_false, eq_self, ite_true, ite_false, Int.reduceSub, Int.reduceAdd, Int.cast_ofNat_Int, Int.natCast_add, Int.cast_ofNat_Int, Nat.reduceSub, Nat.add_assoc, String.reduceBEq, String.reduceEq, Bool.or_not_self, beq_self_eq_true, g5, List.length_map, nm]
  refine okR_use (take_wp h.bag (by omega) (by omega)) fun a t hh => ?_
  obtain ⟨r, rfl, r0, r1, D⟩ := hh
  have h2 := h.dr D
  have g52 := h2.g5
  have oi := ins_is (ms := ms) (x := BLK) (by omega) r0 (by omega)
  simp only [wp_okR, wp_okF, wp_fin, wp_next, wp_then, wp_bind, wp_nox, wp_tK, wp_bK, wp_fr, wp_fn, wp_nn, wp_nr, wp_nb, wp_nc, wp_ln, wp_lc, wp_lb, wp_lr, wp_jn, wp_jc, ev_bok, ev_bno, ev_bex, ev_tok, ev_tno, ev_tex, ev_nnx, ev_nrt, ev_nbk, ev_nct, ev_nex, ev_nno, ev_frt, ev_fnx, ev_fex, ev_xok, ev_lsome, ev_lnone, ev_seq, ev_if, ev_ret, ev_retN, ev_drop, ev_nop, ev_brk, ev_cont, ev_asgN, ev_asgT, ev_asgO, ev_mgTup, ev_mgN, ev_mgC, ev_mg0, ev_putL, ev_putO, ev_var, ev_vr, ev_c, ev_op, ev_un, ev_test, ev_tb, ev_notT, ev_andT, ev_orT, ev_ifE, ev_not, ev_nb, ev_and, ev_andK, ev_or, ev_orK, ev_chain, ev_chK, ev_nil, ev_cons, ev_tup, ev_lst, ev_new, ev_call, ev_cb, ev_size, ev_addI, ev_addS, ev_addT, ev_addL, ev_catO, ev_sub, ev_mul, ev_div, ev_mod, ev_p5, ev_p6, ev_p12, ev_p18, ev_p30, ev_neg, ev_ltI, ev_ltS, ev_leI, ev_leS, ev_gt, ev_ge, ev_eqI, ev_eqS, ev_neI, ev_neS, ev_neB, ev_eqB, ev_is, ev_isnot, ev_ixT, ev_ixS, ev_ixR, ev_ixL, ev_ixK, ev_getL, ev_getM, ev_gL, ev_gM, ev_at0, ev_at1, ev_at2, ev_at3, ev_at4, ev_lenS, ev_lenR, ev_lenT, ev_lenL, ev_lenO, ev_lenD, ev_abs, ev_min2, ev_max2, ev_intI, ev_intB, ev_set, ev_fc, ev_setset, ev_last, ev_appk, ev_app0, ev_setk, ev_set0, ev_assoc, ev_lapp, ev_lappA, ev_sl, ev_nopart, ev_part, ev_ptK, ev_slT, ev_slS, ev_slR, ev_slK, ev_tyN, ev_tyB, ev_tyI, ev_tyS, ev_tyT, ev_tyL, ev_tyR, ev_tyRL, ev_isi, ev_isi1, ev_isi2, ev_isi3, ev_isi4, ev_isi5, ev_isiT, ev_isi2K, ev_isTy, ev_list, ev_listK, ev_tuple, ev_tupK, ev_getST, ev_getSR, ev_getSL, ev_all, ev_allK, ev_eqXI, ev_eqXS, ev_neXI, ev_neXS, ev_neXB, ev_eqXB, ev_eqXR, ev_neXR, ev_nil2, ev_eqK, ev_neK, ev_meth, ev_meth0, ev_mth1, ev_mth2, ev_mth3, ev_append, ev_m0, ev_m0K, ev_str, ev_for, ev_miR1, ev_rg1K, ev_miL, ev_liK, ev_miT, ev_tiK, ev_lc, ev_wipe0, ev_wipeS, ev_yes, ev_lenSet, ev_lenSetK, ev_listR, ev_lrK, ev_put2, ev_p2A, ev_p2K, ev_p2E, ev_put1, ev_pt1, ev_addXI, ev_addXB, ev_addXS, ev_addXT, ev_addXL, ev_subXI, ev_subXB, ev_mulXI, ev_mulXB, ev_mulXL, ev_negXI, ev_negXB, ev_strXI, ev_strXB, ev_mulYI, ev_mulYB, ev_mulYL, ev_mulYT, ev_dnew, ev_dnewT, ev_dgetE, ev_getD, ev_gD, ev_keyI, ev_keyS, ev_dgK, ev_dinE, ev_diK, ev_dputE, ev_dpK, ev_dget2E, ev_isDA, ev_isSome, ev_isNone, ev_dg2K, ev_dpop2E, ev_dp2K, ev_dp3S, ev_dp3N, ev_sortedE, ev_srO1, ev_srO2, ev_gLd, ev_srKS, ev_srKI, ev_gDT, ev_gT, ev_tinE, ev_tiKK, ev_keysA, ev_keysN, ev_keysC, ev_dputTE, ev_dptK, ev_dispE, ev_mpN, ev_mpC, ev_pcK, ev_dsK, ev_dsK2, ev_lc2E, ev_imp, ev_simp, ev_split, ev_splF, ev_splG, ev_fmt, ev_fmtS, ev_fmtI, ev_addK, ev_js0, ev_js1, ev_joined, ev_star, ev_starK, ev_each2, ev_each2K, ev_unl, ev_unlK, ev_intS, ev_strYS, ev_strYI, ev_fldE, ev_getI, ev_gI, ev_fdK, ev_fldS, ev_fpK, ev_mtE, ev_miK, ev_mkE, ev_mkK, ev_callE, ev_tryAs, ev_raise0, ev_raise1, ev_raiseN, ev_revS, ev_revK, ev_zip, ev_enumF, ev_enum, ev_kget, ev_kgK, ev_index, ev_mjoin, ev_joinG, ev_joinK, ev_sbind, ev_miS, ev_siK, ev_truS, List.getElem?_cons_zero, List.getElem?_cons_succ, List.set_cons_zero, List.set_cons_succ, List.length_cons, List.length_nil, List.cons_append, List.nil_append, if_true, if_false, Bool.false_eq_true, Bool.true_eq_false, reduceIte, Bool.not_true, Bool.not_false, Bool.and_true, Bool.true_and, Bool.and_false, Bool.false_and, Bool.or_true, Bool.true_or, Bool.or_false, Bool.false_or, decide_eq_true_eq, Nat.reduceAdd, Nat.reduceLeDiff, Nat.zero_add, Int.reduceLT, Int.reduceLE, Int.reduceEq, Int.reduceNeg, Nat.reduceEqDiff, and_self, and_true, true_and, decide_true, decide_false, eq_self, ite_true, ite_false, Int.reduceSub, Int.reduceAdd, Int.cast_ofNat_Int, Int.natCast_add, Int.cast_ofNat_Int, Nat.reduceSub, Nat.add_assoc, String.reduceBEq, String.reduceEq, Bool.or_not_self, beq_self_eq_true, g52, oi]
  refine ⟨ms.take r.toNat, ms.drop r.toNat, (List.take_append_drop _ _).symm, ?_⟩
  rw [List.append_assoc]
  rfl
theorem idx_is {post : List Str} : ∀ {pre : List Str}, (∀ x ∈ pre, x ≠ BLK) → ((pre ++ BLK :: post).map A.str).findIdx? (eqSA BLK) = some pre.length
  | [], _ => by
    rw [List.nil_append, List.map_cons, List.findIdx?_cons]
    have e : eqSA BLK (.str BLK) = true := beq_self_eq_true BLK
    rw [e]
    rfl
  | x :: pre, h => by
    have ih := idx_is (post := post) (pre := pre) fun y hy => h y (List.mem_cons_of_mem _ hy)
    rw [List.cons_append, List.map_cons, List.findIdx?_cons]
    have e : eqSA BLK (.str x) = false := beq_false_of_ne (h x List.mem_cons_self)
    rw [e, ih]
    rfl
theorem blank_bad : badL BLK = true := by
  unfold badL
  rw [step_blank]
  decide +kernel
theorem rd9_wp {e0 e1 e3 e6 e7 : Option A} {b n4 n5 m : Nat} {ys : List A} {pre post : List Str} {s : Sto} (h : LsP ys m (pre ++ post)) (hm : m ≤ 999) (g : s[n5]? = some (.lst ((pre ++ BLK :: post).map A.str))) :
    okF (rdA9 (envR e0 e1 e3 e6 e7 b n4 n5) s) fun f t => f = .nx (envR e0 e1 e3 e6 e7 b n4 n5) := by
  unfold rdA9 envR
  have nm : Str.ofString "\n" = NL := rfl
  have nm2 : Str.ofString " " = BLK := rfl
  have e2 := strs_str (pre ++ BLK :: post)
  have hb : NL.length = 1 := by decide +kernel
  have hl := h.l
  rw [List.length_append] at hl
  have hx : ∀ x ∈ pre ++ BLK :: post, 10 ∉ x.cps.toList ∧ x.length ≤ 65 := fun x hx => by
    rcases List.mem_append.mp hx with hx | hx
    · have := h.b x (List.mem_append_left _ hx)
      exact ⟨this.2.1, this.2.2.1⟩
    · rcases List.mem_cons.mp hx with rfl | hx
      · exact ⟨by decide +kernel, by decide +kernel⟩
      · have := h.b x (List.mem_append_right _ hx)
        exact ⟨this.2.1, this.2.2.1⟩
  have sm := sum_le2 (f := fun x : Str => x.length) (m := 65) (r := pre ++ BLK :: post) fun x hh => (hx x hh).2
  have ln : (pre ++ BLK :: post).length ≤ 1000 := by
    rw [List.length_append, List.length_cons]
    omega
  have u : ((pre ++ BLK :: post).map (·.length)).sum + (pre ++ BLK :: post).length * 1 ≤ 16777216 := by omega
  have jl : (Txt.join NL (pre ++ BLK :: post)).length ≤ 1200000 := by
    rw [nl_is]
    exact Nat.le_trans (join_len _ _) (by omega)
  have hs : Txt.split (Txt.join NL (pre ++ BLK :: post)) NL = pre ++ BLK :: post := by
    rw [nl_is]
    exact split_join (fun z => by simp at z) fun x hh => (hx x hh).1
  obtain ⟨ms, hms⟩ : ∃ ms, ms = pre ++ BLK :: post := ⟨_, rfl⟩
  have hi := idx_is (post := post) (pre := pre) fun x hh => (h.b x (List.mem_append_left _ hh)).2.2.2
  rw [← hms] at g e2 u jl hs ln hi
  simp only [wp_okR, wp_okF, wp_fin, wp_next, wp_then, wp_bind, wp_nox, wp_tK, wp_bK, wp_fr, wp_fn, wp_nn, wp_nr, wp_nb, wp_nc, wp_ln, wp_lc, wp_lb, wp_lr, wp_jn, wp_jc, ev_bok, ev_bno, ev_bex, ev_tok, ev_tno, ev_tex, ev_nnx, ev_nrt, ev_nbk, ev_nct, ev_nex, ev_nno, ev_frt, ev_fnx, ev_fex, ev_xok, ev_lsome, ev_lnone, ev_seq, ev_if, ev_ret, ev_retN, ev_drop, ev_nop, ev_brk, ev_cont, ev_asgN, ev_asgT, ev_asgO, ev_mgTup, ev_mgN, ev_mgC, ev_mg0, ev_putL, ev_putO, ev_var, ev_vr, ev_c, ev_op, ev_un, ev_test, ev_tb, ev_notT, ev_andT, ev_orT, ev_ifE, ev_not, ev_nb, ev_and, ev_andK, ev_or, ev_orK, ev_chain, ev_chK, ev_nil, ev_cons, ev_tup, ev_lst, ev_new, ev_call, ev_cb, ev_size, ev_addI, ev_addS, ev_addT, ev_addL, ev_catO, ev_sub, ev_mul, ev_div, ev_mod, ev_p5, ev_p6, ev_p12, ev_p18, ev_p30, ev_neg, ev_ltI, ev_ltS, ev_leI, ev_leS, ev_gt, ev_ge, ev_eqI, ev_eqS, ev_neI, ev_neS, ev_neB, ev_eqB, ev_is, ev_isnot, ev_ixT, ev_ixS, ev_ixR, ev_ixL, ev_ixK, ev_getL, ev_getM, ev_gL, ev_gM, ev_at0, ev_at1, ev_at2, ev_at3, ev_at4, ev_lenS, ev_lenR, ev_lenT, ev_lenL, ev_lenO, ev_lenD, ev_abs, ev_min2, ev_max2, ev_intI, ev_intB, ev_set, ev_fc, ev_setset, ev_last, ev_appk, ev_app0, ev_setk, ev_set0, ev_assoc, ev_lapp, ev_lappA, ev_sl, ev_nopart, ev_part, ev_ptK, ev_slT, ev_slS, ev_slR, ev_slK, ev_tyN, ev_tyB, ev_tyI, ev_tyS, ev_tyT, ev_tyL, ev_tyR, ev_tyRL, ev_isi, ev_isi1, ev_isi2, ev_isi3, ev_isi4, ev_isi5, ev_isiT, ev_isi2K, ev_isTy, ev_list, ev_listK, ev_tuple, ev_tupK, ev_getST, ev_getSR, ev_getSL, ev_all, ev_allK, ev_eqXI, ev_eqXS, ev_neXI, ev_neXS, ev_neXB, ev_eqXB, ev_eqXR, ev_neXR, ev_nil2, ev_eqK, ev_neK, ev_meth, ev_meth0, ev_mth1, ev_mth2, ev_mth3, ev_append, ev_m0, ev_m0K, ev_str, ev_for, ev_miR1, ev_rg1K, ev_miL, ev_liK, ev_miT, ev_tiK, ev_lc, ev_wipe0, ev_wipeS, ev_yes, ev_lenSet, ev_lenSetK, ev_listR, ev_lrK, ev_put2, ev_p2A, ev_p2K, ev_p2E, ev_put1, ev_pt1, ev_addXI, ev_addXB, ev_addXS, ev_addXT, ev_addXL, ev_subXI, ev_subXB, ev_mulXI, ev_mulXB, ev_mulXL, ev_negXI, ev_negXB, ev_strXI, ev_strXB, ev_mulYI, ev_mulYB, ev_mulYL, ev_mulYT, ev_dnew, ev_dnewT, ev_dgetE, ev_getD, ev_gD, ev_keyI, ev_keyS, ev_dgK, ev_dinE, ev_diK, ev_dputE, ev_dpK, ev_dget2E, ev_isDA, ev_isSome, ev_isNone, ev_dg2K, ev_dpop2E, ev_dp2K, ev_dp3S, ev_dp3N, ev_sortedE, ev_srO1, ev_srO2, ev_gLd, ev_srKS, ev_srKI, ev_gDT, ev_gT, ev_tinE, ev_tiKK, ev_keysA, ev_keysN, ev_keysC, ev_dputTE, ev_dptK, ev_dispE, ev_mpN, ev_mpC, ev_pcK, ev_dsK, ev_dsK2, ev_lc2E, ev_imp, ev_simp, ev_split, ev_splF, ev_splG, ev_fmt, ev_fmtS, ev_fmtI, ev_addK, ev_js0, ev_js1, ev_joined, ev_star, ev_starK, ev_each2, ev_each2K, ev_unl, ev_unlK, ev_intS, ev_strYS, ev_strYI, ev_fldE, ev_getI, ev_gI, ev_fdK, ev_fldS, ev_fpK, ev_mtE, ev_miK, ev_mkE, ev_mkK, ev_callE, ev_tryAs, ev_raise0, ev_raise1, ev_raiseN, ev_revS, ev_revK, ev_zip, ev_enumF, ev_enum, ev_kget, ev_kgK, ev_index, ev_mjoin, ev_joinG, ev_joinK, ev_sbind, ev_miS, ev_siK, ev_truS, List.getElem?_cons_zero, List.getElem?_cons_succ, List.set_cons_zero, List.set_cons_succ, List.length_cons, List.length_nil, List.cons_append, List.nil_append, if_true, if_false, Bool.false_eq_true, Bool.true_eq_false, reduceIte, Bool.not_true, Bool.not_false, Bool.and_true, Bool.true_and, Bool.and_false, Bool.false_and, Bool.or_true, Bool.true_or, Bool.or_false, Bool.false_or, decide_eq_true_eq, Nat.reduceAdd, Nat.reduceLeDiff, Nat.zero_add, Int.reduceLT, Int.reduceLE, Int.reduceEq, Int.reduceNeg, Nat.reduceEqDiff, and_self, and_true, true_and, decide_true, decide_false, eq_self, ite_true, ite_false, Int.reduceSub, Int.reduceAdd, Int.cast_ofNat_Int, Int.natCast_add, Int.cast_ofNat_Int, Nat.reduceSub, Nat.add_assoc, String.reduceBEq, String.reduceEq, Bool.or_not_self, beq_self_eq_true, nm, g, e2, hb, u]
  have nt := noText2 (S := s) jl
  rw [hs] at nt
  refine okR_use nt fun y t hh => ?_
  rcases hh with ⟨h1, _⟩ | ⟨i, x, h1, h2, h3, rfl, l, rfl⟩
  · have := h1 BLK (by rw [hms]; exact List.mem_append_right _ List.mem_cons_self)
    rw [blank_bad] at this
    cases this
  · have ip : i = pre.length := by
      rcases Nat.lt_trichotomy i pre.length with hlt | heq | hgt
      · rw [hms, List.getElem?_append_left hlt] at h1
        rw [(h.b x (List.mem_append_left _ (List.mem_of_getElem? h1))).1] at h2
        cases h2
      · exact heq
      · have := h3 BLK (by
          rw [hms, List.take_append, List.take_of_length_le (by omega)]
          refine List.mem_append_right _ ?_
          rw [show i - pre.length = (i - pre.length - 1) + 1 by omega]
          exact List.mem_cons_self)
        rw [blank_bad] at this
        cases this
    subst ip
    have al : (ms.map A.str).all isSA = true := by
      rw [List.all_map]
      exact List.all_eq_true.mpr fun _ _ => rfl
    have g2 := app_get (l := l) g
    have ec : cutA [A.non, A.str (Str.ofString "told NoText+"), A.int ((pre.length : Int) + 1)] (some 1) none = [A.str (Str.ofString "told NoText+"), A.int ((pre.length : Int) + 1)] := cut_one _ _
    have ix : idK (ms.map A.str) [.str BLK] (s ++ l) = .ok (.int (pre.length : Nat)) (s ++ l) := by
      unfold idK
      simp only [al, hi, if_true]
    have ne : oNeX (.tup [A.str (Str.ofString "told NoText+"), A.int ((pre.length : Int) + 1)]) (.tup [A.str (Str.ofString "told NoText+"), A.int ((pre.length : Int) + 1)]) (s ++ l) = .ok (.bl false) (s ++ l) := ne_same (k := 1) (by decide) (.inr ⟨_, rfl, fun x hx => by
      simp only [List.mem_cons, List.not_mem_nil, or_false] at hx
      rcases hx with rfl | rfl
      · exact .inr (.inr ⟨_, rfl, by decide +kernel⟩)
      · exact .inr (.inl ⟨_, rfl⟩)⟩)
    simp only [wp_okR, wp_okF, wp_fin, wp_next, wp_then, wp_bind, wp_nox, wp_tK, wp_bK, wp_fr, wp_fn, wp_nn, wp_nr, wp_nb, wp_nc, wp_ln, wp_lc, wp_lb, wp_lr, wp_jn, wp_jc, ev_bok, ev_bno, ev_bex, ev_tok, ev_tno, ev_tex, ev_nnx, ev_nrt, ev_nbk, ev_nct, ev_nex, ev_nno, ev_frt, ev_fnx, ev_fex, ev_xok, ev_lsome, ev_lnone, ev_seq, ev_if, ev_ret, ev_retN, ev_drop, ev_nop, ev_brk, ev_cont, ev_asgN, ev_asgT, ev_asgO, ev_mgTup, ev_mgN, ev_mgC, ev_mg0, ev_putL, ev_putO, ev_var, ev_vr, ev_c, ev_op, ev_un, ev_test, ev_tb, ev_notT, ev_andT, ev_orT, ev_ifE, ev_not, ev_nb, ev_and, ev_andK, ev_or, ev_orK, ev_chain, ev_chK, ev_nil, ev_cons, ev_tup, ev_lst, ev_new, ev_call, ev_cb, ev_size, ev_addI, ev_addS, ev_addT, ev_addL, ev_catO, ev_sub, ev_mul, ev_div, ev_mod, ev_p5, ev_p6, ev_p12, ev_p18, ev_p30, ev_neg, ev_ltI, ev_ltS, ev_leI, ev_leS, ev_gt, ev_ge, ev_eqI, ev_eqS, ev_neI, ev_neS, ev_neB, ev_eqB, ev_is, ev_isnot, ev_ixT, ev_ixS, ev_ixR, ev_ixL, ev_ixK, ev_getL, ev_getM, ev_gL, ev_gM, ev_at0, ev_at1, ev_at2, ev_at3, ev_at4, ev_lenS, ev_lenR, ev_lenT, ev_lenL, ev_lenO, ev_lenD, ev_abs, ev_min2, ev_max2, ev_intI, ev_intB, ev_set, ev_fc, ev_setset, ev_last, ev_appk, ev_app0, ev_setk, ev_set0, ev_assoc, ev_lapp, ev_lappA, ev_sl, ev_nopart, ev_part, ev_ptK, ev_slT, ev_slS, ev_slR, ev_slK, ev_tyN, ev_tyB, ev_tyI, ev_tyS, ev_tyT, ev_tyL, ev_tyR, ev_tyRL, ev_isi, ev_isi1, ev_isi2, ev_isi3, ev_isi4, ev_isi5, ev_isiT, ev_isi2K, ev_isTy, ev_list, ev_listK, ev_tuple, ev_tupK, ev_getST, ev_getSR, ev_getSL, ev_all, ev_allK, ev_eqXI, ev_eqXS, ev_neXI, ev_neXS, ev_neXB, ev_eqXB, ev_eqXR, ev_neXR, ev_nil2, ev_eqK, ev_neK, ev_meth, ev_meth0, ev_mth1, ev_mth2, ev_mth3, ev_append, ev_m0, ev_m0K, ev_str, ev_for, ev_miR1, ev_rg1K, ev_miL, ev_liK, ev_miT, ev_tiK, ev_lc, ev_wipe0, ev_wipeS, ev_yes, ev_lenSet, ev_lenSetK, ev_listR, ev_lrK, ev_put2, ev_p2A, ev_p2K, ev_p2E, ev_put1, ev_pt1, ev_addXI, ev_addXB, ev_addXS, ev_addXT, ev_addXL, ev_subXI, ev_subXB, ev_mulXI, ev_mulXB, ev_mulXL, ev_negXI, ev_negXB, ev_strXI, ev_strXB, ev_mulYI, ev_mulYB, ev_mulYL, ev_mulYT, ev_dnew, ev_dnewT, ev_dgetE, ev_getD, ev_gD, ev_keyI, ev_keyS, ev_dgK, ev_dinE, ev_diK, ev_dputE, ev_dpK, ev_dget2E, ev_isDA, ev_isSome, ev_isNone, ev_dg2K, ev_dpop2E, ev_dp2K, ev_dp3S, ev_dp3N, ev_sortedE, ev_srO1, ev_srO2, ev_gLd, ev_srKS, ev_srKI, ev_gDT, ev_gT, ev_tinE, ev_tiKK, ev_keysA, ev_keysN, ev_keysC, ev_dputTE, ev_dptK, ev_dispE, ev_mpN, ev_mpC, ev_pcK, ev_dsK, ev_dsK2, ev_lc2E, ev_imp, ev_simp, ev_split, ev_splF, ev_splG, ev_fmt, ev_fmtS, ev_fmtI, ev_addK, ev_js0, ev_js1, ev_joined, ev_star, ev_starK, ev_each2, ev_each2K, ev_unl, ev_unlK, ev_intS, ev_strYS, ev_strYI, ev_fldE, ev_getI, ev_gI, ev_fdK, ev_fldS, ev_fpK, ev_mtE, ev_miK, ev_mkE, ev_mkK, ev_callE, ev_tryAs, ev_raise0, ev_raise1, ev_raiseN, ev_revS, ev_revK, ev_zip, ev_enumF, ev_enum, ev_kget, ev_kgK, ev_index, ev_mjoin, ev_joinG, ev_joinK, ev_sbind, ev_miS, ev_siK, ev_truS, List.getElem?_cons_zero, List.getElem?_cons_succ, List.set_cons_zero, List.set_cons_succ, List.length_cons, List.length_nil, List.cons_append, List.nil_append, if_true, if_false, Bool.false_eq_true, Bool.true_eq_false, reduceIte, Bool.not_true, Bool.not_false, Bool.and_true, Bool.true_and, Bool.and_false, Bool.false_and, Bool.or_true, Bool.true_or, Bool.or_false, Bool.false_or, decide_eq_true_eq, Nat.reduceAdd, Nat.reduceLeDiff, Nat.zero_add, Int.reduceLT, Int.reduceLE, Int.reduceEq, Int.reduceNeg, Nat.reduceEqDiff, and_self, and_true, true_and, decide_true, decide_false, eq_self, ite_true, ite_false, Int.reduceSub, Int.reduceAdd, Int.cast_ofNat_Int, Int.natCast_add, Int.cast_ofNat_Int, Nat.reduceSub, Nat.add_assoc, String.reduceBEq, String.reduceEq, Bool.or_not_self, beq_self_eq_true, nm2, g2, ec, ix, ne]

/-! ### the law -/
theorem rest_wp {e0 e1 e3 e6 e7 : Option A} {b n4 n5 : Nat} {sts : List (Str × List A)} {s : Sto} (h : Rnd b n4 n5 sts 30 (sts.map lnT) s) :
    okF (sSeq rdA4 (sSeq rdA5 (sSeq rdA6 (sSeq rdA7 (sSeq rdA8 rdA9)))) (envR e0 e1 e3 e6 e7 b n4 n5) s) fun f t => ∃ e3', f = .nx (envR e0 e1 e3' e6 e7 b n4 n5) := by
  simp only [ev_seq, wp_next]
  refine okF_use (rd4_wp h (by decide)) fun f t1 hh => ?_
  obtain ⟨rfl, h1⟩ := hh
  simp only [wp_nn, ev_seq, wp_next]
  refine okF_use (rd5_wp h1 (by decide)) fun f t2 hh => ?_
  obtain ⟨rfl, h2⟩ := hh
  simp only [wp_nn, ev_seq, wp_next]
  refine okF_use (rd6_wp h2 (by decide)) fun f t3 hh => ?_
  obtain ⟨e3', ms, rfl, h3⟩ := hh
  simp only [wp_nn, ev_seq, wp_next]
  refine okF_use (rd7_wp h3 (by decide)) fun f t4 hh => ?_
  obtain ⟨rfl, h4⟩ := hh
  simp only [wp_nn, ev_seq, wp_next]
  refine okF_use (rd8_wp h4 (by decide)) fun f t5 hh => ?_
  obtain ⟨rfl, pre, post, rfl, g⟩ := hh
  simp only [wp_nn]
  refine okF_use (rd9_wp h4.ls (by decide) g) fun f t6 hh => ?_
  exact ⟨e3', hh⟩
theorem round_wp {e2 e3 e4 e5 e6 e7 : Option A} {ns : List Int} {k : Int} {st : Sto} (hk : 0 ≤ k) (hk2 : k < 100) :
    okF (lb_law_2 [some (.lit (ns.map A.int)), some (.int k), e2, e3, e4, e5, e6, e7] st) fun f t => ∃ e1 e2 e3 e4 e5 e6 e7, f = .nx [some (.lit (ns.map A.int)), e1, e2, e3, e4, e5, e6, e7] := by
  rw [round_is]
  obtain ⟨R, hR⟩ : ∃ R, R = sSeq rdA4 (sSeq rdA5 (sSeq rdA6 (sSeq rdA7 (sSeq rdA8 rdA9)))) := ⟨_, rfl⟩
  rw [← hR]
  simp only [wp_okR, wp_okF, wp_fin, wp_next, wp_then, wp_bind, wp_nox, wp_tK, wp_bK, wp_fr, wp_fn, wp_nn, wp_nr, wp_nb, wp_nc, wp_ln, wp_lc, wp_lb, wp_lr, wp_jn, wp_jc, ev_bok, ev_bno, ev_bex, ev_tok, ev_tno, ev_tex, ev_nnx, ev_nrt, ev_nbk, ev_nct, ev_nex, ev_nno, ev_frt, ev_fnx, ev_fex, ev_xok, ev_lsome, ev_lnone, ev_seq, ev_if, ev_ret, ev_retN, ev_drop, ev_nop, ev_brk, ev_cont, ev_asgN, ev_asgT, ev_asgO, ev_mgTup, ev_mgN, ev_mgC, ev_mg0, ev_putL, ev_putO, ev_var, ev_vr, ev_c, ev_op, ev_un, ev_test, ev_tb, ev_notT, ev_andT, ev_orT, ev_ifE, ev_not, ev_nb, ev_and, ev_andK, ev_or, ev_orK, ev_chain, ev_chK, ev_nil, ev_cons, ev_tup, ev_lst, ev_new, ev_call, ev_cb, ev_size, ev_addI, ev_addS, ev_addT, ev_addL, ev_catO, ev_sub, ev_mul, ev_div, ev_mod, ev_p5, ev_p6, ev_p12, ev_p18, ev_p30, ev_neg, ev_ltI, ev_ltS, ev_leI, ev_leS, ev_gt, ev_ge, ev_eqI, ev_eqS, ev_neI, ev_neS, ev_neB, ev_eqB, ev_is, ev_isnot, ev_ixT, ev_ixS, ev_ixR, ev_ixL, ev_ixK, ev_getL, ev_getM, ev_gL, ev_gM, ev_at0, ev_at1, ev_at2, ev_at3, ev_at4, ev_lenS, ev_lenR, ev_lenT, ev_lenL, ev_lenO, ev_lenD, ev_abs, ev_min2, ev_max2, ev_intI, ev_intB, ev_set, ev_fc, ev_setset, ev_last, ev_appk, ev_app0, ev_setk, ev_set0, ev_assoc, ev_lapp, ev_lappA, ev_sl, ev_nopart, ev_part, ev_ptK, ev_slT, ev_slS, ev_slR, ev_slK, ev_tyN, ev_tyB, ev_tyI, ev_tyS, ev_tyT, ev_tyL, ev_tyR, ev_tyRL, ev_isi, ev_isi1, ev_isi2, ev_isi3, ev_isi4, ev_isi5, ev_isiT, ev_isi2K, ev_isTy, ev_list, ev_listK, ev_tuple, ev_tupK, ev_getST, ev_getSR, ev_getSL, ev_all, ev_allK, ev_eqXI, ev_eqXS, ev_neXI, ev_neXS, ev_neXB, ev_eqXB, ev_eqXR, ev_neXR, ev_nil2, ev_eqK, ev_neK, ev_meth, ev_meth0, ev_mth1, ev_mth2, ev_mth3, ev_append, ev_m0, ev_m0K, ev_str, ev_for, ev_miR1, ev_rg1K, ev_miL, ev_liK, ev_miT, ev_tiK, ev_lc, ev_wipe0, ev_wipeS, ev_yes, ev_lenSet, ev_lenSetK, ev_listR, ev_lrK, ev_put2, ev_p2A, ev_p2K, ev_p2E, ev_put1, ev_pt1, ev_addXI, ev_addXB, ev_addXS, ev_addXT, ev_addXL, ev_subXI, ev_subXB, ev_mulXI, ev_mulXB, ev_mulXL, ev_negXI, ev_negXB, ev_strXI, ev_strXB, ev_mulYI, ev_mulYB, ev_mulYL, ev_mulYT, ev_dnew, ev_dnewT, ev_dgetE, ev_getD, ev_gD, ev_keyI, ev_keyS, ev_dgK, ev_dinE, ev_diK, ev_dputE, ev_dpK, ev_dget2E, ev_isDA, ev_isSome, ev_isNone, ev_dg2K, ev_dpop2E, ev_dp2K, ev_dp3S, ev_dp3N, ev_sortedE, ev_srO1, ev_srO2, ev_gLd, ev_srKS, ev_srKI, ev_gDT, ev_gT, ev_tinE, ev_tiKK, ev_keysA, ev_keysN, ev_keysC, ev_dputTE, ev_dptK, ev_dispE, ev_mpN, ev_mpC, ev_pcK, ev_dsK, ev_dsK2, ev_lc2E, ev_imp, ev_simp, ev_split, ev_splF, ev_splG, ev_fmt, ev_fmtS, ev_fmtI, ev_addK, ev_js0, ev_js1, ev_joined, ev_star, ev_starK, ev_each2, ev_each2K, ev_unl, ev_unlK, ev_intS, ev_strYS, ev_strYI, ev_fldE, ev_getI, ev_gI, ev_fdK, ev_fldS, ev_fpK, ev_mtE, ev_miK, ev_mkE, ev_mkK, ev_callE, ev_tryAs, ev_raise0, ev_raise1, ev_raiseN, ev_revS, ev_revK, ev_zip, ev_enumF, ev_enum, ev_kget, ev_kgK, ev_index, ev_mjoin, ev_joinG, ev_joinK, ev_sbind, ev_miS, ev_siK, ev_truS, List.getElem?_cons_zero, List.getElem?_cons_succ, List.set_cons_zero, List.set_cons_succ, List.length_cons, List.length_nil, List.cons_append, List.nil_append, if_true, if_false, Bool.false_eq_true, Bool.true_eq_false, reduceIte, Bool.not_true, Bool.not_false, Bool.and_true, Bool.true_and, Bool.and_false, Bool.false_and, Bool.or_true, Bool.true_or, Bool.or_false, Bool.false_or, decide_eq_true_eq, Nat.reduceAdd, Nat.reduceLeDiff, Nat.zero_add, Int.reduceLT, Int.reduceLE, Int.reduceEq, Int.reduceNeg, Nat.reduceEqDiff, and_self, and_true, true_and, decide_true, decide_false, eq_self, ite_true, ite_false, Int.reduceSub, Int.reduceAdd, Int.cast_ofNat_Int, Int.natCast_add, Int.cast_ofNat_Int, Nat.reduceSub, Nat.add_assoc, String.reduceBEq, String.reduceEq, Bool.or_not_self, beq_self_eq_true]
  refine okR_use (bag_wp hk hk2) fun a t hh => ?_
  obtain ⟨rfl, o, rfl, B⟩ := hh
  obtain ⟨b, hb⟩ : ∃ b, b = st.length := ⟨_, rfl⟩
  rw [← hb] at B ⊢
  simp only [wp_okR, wp_okF, wp_fin, wp_next, wp_then, wp_bind, wp_nox, wp_tK, wp_bK, wp_fr, wp_fn, wp_nn, wp_nr, wp_nb, wp_nc, wp_ln, wp_lc, wp_lb, wp_lr, wp_jn, wp_jc, ev_bok, ev_bno, ev_bex, ev_tok, ev_tno, ev_tex, ev_nnx, ev_nrt, ev_nbk, ev_nct, ev_nex, ev_nno, ev_frt, ev_fnx, ev_fex, ev_xok, ev_lsome, ev_lnone, ev_seq, ev_if, ev_ret, ev_retN, ev_drop, ev_nop, ev_brk, ev_cont, ev_asgN, ev_asgT, ev_asgO, ev_mgTup, ev_mgN, ev_mgC, ev_mg0, ev_putL, ev_putO, ev_var, ev_vr, ev_c, ev_op, ev_un, ev_test, ev_tb, ev_notT, ev_andT, ev_orT, ev_ifE, ev_not, ev_nb, ev_and, ev_andK, ev_or, ev_orK, ev_chain, ev_chK, ev_nil, ev_cons, ev_tup, ev_lst, ev_new, ev_call, ev_cb, ev_size, ev_addI, ev_addS, ev_addT, ev_addL, ev_catO, ev_sub, ev_mul, ev_div, ev_mod, ev_p5, ev_p6, ev_p12, ev_p18, ev_p30, ev_neg, ev_ltI, ev_ltS, ev_leI, ev_leS, ev_gt, ev_ge, ev_eqI, ev_eqS, ev_neI, ev_neS, ev_neB, ev_eqB, ev_is, ev_isnot, ev_ixT, ev_ixS, ev_ixR, ev_ixL, ev_ixK, ev_getL, ev_getM, ev_gL, ev_gM, ev_at0, ev_at1, ev_at2, ev_at3, ev_at4, ev_lenS, ev_lenR, ev_lenT, ev_lenL, ev_lenO, ev_lenD, ev_abs, ev_min2, ev_max2, ev_intI, ev_intB, ev_set, ev_fc, ev_setset, ev_last, ev_appk, ev_app0, ev_setk, ev_set0, ev_assoc, ev_lapp, ev_lappA, ev_sl, ev_nopart, ev_part, ev_ptK, ev_slT, ev_slS, ev_slR, ev_slK, ev_tyN, ev_tyB, ev_tyI, ev_tyS, ev_tyT, ev_tyL, ev_tyR, ev_tyRL, ev_isi, ev_isi1, ev_isi2, ev_isi3, ev_isi4, ev_isi5, ev_isiT, ev_isi2K, ev_isTy, ev_list, ev_listK, ev_tuple, ev_tupK, ev_getST, ev_getSR, ev_getSL, ev_all, ev_allK, ev_eqXI, ev_eqXS, ev_neXI, ev_neXS, ev_neXB, ev_eqXB, ev_eqXR, ev_neXR, ev_nil2, ev_eqK, ev_neK, ev_meth, ev_meth0, ev_mth1, ev_mth2, ev_mth3, ev_append, ev_m0, ev_m0K, ev_str, ev_for, ev_miR1, ev_rg1K, ev_miL, ev_liK, ev_miT, ev_tiK, ev_lc, ev_wipe0, ev_wipeS, ev_yes, ev_lenSet, ev_lenSetK, ev_listR, ev_lrK, ev_put2, ev_p2A, ev_p2K, ev_p2E, ev_put1, ev_pt1, ev_addXI, ev_addXB, ev_addXS, ev_addXT, ev_addXL, ev_subXI, ev_subXB, ev_mulXI, ev_mulXB, ev_mulXL, ev_negXI, ev_negXB, ev_strXI, ev_strXB, ev_mulYI, ev_mulYB, ev_mulYL, ev_mulYT, ev_dnew, ev_dnewT, ev_dgetE, ev_getD, ev_gD, ev_keyI, ev_keyS, ev_dgK, ev_dinE, ev_diK, ev_dputE, ev_dpK, ev_dget2E, ev_isDA, ev_isSome, ev_isNone, ev_dg2K, ev_dpop2E, ev_dp2K, ev_dp3S, ev_dp3N, ev_sortedE, ev_srO1, ev_srO2, ev_gLd, ev_srKS, ev_srKI, ev_gDT, ev_gT, ev_tinE, ev_tiKK, ev_keysA, ev_keysN, ev_keysC, ev_dputTE, ev_dptK, ev_dispE, ev_mpN, ev_mpC, ev_pcK, ev_dsK, ev_dsK2, ev_lc2E, ev_imp, ev_simp, ev_split, ev_splF, ev_splG, ev_fmt, ev_fmtS, ev_fmtI, ev_addK, ev_js0, ev_js1, ev_joined, ev_star, ev_starK, ev_each2, ev_each2K, ev_unl, ev_unlK, ev_intS, ev_strYS, ev_strYI, ev_fldE, ev_getI, ev_gI, ev_fdK, ev_fldS, ev_fpK, ev_mtE, ev_miK, ev_mkE, ev_mkK, ev_callE, ev_tryAs, ev_raise0, ev_raise1, ev_raiseN, ev_revS, ev_revK, ev_zip, ev_enumF, ev_enum, ev_kget, ev_kgK, ev_index, ev_mjoin, ev_joinG, ev_joinK, ev_sbind, ev_miS, ev_siK, ev_truS, List.getElem?_cons_zero, List.getElem?_cons_succ, List.set_cons_zero, List.set_cons_succ, List.length_cons, List.length_nil, List.cons_append, List.nil_append, if_true, if_false, Bool.false_eq_true, Bool.true_eq_false, reduceIte, Bool.not_true, Bool.not_false, Bool.and_true, Bool.true_and, Bool.and_false, Bool.false_and, Bool.or_true, Bool.true_or, Bool.or_false, Bool.false_or, decide_eq_true_eq, Nat.reduceAdd, Nat.reduceLeDiff, Nat.zero_add, Int.reduceLT, Int.reduceLE, Int.reduceEq, Int.reduceNeg, Nat.reduceEqDiff, and_self, and_true, true_and, decide_true, decide_false, eq_self, ite_true, ite_false, Int.reduceSub, Int.reduceAdd, Int.cast_ofNat_Int, Int.natCast_add, Int.cast_ofNat_Int, Nat.reduceSub, Nat.add_assoc, String.reduceBEq, String.reduceEq, Bool.or_not_self, beq_self_eq_true]
  refine okR_use (take_wp B (by decide) (by decide)) fun a s1 hh => ?_
  obtain ⟨r, rfl, r0, r1, D1⟩ := hh
  have u1 : -(2 ^ 62) ≤ r ∧ r < 2 ^ 62 := by omega
  have rl : (rngA 0 r.toNat).length = r.toNat := by
    unfold rngA
    rw [List.length_map, List.length_range]
  simp only [wp_okR, wp_okF, wp_fin, wp_next, wp_then, wp_bind, wp_nox, wp_tK, wp_bK, wp_fr, wp_fn, wp_nn, wp_nr, wp_nb, wp_nc, wp_ln, wp_lc, wp_lb, wp_lr, wp_jn, wp_jc, ev_bok, ev_bno, ev_bex, ev_tok, ev_tno, ev_tex, ev_nnx, ev_nrt, ev_nbk, ev_nct, ev_nex, ev_nno, ev_frt, ev_fnx, ev_fex, ev_xok, ev_lsome, ev_lnone, ev_seq, ev_if, ev_ret, ev_retN, ev_drop, ev_nop, ev_brk, ev_cont, ev_asgN, ev_asgT, ev_asgO, ev_mgTup, ev_mgN, ev_mgC, ev_mg0, ev_putL, ev_putO, ev_var, ev_vr, ev_c, ev_op, ev_un, ev_test, ev_tb, ev_notT, ev_andT, ev_orT, ev_ifE, ev_not, ev_nb, ev_and, ev_andK, ev_or, ev_orK, ev_chain, ev_chK, ev_nil, ev_cons, ev_tup, ev_lst, ev_new, ev_call, ev_cb, ev_size, ev_addI, ev_addS, ev_addT, ev_addL, ev_catO, ev_sub, ev_mul, ev_div, ev_mod, ev_p5, ev_p6, ev_p12, ev_p18, ev_p30, ev_neg, ev_ltI, ev_ltS, ev_leI, ev_leS, ev_gt, ev_ge, ev_eqI, ev_eqS, ev_neI, ev_neS, ev_neB, ev_eqB, ev_is, ev_isnot, ev_ixT, ev_ixS, ev_ixR, ev_ixL, ev_ixK, ev_getL, ev_getM, ev_gL, ev_gM, ev_at0, ev_at1, ev_at2, ev_at3, ev_at4, ev_lenS, ev_lenR, ev_lenT, ev_lenL, ev_lenO, ev_lenD, ev_abs, ev_min2, ev_max2, ev_intI, ev_intB, ev_set, ev_fc, ev_setset, ev_last, ev_appk, ev_app0, ev_setk, ev_set0, ev_assoc, ev_lapp, ev_lappA, ev_sl, ev_nopart, ev_part, ev_ptK, ev_slT, ev_slS, ev_slR, ev_slK, ev_tyN, ev_tyB, ev_tyI, ev_tyS, ev_tyT, ev_tyL, ev_tyR, ev_tyRL, ev_isi, ev_isi1, ev_isi2, ev_isi3, ev_isi4, ev_isi5, ev_isiT, ev_isi2K, ev_isTy, ev_list, ev_listK, ev_tuple, ev_tupK, ev_getST, ev_getSR, ev_getSL, ev_all, ev_allK, ev_eqXI, ev_eqXS, ev_neXI, ev_neXS, ev_neXB, ev_eqXB, ev_eqXR, ev_neXR, ev_nil2, ev_eqK, ev_neK, ev_meth, ev_meth0, ev_mth1, ev_mth2, ev_mth3, ev_append, ev_m0, ev_m0K, ev_str, ev_for, ev_miR1, ev_rg1K, ev_miL, ev_liK, ev_miT, ev_tiK, ev_lc, ev_wipe0, ev_wipeS, ev_yes, ev_lenSet, ev_lenSetK, ev_listR, ev_lrK, ev_put2, ev_p2A, ev_p2K, ev_p2E, ev_put1, ev_pt1, ev_addXI, ev_addXB, ev_addXS, ev_addXT, ev_addXL, ev_subXI, ev_subXB, ev_mulXI, ev_mulXB, ev_mulXL, ev_negXI, ev_negXB, ev_strXI, ev_strXB, ev_mulYI, ev_mulYB, ev_mulYL, ev_mulYT, ev_dnew, ev_dnewT, ev_dgetE, ev_getD, ev_gD, ev_keyI, ev_keyS, ev_dgK, ev_dinE, ev_diK, ev_dputE, ev_dpK, ev_dget2E, ev_isDA, ev_isSome, ev_isNone, ev_dg2K, ev_dpop2E, ev_dp2K, ev_dp3S, ev_dp3N, ev_sortedE, ev_srO1, ev_srO2, ev_gLd, ev_srKS, ev_srKI, ev_gDT, ev_gT, ev_tinE, ev_tiKK, ev_keysA, ev_keysN, ev_keysC, ev_dputTE, ev_dptK, ev_dispE, ev_mpN, ev_mpC, ev_pcK, ev_dsK, ev_dsK2, ev_lc2E, ev_imp, ev_simp, ev_split, ev_splF, ev_splG, ev_fmt, ev_fmtS, ev_fmtI, ev_addK, ev_js0, ev_js1, ev_joined, ev_star, ev_starK, ev_each2, ev_each2K, ev_unl, ev_unlK, ev_intS, ev_strYS, ev_strYI, ev_fldE, ev_getI, ev_gI, ev_fdK, ev_fldS, ev_fpK, ev_mtE, ev_miK, ev_mkE, ev_mkK, ev_callE, ev_tryAs, ev_raise0, ev_raise1, ev_raiseN, ev_revS, ev_revK, ev_zip, ev_enumF, ev_enum, ev_kget, ev_kgK, ev_index, ev_mjoin, ev_joinG, ev_joinK, ev_sbind, ev_miS, ev_siK, ev_truS, List.getElem?_cons_zero, List.getElem?_cons_succ, List.set_cons_zero, List.set_cons_succ, List.length_cons, List.length_nil, List.cons_append, List.nil_append, if_true, if_false, Bool.false_eq_true, Bool.true_eq_false, reduceIte, Bool.not_true, Bool.not_false, Bool.and_true, Bool.true_and, Bool.and_false, Bool.false_and, Bool.or_true, Bool.true_or, Bool.or_false, Bool.false_or, decide_eq_true_eq, Nat.reduceAdd, Nat.reduceLeDiff, Nat.zero_add, Int.reduceLT, Int.reduceLE, Int.reduceEq, Int.reduceNeg, Nat.reduceEqDiff, and_self, and_true, true_and, decide_true, decide_false, eq_self, ite_true, ite_false, Int.reduceSub, Int.reduceAdd, Int.cast_ofNat_Int, Int.natCast_add, Int.cast_ofNat_Int, Nat.reduceSub, Nat.add_assoc, String.reduceBEq, String.reduceEq, Bool.or_not_self, beq_self_eq_true, u1]
  refine lc_draw (fun _ y => ∃ w ps, y = .tup (.str w :: ps) ∧ StepG w ps) D1.bag (fun _ _ => trivial) (by omega) (fun x hx s hD => ?_) (fun ys s2 g4 hl hP D2 => ?_)
  · refine ⟨_, rfl, ?_⟩
    simp only [wp_okR, wp_okF, wp_fin, wp_next, wp_then, wp_bind, wp_nox, wp_tK, wp_bK, wp_fr, wp_fn, wp_nn, wp_nr, wp_nb, wp_nc, wp_ln, wp_lc, wp_lb, wp_lr, wp_jn, wp_jc, ev_bok, ev_bno, ev_bex, ev_tok, ev_tno, ev_tex, ev_nnx, ev_nrt, ev_nbk, ev_nct, ev_nex, ev_nno, ev_frt, ev_fnx, ev_fex, ev_xok, ev_lsome, ev_lnone, ev_seq, ev_if, ev_ret, ev_retN, ev_drop, ev_nop, ev_brk, ev_cont, ev_asgN, ev_asgT, ev_asgO, ev_mgTup, ev_mgN, ev_mgC, ev_mg0, ev_putL, ev_putO, ev_var, ev_vr, ev_c, ev_op, ev_un, ev_test, ev_tb, ev_notT, ev_andT, ev_orT, ev_ifE, ev_not, ev_nb, ev_and, ev_andK, ev_or, ev_orK, ev_chain, ev_chK, ev_nil, ev_cons, ev_tup, ev_lst, ev_new, ev_call, ev_cb, ev_size, ev_addI, ev_addS, ev_addT, ev_addL, ev_catO, ev_sub, ev_mul, ev_div, ev_mod, ev_p5, ev_p6, ev_p12, ev_p18, ev_p30, ev_neg, ev_ltI, ev_ltS, ev_leI, ev_leS, ev_gt, ev_ge, ev_eqI, ev_eqS, ev_neI, ev_neS, ev_neB, ev_eqB, ev_is, ev_isnot, ev_ixT, ev_ixS, ev_ixR, ev_ixL, ev_ixK, ev_getL, ev_getM, ev_gL, ev_gM, ev_at0, ev_at1, ev_at2, ev_at3, ev_at4, ev_lenS, ev_lenR, ev_lenT, ev_lenL, ev_lenO, ev_lenD, ev_abs, ev_min2, ev_max2, ev_intI, ev_intB, ev_set, ev_fc, ev_setset, ev_last, ev_appk, ev_app0, ev_setk, ev_set0, ev_assoc, ev_lapp, ev_lappA, ev_sl, ev_nopart, ev_part, ev_ptK, ev_slT, ev_slS, ev_slR, ev_slK, ev_tyN, ev_tyB, ev_tyI, ev_tyS, ev_tyT, ev_tyL, ev_tyR, ev_tyRL, ev_isi, ev_isi1, ev_isi2, ev_isi3, ev_isi4, ev_isi5, ev_isiT, ev_isi2K, ev_isTy, ev_list, ev_listK, ev_tuple, ev_tupK, ev_getST, ev_getSR, ev_getSL, ev_all, ev_allK, ev_eqXI, ev_eqXS, ev_neXI, ev_neXS, ev_neXB, ev_eqXB, ev_eqXR, ev_neXR, ev_nil2, ev_eqK, ev_neK, ev_meth, ev_meth0, ev_mth1, ev_mth2, ev_mth3, ev_append, ev_m0, ev_m0K, ev_str, ev_for, ev_miR1, ev_rg1K, ev_miL, ev_liK, ev_miT, ev_tiK, ev_lc, ev_wipe0, ev_wipeS, ev_yes, ev_lenSet, ev_lenSetK, ev_listR, ev_lrK, ev_put2, ev_p2A, ev_p2K, ev_p2E, ev_put1, ev_pt1, ev_addXI, ev_addXB, ev_addXS, ev_addXT, ev_addXL, ev_subXI, ev_subXB, ev_mulXI, ev_mulXB, ev_mulXL, ev_negXI, ev_negXB, ev_strXI, ev_strXB, ev_mulYI, ev_mulYB, ev_mulYL, ev_mulYT, ev_dnew, ev_dnewT, ev_dgetE, ev_getD, ev_gD, ev_keyI, ev_keyS, ev_dgK, ev_dinE, ev_diK, ev_dputE, ev_dpK, ev_dget2E, ev_isDA, ev_isSome, ev_isNone, ev_dg2K, ev_dpop2E, ev_dp2K, ev_dp3S, ev_dp3N, ev_sortedE, ev_srO1, ev_srO2, ev_gLd, ev_srKS, ev_srKI, ev_gDT, ev_gT, ev_tinE, ev_tiKK, ev_keysA, ev_keysN, ev_keysC, ev_dputTE, ev_dptK, ev_dispE, ev_mpN, ev_mpC, ev_pcK, ev_dsK, ev_dsK2, ev_lc2E, ev_imp, ev_simp, ev_split, ev_splF, ev_splG, ev_fmt, ev_fmtS, ev_fmtI, ev_addK, ev_js0, ev_js1, ev_joined, ev_star, ev_starK, ev_each2, ev_each2K, ev_unl, ev_unlK, ev_intS, ev_strYS, ev_strYI, ev_fldE, ev_getI, ev_gI, ev_fdK, ev_fldS, ev_fpK, ev_mtE, ev_miK, ev_mkE, ev_mkK, ev_callE, ev_tryAs, ev_raise0, ev_raise1, ev_raiseN, ev_revS, ev_revK, ev_zip, ev_enumF, ev_enum, ev_kget, ev_kgK, ev_index, ev_mjoin, ev_joinG, ev_joinK, ev_sbind, ev_miS, ev_siK, ev_truS, List.getElem?_cons_zero, List.getElem?_cons_succ, List.set_cons_zero, List.set_cons_succ, List.length_cons, List.length_nil, List.cons_append, List.nil_append, if_true, if_false, Bool.false_eq_true, Bool.true_eq_false, reduceIte, Bool.not_true, Bool.not_false, Bool.and_true, Bool.true_and, Bool.and_false, Bool.false_and, Bool.or_true, Bool.true_or, Bool.or_false, Bool.false_or, decide_eq_true_eq, Nat.reduceAdd, Nat.reduceLeDiff, Nat.zero_add, Int.reduceLT, Int.reduceLE, Int.reduceEq, Int.reduceNeg, Nat.reduceEqDiff, and_self, and_true, true_and, decide_true, decide_false, eq_self, ite_true, ite_false, Int.reduceSub, Int.reduceAdd, Int.cast_ofNat_Int, Int.natCast_add, Int.cast_ofNat_Int, Nat.reduceSub, Nat.add_assoc, String.reduceBEq, String.reduceEq, Bool.or_not_self, beq_self_eq_true]
    exact anyStep_wp hD.bag
  · obtain ⟨sts, rfl, hsts⟩ := sts_of (ys := ys) fun y hy => by
      obtain ⟨i, hi⟩ := List.getElem?_of_mem hy
      have il := (List.getElem?_eq_some_iff.mp hi).1
      exact hP i _ y (List.getElem?_eq_getElem (by omega)) hi
    rw [List.length_map, rl] at hl
    obtain ⟨n4, hn4⟩ : ∃ n4, n4 = s1.length := ⟨_, rfl⟩
    have b4 : n4 ≠ b := by
      have := D1.lt
      omega
    rw [← hn4] at g4 ⊢
    have l4 := (List.getElem?_eq_some_iff.mp g4).1
    simp only [wp_okR, wp_okF, wp_fin, wp_next, wp_then, wp_bind, wp_nox, wp_tK, wp_bK, wp_fr, wp_fn, wp_nn, wp_nr, wp_nb, wp_nc, wp_ln, wp_lc, wp_lb, wp_lr, wp_jn, wp_jc, ev_bok, ev_bno, ev_bex, ev_tok, ev_tno, ev_tex, ev_nnx, ev_nrt, ev_nbk, ev_nct, ev_nex, ev_nno, ev_frt, ev_fnx, ev_fex, ev_xok, ev_lsome, ev_lnone, ev_seq, ev_if, ev_ret, ev_retN, ev_drop, ev_nop, ev_brk, ev_cont, ev_asgN, ev_asgT, ev_asgO, ev_mgTup, ev_mgN, ev_mgC, ev_mg0, ev_putL, ev_putO, ev_var, ev_vr, ev_c, ev_op, ev_un, ev_test, ev_tb, ev_notT, ev_andT, ev_orT, ev_ifE, ev_not, ev_nb, ev_and, ev_andK, ev_or, ev_orK, ev_chain, ev_chK, ev_nil, ev_cons, ev_tup, ev_lst, ev_new, ev_call, ev_cb, ev_size, ev_addI, ev_addS, ev_addT, ev_addL, ev_catO, ev_sub, ev_mul, ev_div, ev_mod, ev_p5, ev_p6, ev_p12, ev_p18, ev_p30, ev_neg, ev_ltI, ev_ltS, ev_leI, ev_leS, ev_gt, ev_ge, ev_eqI, ev_eqS, ev_neI, ev_neS, ev_neB, ev_eqB, ev_is, ev_isnot, ev_ixT, ev_ixS, ev_ixR, ev_ixL, ev_ixK, ev_getL, ev_getM, ev_gL, ev_gM, ev_at0, ev_at1, ev_at2, ev_at3, ev_at4, ev_lenS, ev_lenR, ev_lenT, ev_lenL, ev_lenO, ev_lenD, ev_abs, ev_min2, ev_max2, ev_intI, ev_intB, ev_set, ev_fc, ev_setset, ev_last, ev_appk, ev_app0, ev_setk, ev_set0, ev_assoc, ev_lapp, ev_lappA, ev_sl, ev_nopart, ev_part, ev_ptK, ev_slT, ev_slS, ev_slR, ev_slK, ev_tyN, ev_tyB, ev_tyI, ev_tyS, ev_tyT, ev_tyL, ev_tyR, ev_tyRL, ev_isi, ev_isi1, ev_isi2, ev_isi3, ev_isi4, ev_isi5, ev_isiT, ev_isi2K, ev_isTy, ev_list, ev_listK, ev_tuple, ev_tupK, ev_getST, ev_getSR, ev_getSL, ev_all, ev_allK, ev_eqXI, ev_eqXS, ev_neXI, ev_neXS, ev_neXB, ev_eqXB, ev_eqXR, ev_neXR, ev_nil2, ev_eqK, ev_neK, ev_meth, ev_meth0, ev_mth1, ev_mth2, ev_mth3, ev_append, ev_m0, ev_m0K, ev_str, ev_for, ev_miR1, ev_rg1K, ev_miL, ev_liK, ev_miT, ev_tiK, ev_lc, ev_wipe0, ev_wipeS, ev_yes, ev_lenSet, ev_lenSetK, ev_listR, ev_lrK, ev_put2, ev_p2A, ev_p2K, ev_p2E, ev_put1, ev_pt1, ev_addXI, ev_addXB, ev_addXS, ev_addXT, ev_addXL, ev_subXI, ev_subXB, ev_mulXI, ev_mulXB, ev_mulXL, ev_negXI, ev_negXB, ev_strXI, ev_strXB, ev_mulYI, ev_mulYB, ev_mulYL, ev_mulYT, ev_dnew, ev_dnewT, ev_dgetE, ev_getD, ev_gD, ev_keyI, ev_keyS, ev_dgK, ev_dinE, ev_diK, ev_dputE, ev_dpK, ev_dget2E, ev_isDA, ev_isSome, ev_isNone, ev_dg2K, ev_dpop2E, ev_dp2K, ev_dp3S, ev_dp3N, ev_sortedE, ev_srO1, ev_srO2, ev_gLd, ev_srKS, ev_srKI, ev_gDT, ev_gT, ev_tinE, ev_tiKK, ev_keysA, ev_keysN, ev_keysC, ev_dputTE, ev_dptK, ev_dispE, ev_mpN, ev_mpC, ev_pcK, ev_dsK, ev_dsK2, ev_lc2E, ev_imp, ev_simp, ev_split, ev_splF, ev_splG, ev_fmt, ev_fmtS, ev_fmtI, ev_addK, ev_js0, ev_js1, ev_joined, ev_star, ev_starK, ev_each2, ev_each2K, ev_unl, ev_unlK, ev_intS, ev_strYS, ev_strYI, ev_fldE, ev_getI, ev_gI, ev_fdK, ev_fldS, ev_fpK, ev_mtE, ev_miK, ev_mkE, ev_mkK, ev_callE, ev_tryAs, ev_raise0, ev_raise1, ev_raiseN, ev_revS, ev_revK, ev_zip, ev_enumF, ev_enum, ev_kget, ev_kgK, ev_index, ev_mjoin, ev_joinG, ev_joinK, ev_sbind, ev_miS, ev_siK, ev_truS, List.getElem?_cons_zero, List.getElem?_cons_succ, List.set_cons_zero, List.set_cons_succ, List.length_cons, List.length_nil, List.cons_append, List.nil_append, if_true, if_false, Bool.false_eq_true, Bool.true_eq_false, reduceIte, Bool.not_true, Bool.not_false, Bool.and_true, Bool.true_and, Bool.and_false, Bool.false_and, Bool.or_true, Bool.true_or, Bool.or_false, Bool.false_or, decide_eq_true_eq, Nat.reduceAdd, Nat.reduceLeDiff, Nat.zero_add, Int.reduceLT, Int.reduceLE, Int.reduceEq, Int.reduceNeg, Nat.reduceEqDiff, and_self, and_true, true_and, decide_true, decide_false, eq_self, ite_true, ite_false, Int.reduceSub, Int.reduceAdd, Int.cast_ofNat_Int, Int.natCast_add, Int.cast_ofNat_Int, Nat.reduceSub, Nat.add_assoc, String.reduceBEq, String.reduceEq, Bool.or_not_self, beq_self_eq_true, g4]
    refine lc_M lineF (fun k => ?_) (by rw [List.length_map]; omega) (fun x hx => ?_) (fun l' => ?_)
    · show getL (s2 ++ k) (.ref n4) = _
      rw [ev_getL, app_get g4]
      rfl
    · obtain ⟨q, hq, rfl⟩ := List.mem_map.mp hx
      refine ⟨_, rfl, fun k => ?_⟩
      simp only [wp_okR, wp_okF, wp_fin, wp_next, wp_then, wp_bind, wp_nox, wp_tK, wp_bK, wp_fr, wp_fn, wp_nn, wp_nr, wp_nb, wp_nc, wp_ln, wp_lc, wp_lb, wp_lr, wp_jn, wp_jc, ev_bok, ev_bno, ev_bex, ev_tok, ev_tno, ev_tex, ev_nnx, ev_nrt, ev_nbk, ev_nct, ev_nex, ev_nno, ev_frt, ev_fnx, ev_fex, ev_xok, ev_lsome, ev_lnone, ev_seq, ev_if, ev_ret, ev_retN, ev_drop, ev_nop, ev_brk, ev_cont, ev_asgN, ev_asgT, ev_asgO, ev_mgTup, ev_mgN, ev_mgC, ev_mg0, ev_putL, ev_putO, ev_var, ev_vr, ev_c, ev_op, ev_un, ev_test, ev_tb, ev_notT, ev_andT, ev_orT, ev_ifE, ev_not, ev_nb, ev_and, ev_andK, ev_or, ev_orK, ev_chain, ev_chK, ev_nil, ev_cons, ev_tup, ev_lst, ev_new, ev_call, ev_cb, ev_size, ev_addI, ev_addS, ev_addT, ev_addL, ev_catO, ev_sub, ev_mul, ev_div, ev_mod, ev_p5, ev_p6, ev_p12, ev_p18, ev_p30, ev_neg, ev_ltI, ev_ltS, ev_leI, ev_leS, ev_gt, ev_ge, ev_eqI, ev_eqS, ev_neI, ev_neS, ev_neB, ev_eqB, ev_is, ev_isnot, ev_ixT, ev_ixS, ev_ixR, ev_ixL, ev_ixK, ev_getL, ev_getM, ev_gL, ev_gM, ev_at0, ev_at1, ev_at2, ev_at3, ev_at4, ev_lenS, ev_lenR, ev_lenT, ev_lenL, ev_lenO, ev_lenD, ev_abs, ev_min2, ev_max2, ev_intI, ev_intB, ev_set, ev_fc, ev_setset, ev_last, ev_appk, ev_app0, ev_setk, ev_set0, ev_assoc, ev_lapp, ev_lappA, ev_sl, ev_nopart, ev_part, ev_ptK, ev_slT, ev_slS, ev_slR, ev_slK, ev_tyN, ev_tyB, ev_tyI, ev_tyS, ev_tyT, ev_tyL, ev_tyR, ev_tyRL, ev_isi, ev_isi1, ev_isi2, ev_isi3, ev_isi4, ev_isi5, ev_isiT, ev_isi2K, ev_isTy, ev_list, ev_listK, ev_tuple, ev_tupK, ev_getST, ev_getSR, ev_getSL, ev_all, ev_allK, ev_eqXI, ev_eqXS, ev_neXI, ev_neXS, ev_neXB, ev_eqXB, ev_eqXR, ev_neXR, ev_nil2, ev_eqK, ev_neK, ev_meth, ev_meth0, ev_mth1, ev_mth2, ev_mth3, ev_append, ev_m0, ev_m0K, ev_str, ev_for, ev_miR1, ev_rg1K, ev_miL, ev_liK, ev_miT, ev_tiK, ev_lc, ev_wipe0, ev_wipeS, ev_yes, ev_lenSet, ev_lenSetK, ev_listR, ev_lrK, ev_put2, ev_p2A, ev_p2K, ev_p2E, ev_put1, ev_pt1, ev_addXI, ev_addXB, ev_addXS, ev_addXT, ev_addXL, ev_subXI, ev_subXB, ev_mulXI, ev_mulXB, ev_mulXL, ev_negXI, ev_negXB, ev_strXI, ev_strXB, ev_mulYI, ev_mulYB, ev_mulYL, ev_mulYT, ev_dnew, ev_dnewT, ev_dgetE, ev_getD, ev_gD, ev_keyI, ev_keyS, ev_dgK, ev_dinE, ev_diK, ev_dputE, ev_dpK, ev_dget2E, ev_isDA, ev_isSome, ev_isNone, ev_dg2K, ev_dpop2E, ev_dp2K, ev_dp3S, ev_dp3N, ev_sortedE, ev_srO1, ev_srO2, ev_gLd, ev_srKS, ev_srKI, ev_gDT, ev_gT, ev_tinE, ev_tiKK, ev_keysA, ev_keysN, ev_keysC, ev_dputTE, ev_dptK, ev_dispE, ev_mpN, ev_mpC, ev_pcK, ev_dsK, ev_dsK2, ev_lc2E, ev_imp, ev_simp, ev_split, ev_splF, ev_splG, ev_fmt, ev_fmtS, ev_fmtI, ev_addK, ev_js0, ev_js1, ev_joined, ev_star, ev_starK, ev_each2, ev_each2K, ev_unl, ev_unlK, ev_intS, ev_strYS, ev_strYI, ev_fldE, ev_getI, ev_gI, ev_fdK, ev_fldS, ev_fpK, ev_mtE, ev_miK, ev_mkE, ev_mkK, ev_callE, ev_tryAs, ev_raise0, ev_raise1, ev_raiseN, ev_revS, ev_revK, ev_zip, ev_enumF, ev_enum, ev_kget, ev_kgK, ev_index, ev_mjoin, ev_joinG, ev_joinK, ev_sbind, ev_miS, ev_siK, ev_truS, List.getElem?_cons_zero, List.getElem?_cons_succ, List.set_cons_zero, List.set_cons_succ, List.length_cons, List.length_nil, List.cons_append, List.nil_append, if_true, if_false, Bool.false_eq_true, Bool.true_eq_false, reduceIte, Bool.not_true, Bool.not_false, Bool.and_true, Bool.true_and, Bool.and_false, Bool.false_and, Bool.or_true, Bool.true_or, Bool.or_false, Bool.false_or, decide_eq_true_eq, Nat.reduceAdd, Nat.reduceLeDiff, Nat.zero_add, Int.reduceLT, Int.reduceLE, Int.reduceEq, Int.reduceNeg, Nat.reduceEqDiff, and_self, and_true, true_and, decide_true, decide_false, eq_self, ite_true, ite_false, Int.reduceSub, Int.reduceAdd, Int.cast_ofNat_Int, Int.natCast_add, Int.cast_ofNat_Int, Nat.reduceSub, Nat.add_assoc, String.reduceBEq, String.reduceEq, Bool.or_not_self, beq_self_eq_true]
      refine okR_use (lline_wp (hsts q hq)) fun a s hh => ?_
      obtain ⟨rfl, k2, rfl⟩ := hh
      exact ⟨rfl, k2, List.append_assoc _ _ _⟩
    · have e1 : (sts.map stA).map lineF = (sts.map lnT).map A.str := by
        rw [List.map_map, List.map_map]
        rfl
      rw [e1]
      have h0 : Rnd b n4 s2.length sts 30 (sts.map lnT) (s2 ++ AO.lst ((sts.map lnT).map A.str) :: l') :=
        ⟨D2.bag.apps _, app_get g4, mid_get, ls_first hsts (by omega), hsts, b4, by have := D2.lt; omega, by omega⟩
      simp only [wp_okR, wp_okF, wp_fin, wp_next, wp_then, wp_bind, wp_nox, wp_tK, wp_bK, wp_fr, wp_fn, wp_nn, wp_nr, wp_nb, wp_nc, wp_ln, wp_lc, wp_lb, wp_lr, wp_jn, wp_jc, ev_bok, ev_bno, ev_bex, ev_tok, ev_tno, ev_tex, ev_nnx, ev_nrt, ev_nbk, ev_nct, ev_nex, ev_nno, ev_frt, ev_fnx, ev_fex, ev_xok, ev_lsome, ev_lnone, ev_seq, ev_if, ev_ret, ev_retN, ev_drop, ev_nop, ev_brk, ev_cont, ev_asgN, ev_asgT, ev_asgO, ev_mgTup, ev_mgN, ev_mgC, ev_mg0, ev_putL, ev_putO, ev_var, ev_vr, ev_c, ev_op, ev_un, ev_test, ev_tb, ev_notT, ev_andT, ev_orT, ev_ifE, ev_not, ev_nb, ev_and, ev_andK, ev_or, ev_orK, ev_chain, ev_chK, ev_nil, ev_cons, ev_tup, ev_lst, ev_new, ev_call, ev_cb, ev_size, ev_addI, ev_addS, ev_addT, ev_addL, ev_catO, ev_sub, ev_mul, ev_div, ev_mod, ev_p5, ev_p6, ev_p12, ev_p18, ev_p30, ev_neg, ev_ltI, ev_ltS, ev_leI, ev_leS, ev_gt, ev_ge, ev_eqI, ev_eqS, ev_neI, ev_neS, ev_neB, ev_eqB, ev_is, ev_isnot, ev_ixT, ev_ixS, ev_ixR, ev_ixL, ev_ixK, ev_getL, ev_getM, ev_gL, ev_gM, ev_at0, ev_at1, ev_at2, ev_at3, ev_at4, ev_lenS, ev_lenR, ev_lenT, ev_lenL, ev_lenO, ev_lenD, ev_abs, ev_min2, ev_max2, ev_intI, ev_intB, ev_set, ev_fc, ev_setset, ev_last, ev_appk, ev_app0, ev_setk, ev_set0, ev_assoc, ev_lapp, ev_lappA, ev_sl, ev_nopart, ev_part, ev_ptK, ev_slT, ev_slS, ev_slR, ev_slK, ev_tyN, ev_tyB, ev_tyI, ev_tyS, ev_tyT, ev_tyL, ev_tyR, ev_tyRL, ev_isi, ev_isi1, ev_isi2, ev_isi3, ev_isi4, ev_isi5, ev_isiT, ev_isi2K, ev_isTy, ev_list, ev_listK, ev_tuple, ev_tupK, ev_getST, ev_getSR, ev_getSL, ev_all, ev_allK, ev_eqXI, ev_eqXS, ev_neXI, ev_neXS, ev_neXB, ev_eqXB, ev_eqXR, ev_neXR, ev_nil2, ev_eqK, ev_neK, ev_meth, ev_meth0, ev_mth1, ev_mth2, ev_mth3, ev_append, ev_m0, ev_m0K, ev_str, ev_for, ev_miR1, ev_rg1K, ev_miL, ev_liK, ev_miT, ev_tiK, ev_lc, ev_wipe0, ev_wipeS, ev_yes, ev_lenSet, ev_lenSetK, ev_listR, ev_lrK, ev_put2, ev_p2A, ev_p2K, ev_p2E, ev_put1, ev_pt1, ev_addXI, ev_addXB, ev_addXS, ev_addXT, ev_addXL, ev_subXI, ev_subXB, ev_mulXI, ev_mulXB, ev_mulXL, ev_negXI, ev_negXB, ev_strXI, ev_strXB, ev_mulYI, ev_mulYB, ev_mulYL, ev_mulYT, ev_dnew, ev_dnewT, ev_dgetE, ev_getD, ev_gD, ev_keyI, ev_keyS, ev_dgK, ev_dinE, ev_diK, ev_dputE, ev_dpK, ev_dget2E, ev_isDA, ev_isSome, ev_isNone, ev_dg2K, ev_dpop2E, ev_dp2K, ev_dp3S, ev_dp3N, ev_sortedE, ev_srO1, ev_srO2, ev_gLd, ev_srKS, ev_srKI, ev_gDT, ev_gT, ev_tinE, ev_tiKK, ev_keysA, ev_keysN, ev_keysC, ev_dputTE, ev_dptK, ev_dispE, ev_mpN, ev_mpC, ev_pcK, ev_dsK, ev_dsK2, ev_lc2E, ev_imp, ev_simp, ev_split, ev_splF, ev_splG, ev_fmt, ev_fmtS, ev_fmtI, ev_addK, ev_js0, ev_js1, ev_joined, ev_star, ev_starK, ev_each2, ev_each2K, ev_unl, ev_unlK, ev_intS, ev_strYS, ev_strYI, ev_fldE, ev_getI, ev_gI, ev_fdK, ev_fldS, ev_fpK, ev_mtE, ev_miK, ev_mkE, ev_mkK, ev_callE, ev_tryAs, ev_raise0, ev_raise1, ev_raiseN, ev_revS, ev_revK, ev_zip, ev_enumF, ev_enum, ev_kget, ev_kgK, ev_index, ev_mjoin, ev_joinG, ev_joinK, ev_sbind, ev_miS, ev_siK, ev_truS, List.getElem?_cons_zero, List.getElem?_cons_succ, List.set_cons_zero, List.set_cons_succ, List.length_cons, List.length_nil, List.cons_append, List.nil_append, if_true, if_false, Bool.false_eq_true, Bool.true_eq_false, reduceIte, Bool.not_true, Bool.not_false, Bool.and_true, Bool.true_and, Bool.and_false, Bool.false_and, Bool.or_true, Bool.true_or, Bool.or_false, Bool.false_or, decide_eq_true_eq, Nat.reduceAdd, Nat.reduceLeDiff, Nat.zero_add, Int.reduceLT, Int.reduceLE, Int.reduceEq, Int.reduceNeg, Nat.reduceEqDiff, and_self, and_true, true_and, decide_true, decide_false, eq_self, ite_true, ite_false, Int.reduceSub, Int.reduceAdd, Int.cast_ofNat_Int, Int.natCast_add, Int.cast_ofNat_Int, Nat.reduceSub, Nat.add_assoc, String.reduceBEq, String.reduceEq, Bool.or_not_self, beq_self_eq_true]
      rw [hR]
      refine okF_use (rest_wp h0) fun f t hh => ?_
      obtain ⟨e3', rfl⟩ := hh
      exact ⟨_, _, _, _, _, _, _, rfl⟩
theorem nil_lines : LsP [] 30 [] := ⟨rfl, (fun x hx => by cases hx), Nat.zero_le _⟩
theorem empty_good : badL (Str.ofString "") = false := by
  unfold badL
  rw [step_nil]
  rfl
theorem lit_min {n : Int} (h0 : 0 ≤ n) : 0 ≤ min n 10 ∧ min n 10 ≤ 10 := by omega
theorem law_okR (ns : List Int) (hl : ns.length ≤ 63) : okR (m_law [.lit (ns.map A.int)] []) fun a _ => a = .bl true := by
  have ej : Txt.join NL [] = Str.ofString "" := by decide +kernel
  have nn : Txt.split (Str.ofString "\n\n") NL = [Str.ofString "", Str.ofString "", Str.ofString ""] := by decide +kernel
  have kn : keepS [Str.ofString "", Str.ofString "", Str.ofString ""] = [] := by
    unfold keepS
    rw [List.map_cons, List.map_cons, List.map_cons, step_nil]
    rfl
  rw [st_law]
  unfold b_law
  simp only [wp_fin, ev_seq, wp_next, wp_then]
  simp only [wp_okR, wp_okF, wp_fin, wp_next, wp_then, wp_bind, wp_nox, wp_tK, wp_bK, wp_fr, wp_fn, wp_nn, wp_nr, wp_nb, wp_nc, wp_ln, wp_lc, wp_lb, wp_lr, wp_jn, wp_jc, ev_bok, ev_bno, ev_bex, ev_tok, ev_tno, ev_tex, ev_nnx, ev_nrt, ev_nbk, ev_nct, ev_nex, ev_nno, ev_frt, ev_fnx, ev_fex, ev_xok, ev_lsome, ev_lnone, ev_seq, ev_if, ev_ret, ev_retN, ev_drop, ev_nop, ev_brk, ev_cont, ev_asgN, ev_asgT, ev_asgO, ev_mgTup, ev_mgN, ev_mgC, ev_mg0, ev_putL, ev_putO, ev_var, ev_vr, ev_c, ev_op, ev_un, ev_test, ev_tb, ev_notT, ev_andT, ev_orT, ev_ifE, ev_not, ev_nb, ev_and, ev_andK, ev_or, ev_orK, ev_chain, ev_chK, ev_nil, ev_cons, ev_tup, ev_lst, ev_new, ev_call, ev_cb, ev_size, ev_addI, ev_addS, ev_addT, ev_addL, ev_catO, ev_sub, ev_mul, ev_div, ev_mod, ev_p5, ev_p6, ev_p12, ev_p18, ev_p30, ev_neg, ev_ltI, ev_ltS, ev_leI, ev_leS, ev_gt, ev_ge, ev_eqI, ev_eqS, ev_neI, ev_neS, ev_neB, ev_eqB, ev_is, ev_isnot, ev_ixT, ev_ixS, ev_ixR, ev_ixL, ev_ixK, ev_getL, ev_getM, ev_gL, ev_gM, ev_at0, ev_at1, ev_at2, ev_at3, ev_at4, ev_lenS, ev_lenR, ev_lenT, ev_lenL, ev_lenO, ev_lenD, ev_abs, ev_min2, ev_max2, ev_intI, ev_intB, ev_set, ev_fc, ev_setset, ev_last, ev_appk, ev_app0, ev_setk, ev_set0, ev_assoc, ev_lapp, ev_lappA, ev_sl, ev_nopart, ev_part, ev_ptK, ev_slT, ev_slS, ev_slR, ev_slK, ev_tyN, ev_tyB, ev_tyI, ev_tyS, ev_tyT, ev_tyL, ev_tyR, ev_tyRL, ev_isi, ev_isi1, ev_isi2, ev_isi3, ev_isi4, ev_isi5, ev_isiT, ev_isi2K, ev_isTy, ev_list, ev_listK, ev_tuple, ev_tupK, ev_getST, ev_getSR, ev_getSL, ev_all, ev_allK, ev_eqXI, ev_eqXS, ev_neXI, ev_neXS, ev_neXB, ev_eqXB, ev_eqXR, ev_neXR, ev_nil2, ev_eqK, ev_neK, ev_meth, ev_meth0, ev_mth1, ev_mth2, ev_mth3, ev_append, ev_m0, ev_m0K, ev_str, ev_for, ev_miR1, ev_rg1K, ev_miL, ev_liK, ev_miT, ev_tiK, ev_lc, ev_wipe0, ev_wipeS, ev_yes, ev_lenSet, ev_lenSetK, ev_listR, ev_lrK, ev_put2, ev_p2A, ev_p2K, ev_p2E, ev_put1, ev_pt1, ev_addXI, ev_addXB, ev_addXS, ev_addXT, ev_addXL, ev_subXI, ev_subXB, ev_mulXI, ev_mulXB, ev_mulXL, ev_negXI, ev_negXB, ev_strXI, ev_strXB, ev_mulYI, ev_mulYB, ev_mulYL, ev_mulYT, ev_dnew, ev_dnewT, ev_dgetE, ev_getD, ev_gD, ev_keyI, ev_keyS, ev_dgK, ev_dinE, ev_diK, ev_dputE, ev_dpK, ev_dget2E, ev_isDA, ev_isSome, ev_isNone, ev_dg2K, ev_dpop2E, ev_dp2K, ev_dp3S, ev_dp3N, ev_sortedE, ev_srO1, ev_srO2, ev_gLd, ev_srKS, ev_srKI, ev_gDT, ev_gT, ev_tinE, ev_tiKK, ev_keysA, ev_keysN, ev_keysC, ev_dputTE, ev_dptK, ev_dispE, ev_mpN, ev_mpC, ev_pcK, ev_dsK, ev_dsK2, ev_lc2E, ev_imp, ev_simp, ev_split, ev_splF, ev_splG, ev_fmt, ev_fmtS, ev_fmtI, ev_addK, ev_js0, ev_js1, ev_joined, ev_star, ev_starK, ev_each2, ev_each2K, ev_unl, ev_unlK, ev_intS, ev_strYS, ev_strYI, ev_fldE, ev_getI, ev_gI, ev_fdK, ev_fldS, ev_fpK, ev_mtE, ev_miK, ev_mkE, ev_mkK, ev_callE, ev_tryAs, ev_raise0, ev_raise1, ev_raiseN, ev_revS, ev_revK, ev_zip, ev_enumF, ev_enum, ev_kget, ev_kgK, ev_index, ev_mjoin, ev_joinG, ev_joinK, ev_sbind, ev_miS, ev_siK, ev_truS, List.getElem?_cons_zero, List.getElem?_cons_succ, List.set_cons_zero, List.set_cons_succ, List.length_cons, List.length_nil, List.cons_append, List.nil_append, if_true, if_false, Bool.false_eq_true, Bool.true_eq_false, reduceIte, Bool.not_true, Bool.not_false, Bool.and_true, Bool.true_and, Bool.and_false, Bool.false_and, Bool.or_true, Bool.true_or, Bool.or_false, Bool.false_or, decide_eq_true_eq, Nat.reduceAdd, Nat.reduceLeDiff, Nat.zero_add, Int.reduceLT, Int.reduceLE, Int.reduceEq, Int.reduceNeg, Nat.reduceEqDiff, and_self, and_true, true_and, decide_true, decide_false, eq_self, ite_true, ite_false, Int.reduceSub, Int.reduceAdd, Int.cast_ofNat_Int, Int.natCast_add, Int.cast_ofNat_Int, Nat.reduceSub, Nat.add_assoc, String.reduceBEq, String.reduceEq, Bool.or_not_self, beq_self_eq_true]
  refine okR_use (stepsText_wp (sts := []) rfl (fun q hq => by cases hq) (Nat.zero_le _)) fun a s1 hh => ?_
  obtain ⟨rfl, l, rfl⟩ := hh
  rw [List.map_nil, ej]
  obtain ⟨S1, hS1⟩ : ∃ S1, S1 = [AO.lst []] ++ l := ⟨_, rfl⟩
  rw [← hS1]
  have rs := fun S => readLines_wp (S := S) nil_lines (by decide)
  rw [ej] at rs
  simp only [wp_okR, wp_okF, wp_fin, wp_next, wp_then, wp_bind, wp_nox, wp_tK, wp_bK, wp_fr, wp_fn, wp_nn, wp_nr, wp_nb, wp_nc, wp_ln, wp_lc, wp_lb, wp_lr, wp_jn, wp_jc, ev_bok, ev_bno, ev_bex, ev_tok, ev_tno, ev_tex, ev_nnx, ev_nrt, ev_nbk, ev_nct, ev_nex, ev_nno, ev_frt, ev_fnx, ev_fex, ev_xok, ev_lsome, ev_lnone, ev_seq, ev_if, ev_ret, ev_retN, ev_drop, ev_nop, ev_brk, ev_cont, ev_asgN, ev_asgT, ev_asgO, ev_mgTup, ev_mgN, ev_mgC, ev_mg0, ev_putL, ev_putO, ev_var, ev_vr, ev_c, ev_op, ev_un, ev_test, ev_tb, ev_notT, ev_andT, ev_orT, ev_ifE, ev_not, ev_nb, ev_and, ev_andK, ev_or, ev_orK, ev_chain, ev_chK, ev_nil, ev_cons, ev_tup, ev_lst, ev_new, ev_call, ev_cb, ev_size, ev_addI, ev_addS, ev_addT, ev_addL, ev_catO, ev_sub, ev_mul, ev_div, ev_mod, ev_p5, ev_p6, ev_p12, ev_p18, ev_p30, ev_neg, ev_ltI, ev_ltS, ev_leI, ev_leS, ev_gt, ev_ge, ev_eqI, ev_eqS, ev_neI, ev_neS, ev_neB, ev_eqB, ev_is, ev_isnot, ev_ixT, ev_ixS, ev_ixR, ev_ixL, ev_ixK, ev_getL, ev_getM, ev_gL, ev_gM, ev_at0, ev_at1, ev_at2, ev_at3, ev_at4, ev_lenS, ev_lenR, ev_lenT, ev_lenL, ev_lenO, ev_lenD, ev_abs, ev_min2, ev_max2, ev_intI, ev_intB, ev_set, ev_fc, ev_setset, ev_last, ev_appk, ev_app0, ev_setk, ev_set0, ev_assoc, ev_lapp, ev_lappA, ev_sl, ev_nopart, ev_part, ev_ptK, ev_slT, ev_slS, ev_slR, ev_slK, ev_tyN, ev_tyB, ev_tyI, ev_tyS, ev_tyT, ev_tyL, ev_tyR, ev_tyRL, ev_isi, ev_isi1, ev_isi2, ev_isi3, ev_isi4, ev_isi5, ev_isiT, ev_isi2K, ev_isTy, ev_list, ev_listK, ev_tuple, ev_tupK, ev_getST, ev_getSR, ev_getSL, ev_all, ev_allK, ev_eqXI, ev_eqXS, ev_neXI, ev_neXS, ev_neXB, ev_eqXB, ev_eqXR, ev_neXR, ev_nil2, ev_eqK, ev_neK, ev_meth, ev_meth0, ev_mth1, ev_mth2, ev_mth3, ev_append, ev_m0, ev_m0K, ev_str, ev_for, ev_miR1, ev_rg1K, ev_miL, ev_liK, ev_miT, ev_tiK, ev_lc, ev_wipe0, ev_wipeS, ev_yes, ev_lenSet, ev_lenSetK, ev_listR, ev_lrK, ev_put2, ev_p2A, ev_p2K, ev_p2E, ev_put1, ev_pt1, ev_addXI, ev_addXB, ev_addXS, ev_addXT, ev_addXL, ev_subXI, ev_subXB, ev_mulXI, ev_mulXB, ev_mulXL, ev_negXI, ev_negXB, ev_strXI, ev_strXB, ev_mulYI, ev_mulYB, ev_mulYL, ev_mulYT, ev_dnew, ev_dnewT, ev_dgetE, ev_getD, ev_gD, ev_keyI, ev_keyS, ev_dgK, ev_dinE, ev_diK, ev_dputE, ev_dpK, ev_dget2E, ev_isDA, ev_isSome, ev_isNone, ev_dg2K, ev_dpop2E, ev_dp2K, ev_dp3S, ev_dp3N, ev_sortedE, ev_srO1, ev_srO2, ev_gLd, ev_srKS, ev_srKI, ev_gDT, ev_gT, ev_tinE, ev_tiKK, ev_keysA, ev_keysN, ev_keysC, ev_dputTE, ev_dptK, ev_dispE, ev_mpN, ev_mpC, ev_pcK, ev_dsK, ev_dsK2, ev_lc2E, ev_imp, ev_simp, ev_split, ev_splF, ev_splG, ev_fmt, ev_fmtS, ev_fmtI, ev_addK, ev_js0, ev_js1, ev_joined, ev_star, ev_starK, ev_each2, ev_each2K, ev_unl, ev_unlK, ev_intS, ev_strYS, ev_strYI, ev_fldE, ev_getI, ev_gI, ev_fdK, ev_fldS, ev_fpK, ev_mtE, ev_miK, ev_mkE, ev_mkK, ev_callE, ev_tryAs, ev_raise0, ev_raise1, ev_raiseN, ev_revS, ev_revK, ev_zip, ev_enumF, ev_enum, ev_kget, ev_kgK, ev_index, ev_mjoin, ev_joinG, ev_joinK, ev_sbind, ev_miS, ev_siK, ev_truS, List.getElem?_cons_zero, List.getElem?_cons_succ, List.set_cons_zero, List.set_cons_succ, List.length_cons, List.length_nil, List.cons_append, List.nil_append, if_true, if_false, Bool.false_eq_true, Bool.true_eq_false, reduceIte, Bool.not_true, Bool.not_false, Bool.and_true, Bool.true_and, Bool.and_false, Bool.false_and, Bool.or_true, Bool.true_or, Bool.or_false, Bool.false_or, decide_eq_true_eq, Nat.reduceAdd, Nat.reduceLeDiff, Nat.zero_add, Int.reduceLT, Int.reduceLE, Int.reduceEq, Int.reduceNeg, Nat.reduceEqDiff, and_self, and_true, true_and, decide_true, decide_false, eq_self, ite_true, ite_false, Int.reduceSub, Int.reduceAdd, Int.cast_ofNat_Int, Int.natCast_add, Int.cast_ofNat_Int, Nat.reduceSub, Nat.add_assoc, String.reduceBEq, String.reduceEq, Bool.or_not_self, beq_self_eq_true]
  refine okR_use (rs S1) fun a s2 hh => ?_
  obtain ⟨rfl, l2, rfl⟩ := hh
  have ne1 := neL_same (k := 0) (app_get (l := [AO.lst []]) (mid_get (S := S1) (l := l2) (o := AO.lst []))) (mid_get (S := S1 ++ AO.lst [] :: l2) (l := []) (o := AO.lst [])) (fun x hx => by cases hx) (by decide)
  obtain ⟨S2, hS2⟩ : ∃ S2, S2 = S1 ++ AO.lst [] :: l2 := ⟨_, rfl⟩
  rw [← hS2] at ne1 ⊢
  simp only [wp_okR, wp_okF, wp_fin, wp_next, wp_then, wp_bind, wp_nox, wp_tK, wp_bK, wp_fr, wp_fn, wp_nn, wp_nr, wp_nb, wp_nc, wp_ln, wp_lc, wp_lb, wp_lr, wp_jn, wp_jc, ev_bok, ev_bno, ev_bex, ev_tok, ev_tno, ev_tex, ev_nnx, ev_nrt, ev_nbk, ev_nct, ev_nex, ev_nno, ev_frt, ev_fnx, ev_fex, ev_xok, ev_lsome, ev_lnone, ev_seq, ev_if, ev_ret, ev_retN, ev_drop, ev_nop, ev_brk, ev_cont, ev_asgN, ev_asgT, ev_asgO, ev_mgTup, ev_mgN, ev_mgC, ev_mg0, ev_putL, ev_putO, ev_var, ev_vr, ev_c, ev_op, ev_un, ev_test, ev_tb, ev_notT, ev_andT, ev_orT, ev_ifE, ev_not, ev_nb, ev_and, ev_andK, ev_or, ev_orK, ev_chain, ev_chK, ev_nil, ev_cons, ev_tup, ev_lst, ev_new, ev_call, ev_cb, ev_size, ev_addI, ev_addS, ev_addT, ev_addL, ev_catO, ev_sub, ev_mul, ev_div, ev_mod, ev_p5, ev_p6, ev_p12, ev_p18, ev_p30, ev_neg, ev_ltI, ev_ltS, ev_leI, ev_leS, ev_gt, ev_ge, ev_eqI, ev_eqS, ev_neI, ev_neS, ev_neB, ev_eqB, ev_is, ev_isnot, ev_ixT, ev_ixS, ev_ixR, ev_ixL, ev_ixK, ev_getL, ev_getM, ev_gL, ev_gM, ev_at0, ev_at1, ev_at2, ev_at3, ev_at4, ev_lenS, ev_lenR, ev_lenT, ev_lenL, ev_lenO, ev_lenD, ev_abs, ev_min2, ev_max2, ev_intI, ev_intB, ev_set, ev_fc, ev_setset, ev_last, ev_appk, ev_app0, ev_setk, ev_set0, ev_assoc, ev_lapp, ev_lappA, ev_sl, ev_nopart, ev_part, ev_ptK, ev_slT, ev_slS, ev_slR, ev_slK, ev_tyN, ev_tyB, ev_tyI, ev_tyS, ev_tyT, ev_tyL, ev_tyR, ev_tyRL, ev_isi, ev_isi1, ev_isi2, ev_isi3, ev_isi4, ev_isi5, ev_isiT, ev_isi2K, ev_isTy, ev_list, ev_listK, ev_tuple, ev_tupK, ev_getST, ev_getSR, ev_getSL, ev_all, ev_allK, ev_eqXI, ev_eqXS, ev_neXI, ev_neXS, ev_neXB, ev_eqXB, ev_eqXR, ev_neXR, ev_nil2, ev_eqK, ev_neK, ev_meth, ev_meth0, ev_mth1, ev_mth2, ev_mth3, ev_append, ev_m0, ev_m0K, ev_str, ev_for, ev_miR1, ev_rg1K, ev_miL, ev_liK, ev_miT, ev_tiK, ev_lc, ev_wipe0, ev_wipeS, ev_yes, ev_lenSet, ev_lenSetK, ev_listR, ev_lrK, ev_put2, ev_p2A, ev_p2K, ev_p2E, ev_put1, ev_pt1, ev_addXI, ev_addXB, ev_addXS, ev_addXT, ev_addXL, ev_subXI, ev_subXB, ev_mulXI, ev_mulXB, ev_mulXL, ev_negXI, ev_negXB, ev_strXI, ev_strXB, ev_mulYI, ev_mulYB, ev_mulYL, ev_mulYT, ev_dnew, ev_dnewT, ev_dgetE, ev_getD, ev_gD, ev_keyI, ev_keyS, ev_dgK, ev_dinE, ev_diK, ev_dputE, ev_dpK, ev_dget2E, ev_isDA, ev_isSome, ev_isNone, ev_dg2K, ev_dpop2E, ev_dp2K, ev_dp3S, ev_dp3N, ev_sortedE, ev_srO1, ev_srO2, ev_gLd, ev_srKS, ev_srKI, ev_gDT, ev_gT, ev_tinE, ev_tiKK, ev_keysA, ev_keysN, ev_keysC, ev_dputTE, ev_dptK, ev_dispE, ev_mpN, ev_mpC, ev_pcK, ev_dsK, ev_dsK2, ev_lc2E, ev_imp, ev_simp, ev_split, ev_splF, ev_splG, ev_fmt, ev_fmtS, ev_fmtI, ev_addK, ev_js0, ev_js1, ev_joined, ev_star, ev_starK, ev_each2, ev_each2K, ev_unl, ev_unlK, ev_intS, ev_strYS, ev_strYI, ev_fldE, ev_getI, ev_gI, ev_fdK, ev_fldS, ev_fpK, ev_mtE, ev_miK, ev_mkE, ev_mkK, ev_callE, ev_tryAs, ev_raise0, ev_raise1, ev_raiseN, ev_revS, ev_revK, ev_zip, ev_enumF, ev_enum, ev_kget, ev_kgK, ev_index, ev_mjoin, ev_joinG, ev_joinK, ev_sbind, ev_miS, ev_siK, ev_truS, List.getElem?_cons_zero, List.getElem?_cons_succ, List.set_cons_zero, List.set_cons_succ, List.length_cons, List.length_nil, List.cons_append, List.nil_append, if_true, if_false, Bool.false_eq_true, Bool.true_eq_false, reduceIte, Bool.not_true, Bool.not_false, Bool.and_true, Bool.true_and, Bool.and_false, Bool.false_and, Bool.or_true, Bool.true_or, Bool.or_false, Bool.false_or, decide_eq_true_eq, Nat.reduceAdd, Nat.reduceLeDiff, Nat.zero_add, Int.reduceLT, Int.reduceLE, Int.reduceEq, Int.reduceNeg, Nat.reduceEqDiff, and_self, and_true, true_and, decide_true, decide_false, eq_self, ite_true, ite_false, Int.reduceSub, Int.reduceAdd, Int.cast_ofNat_Int, Int.natCast_add, Int.cast_ofNat_Int, Nat.reduceSub, Nat.add_assoc, String.reduceBEq, String.reduceEq, Bool.or_not_self, beq_self_eq_true, ne1]
  have nt := noText2 (S := S2 ++ [AO.lst []]) (z := Str.ofString "\n\n") (by decide +kernel)
  rw [nn] at nt
  refine okR_use nt fun a s3 hh => ?_
  rcases hh with ⟨_, rfl, l3, rfl⟩ | ⟨i, x, h1, h2, _⟩
  · rw [kn]
    have ne2 := neT_nil (app_get (l := [AO.lst []]) (mid_get (S := S2 ++ [AO.lst []]) (l := l3) (o := AO.lst []))) (mid_get (S := (S2 ++ [AO.lst []]) ++ AO.lst [] :: l3) (l := []) (o := AO.lst []))
    obtain ⟨S3, hS3⟩ : ∃ S3, S3 = (S2 ++ [AO.lst []]) ++ AO.lst [] :: l3 := ⟨_, rfl⟩
    obtain ⟨n3, hn3⟩ : ∃ n3, n3 = (S2 ++ [AO.lst []]).length := ⟨_, rfl⟩
    rw [← hS3, ← hn3] at ne2
    rw [← hS3, ← hn3]
    obtain ⟨m, hm, hm2⟩ : ∃ m : Int, m = 1 + (if (10 : Int) < (ns.length : Nat) then 10 else ((ns.length : Nat) : Int)) ∧ m < 100 ∧ 0 ≤ m := ⟨_, rfl, by split <;> omega, by split <;> omega⟩
    have c1 : (-(2 ^ 62) ≤ m ∧ m < 2 ^ 62) = True := eq_true ⟨by omega, by omega⟩
    rw [← List.length_map (f := A.int) (as := ns)] at hm
    simp only [wp_okR, wp_okF, wp_fin, wp_next, wp_then, wp_bind, wp_nox, wp_tK, wp_bK, wp_fr, wp_fn, wp_nn, wp_nr, wp_nb, wp_nc, wp_ln, wp_lc, wp_lb, wp_lr, wp_jn, wp_jc, ev_bok, ev_bno, ev_bex, ev_tok, ev_tno, ev_tex, ev_nnx, ev_nrt, ev_nbk, ev_nct, ev_nex, ev_nno, ev_frt, ev_fnx, ev_fex, ev_xok, ev_lsome, ev_lnone, ev_seq, ev_if, ev_ret, ev_retN, ev_drop, ev_nop, ev_brk, ev_cont, ev_asgN, ev_asgT, ev_asgO, ev_mgTup, ev_mgN, ev_mgC, ev_mg0, ev_putL, ev_putO, ev_var, ev_vr, ev_c, ev_op, ev_un, ev_test, ev_tb, ev_notT, ev_andT, ev_orT, ev_ifE, ev_not, ev_nb, ev_and, ev_andK, ev_or, ev_orK, ev_chain, ev_chK, ev_nil, ev_cons, ev_tup, ev_lst, ev_new, ev_call, ev_cb, ev_size, ev_addI, ev_addS, ev_addT, ev_addL, ev_catO, ev_sub, ev_mul, ev_div, ev_mod, ev_p5, ev_p6, ev_p12, ev_p18, ev_p30, ev_neg, ev_ltI, ev_ltS, ev_leI, ev_leS, ev_gt, ev_ge, ev_eqI, ev_eqS, ev_neI, ev_neS, ev_neB, ev_eqB, ev_is, ev_isnot, ev_ixT, ev_ixS, ev_ixR, ev_ixL, ev_ixK, ev_getL, ev_getM, ev_gL, ev_gM, ev_at0, ev_at1, ev_at2, ev_at3, ev_at4, ev_lenS, ev_lenR, ev_lenT, ev_lenL, ev_lenO, ev_lenD, ev_abs, ev_min2, ev_max2, ev_intI, ev_intB, ev_set, ev_fc, ev_setset, ev_last, ev_appk, ev_app0, ev_setk, ev_set0, ev_assoc, ev_lapp, ev_lappA, ev_sl, ev_nopart, ev_part, ev_ptK, ev_slT, ev_slS, ev_slR, ev_slK, ev_tyN, ev_tyB, ev_tyI, ev_tyS, ev_tyT, ev_tyL, ev_tyR, ev_tyRL, ev_isi, ev_isi1, ev_isi2, ev_isi3, ev_isi4, ev_isi5, ev_isiT, ev_isi2K, ev_isTy, ev_list, ev_listK, ev_tuple, ev_tupK, ev_getST, ev_getSR, ev_getSL, ev_all, ev_allK, ev_eqXI, ev_eqXS, ev_neXI, ev_neXS, ev_neXB, ev_eqXB, ev_eqXR, ev_neXR, ev_nil2, ev_eqK, ev_neK, ev_meth, ev_meth0, ev_mth1, ev_mth2, ev_mth3, ev_append, ev_m0, ev_m0K, ev_str, ev_for, ev_miR1, ev_rg1K, ev_miL, ev_liK, ev_miT, ev_tiK, ev_lc, ev_wipe0, ev_wipeS, ev_yes, ev_lenSet, ev_lenSetK, ev_listR, ev_lrK, ev_put2, ev_p2A, ev_p2K, ev_p2E, ev_put1, ev_pt1, ev_addXI, ev_addXB, ev_addXS, ev_addXT, ev_addXL, ev_subXI, ev_subXB, ev_mulXI, ev_mulXB, ev_mulXL, ev_negXI, ev_negXB, ev_strXI, ev_strXB, ev_mulYI, ev_mulYB, ev_mulYL, ev_mulYT, ev_dnew, ev_dnewT, ev_dgetE, ev_getD, ev_gD, ev_keyI, ev_keyS, ev_dgK, ev_dinE, ev_diK, ev_dputE, ev_dpK, ev_dget2E, ev_isDA, ev_isSome, ev_isNone, ev_dg2K, ev_dpop2E, ev_dp2K, ev_dp3S, ev_dp3N, ev_sortedE, ev_srO1, ev_srO2, ev_gLd, ev_srKS, ev_srKI, ev_gDT, ev_gT, ev_tinE, ev_tiKK, ev_keysA, ev_keysN, ev_keysC, ev_dputTE, ev_dptK, ev_dispE, ev_mpN, ev_mpC, ev_pcK, ev_dsK, ev_dsK2, ev_lc2E, ev_imp, ev_simp, ev_split, ev_splF, ev_splG, ev_fmt, ev_fmtS, ev_fmtI, ev_addK, ev_js0, ev_js1, ev_joined, ev_star, ev_starK, ev_each2, ev_each2K, ev_unl, ev_unlK, ev_intS, ev_strYS, ev_strYI, ev_fldE, ev_getI, ev_gI, ev_fdK, ev_fldS, ev_fpK, ev_mtE, ev_miK, ev_mkE, ev_mkK, ev_callE, ev_tryAs, ev_raise0, ev_raise1, ev_raiseN, ev_revS, ev_revK, ev_zip, ev_enumF, ev_enum, ev_kget, ev_kgK, ev_index, ev_mjoin, ev_joinG, ev_joinK, ev_sbind, ev_miS, ev_siK, ev_truS, List.getElem?_cons_zero, List.getElem?_cons_succ, List.set_cons_zero, List.set_cons_succ, List.length_cons, List.length_nil, List.cons_append, List.nil_append, if_true, if_false, Bool.false_eq_true, Bool.true_eq_false, reduceIte, Bool.not_true, Bool.not_false, Bool.and_true, Bool.true_and, Bool.and_false, Bool.false_and, Bool.or_true, Bool.true_or, Bool.or_false, Bool.false_or, decide_eq_true_eq, Nat.reduceAdd, Nat.reduceLeDiff, Nat.zero_add, Int.reduceLT, Int.reduceLE, Int.reduceEq, Int.reduceNeg, Nat.reduceEqDiff, and_self, and_true, true_and, decide_true, decide_false, eq_self, ite_true, ite_false, Int.reduceSub, Int.reduceAdd, Int.cast_ofNat_Int, Int.natCast_add, Int.cast_ofNat_Int, Nat.reduceSub, Nat.add_assoc, String.reduceBEq, String.reduceEq, Bool.or_not_self, beq_self_eq_true, ne2, ← hm, c1]
    refine forL_wp (j := 0) (fun _ env _ => ∃ e1 e2 e3 e4 e5 e6 e7, env = [some (.lit (ns.map A.int)), e1, e2, e3, e4, e5, e6, e7]) (fun _ _ _ _ => trivial) ⟨_, _, _, _, _, _, _, rfl⟩ (fun i x env S hx hI => ?_) (fun env S hI => ?_)
    · obtain ⟨z1, z2, z3, z4, z5, z6, z7, rfl⟩ := hI
      obtain ⟨rfl, hi⟩ := rngA_get hx
      refine ⟨_, rfl, okF_use (round_wp (by omega) (by omega)) fun fl t ht => ?_⟩
      obtain ⟨z1, z2, z3, z4, z5, z6, z7, rfl⟩ := ht
      exact ⟨_, _, _, _, _, _, _, rfl⟩
    · obtain ⟨z1, z2, z3, z4, z5, z6, z7, rfl⟩ := hI
      simp only [wp_okR, wp_okF, wp_fin, wp_next, wp_then, wp_bind, wp_nox, wp_tK, wp_bK, wp_fr, wp_fn, wp_nn, wp_nr, wp_nb, wp_nc, wp_ln, wp_lc, wp_lb, wp_lr, wp_jn, wp_jc, ev_bok, ev_bno, ev_bex, ev_tok, ev_tno, ev_tex, ev_nnx, ev_nrt, ev_nbk, ev_nct, ev_nex, ev_nno, ev_frt, ev_fnx, ev_fex, ev_xok, ev_lsome, ev_lnone, ev_seq, ev_if, ev_ret, ev_retN, ev_drop, ev_nop, ev_brk, ev_cont, ev_asgN, ev_asgT, ev_asgO, ev_mgTup, ev_mgN, ev_mgC, ev_mg0, ev_putL, ev_putO, ev_var, ev_vr, ev_c, ev_op, ev_un, ev_test, ev_tb, ev_notT, ev_andT, ev_orT, ev_ifE, ev_not, ev_nb, ev_and, ev_andK, ev_or, ev_orK, ev_chain, ev_chK, ev_nil, ev_cons, ev_tup, ev_lst, ev_new, ev_call, ev_cb, ev_size, ev_addI, ev_addS, ev_addT, ev_addL, ev_catO, ev_sub, ev_mul, ev_div, ev_mod, ev_p5, ev_p6, ev_p12, ev_p18, ev_p30, ev_neg, ev_ltI, ev_ltS, ev_leI, ev_leS, ev_gt, ev_ge, ev_eqI, ev_eqS, ev_neI, ev_neS, ev_neB, ev_eqB, ev_is, ev_isnot, ev_ixT, ev_ixS, ev_ixR, ev_ixL, ev_ixK, ev_getL, ev_getM, ev_gL, ev_gM, ev_at0, ev_at1, ev_at2, ev_at3, ev_at4, ev_lenS, ev_lenR, ev_lenT, ev_lenL, ev_lenO, ev_lenD, ev_abs, ev_min2, ev_max2, ev_intI, ev_intB, ev_set, ev_fc, ev_setset, ev_last, ev_appk, ev_app0, ev_setk, ev_set0, ev_assoc, ev_lapp, ev_lappA, ev_sl, ev_nopart, ev_part, ev_ptK, ev_slT, ev_slS, ev_slR, ev_slK, ev_tyN, ev_tyB, ev_tyI, ev_tyS, ev_tyT, ev_tyL, ev_tyR, ev_tyRL, ev_isi, ev_isi1, ev_isi2, ev_isi3, ev_isi4, ev_isi5, ev_isiT, ev_isi2K, ev_isTy, ev_list, ev_listK, ev_tuple, ev_tupK, ev_getST, ev_getSR, ev_getSL, ev_all, ev_allK, ev_eqXI, ev_eqXS, ev_neXI, ev_neXS, ev_neXB, ev_eqXB, ev_eqXR, ev_neXR, ev_nil2, ev_eqK, ev_neK, ev_meth, ev_meth0, ev_mth1, ev_mth2, ev_mth3, ev_append, ev_m0, ev_m0K, ev_str, ev_for, ev_miR1, ev_rg1K, ev_miL, ev_liK, ev_miT, ev_tiK, ev_lc, ev_wipe0, ev_wipeS, ev_yes, ev_lenSet, ev_lenSetK, ev_listR, ev_lrK, ev_put2, ev_p2A, ev_p2K, ev_p2E, ev_put1, ev_pt1, ev_addXI, ev_addXB, ev_addXS, ev_addXT, ev_addXL, ev_subXI, ev_subXB, ev_mulXI, ev_mulXB, ev_mulXL, ev_negXI, ev_negXB, ev_strXI, ev_strXB, ev_mulYI, ev_mulYB, ev_mulYL, ev_mulYT, ev_dnew, ev_dnewT, ev_dgetE, ev_getD, ev_gD, ev_keyI, ev_keyS, ev_dgK, ev_dinE, ev_diK, ev_dputE, ev_dpK, ev_dget2E, ev_isDA, ev_isSome, ev_isNone, ev_dg2K, ev_dpop2E, ev_dp2K, ev_dp3S, ev_dp3N, ev_sortedE, ev_srO1, ev_srO2, ev_gLd, ev_srKS, ev_srKI, ev_gDT, ev_gT, ev_tinE, ev_tiKK, ev_keysA, ev_keysN, ev_keysC, ev_dputTE, ev_dptK, ev_dispE, ev_mpN, ev_mpC, ev_pcK, ev_dsK, ev_dsK2, ev_lc2E, ev_imp, ev_simp, ev_split, ev_splF, ev_splG, ev_fmt, ev_fmtS, ev_fmtI, ev_addK, ev_js0, ev_js1, ev_joined, ev_star, ev_starK, ev_each2, ev_each2K, ev_unl, ev_unlK, ev_intS, ev_strYS, ev_strYI, ev_fldE, ev_getI, ev_gI, ev_fdK, ev_fldS, ev_fpK, ev_mtE, ev_miK, ev_mkE, ev_mkK, ev_callE, ev_tryAs, ev_raise0, ev_raise1, ev_raiseN, ev_revS, ev_revK, ev_zip, ev_enumF, ev_enum, ev_kget, ev_kgK, ev_index, ev_mjoin, ev_joinG, ev_joinK, ev_sbind, ev_miS, ev_siK, ev_truS, List.getElem?_cons_zero, List.getElem?_cons_succ, List.set_cons_zero, List.set_cons_succ, List.length_cons, List.length_nil, List.cons_append, List.nil_append, if_true, if_false, Bool.false_eq_true, Bool.true_eq_false, reduceIte, Bool.not_true, Bool.not_false, Bool.and_true, Bool.true_and, Bool.and_false, Bool.false_and, Bool.or_true, Bool.true_or, Bool.or_false, Bool.false_or, decide_eq_true_eq, Nat.reduceAdd, Nat.reduceLeDiff, Nat.zero_add, Int.reduceLT, Int.reduceLE, Int.reduceEq, Int.reduceNeg, Nat.reduceEqDiff, and_self, and_true, true_and, decide_true, decide_false, eq_self, ite_true, ite_false, Int.reduceSub, Int.reduceAdd, Int.cast_ofNat_Int, Int.natCast_add, Int.cast_ofNat_Int, Nat.reduceSub, Nat.add_assoc, String.reduceBEq, String.reduceEq, Bool.or_not_self, beq_self_eq_true]
  · have hx := List.mem_of_getElem? h1
    simp only [List.mem_cons, List.not_mem_nil, or_false] at hx
    have : x = Str.ofString "" := by
      rcases hx with h | h | h <;> exact h
    rw [this, empty_good] at h2
    cases h2
theorem law_true : ∀ ns : List Int, ns.length ≤ 63 → ∃ st, m_law [.lit (ns.map A.int)] [] = .ok (.bl true) st := fun ns hl => by
  obtain ⟨a, s, e, rfl⟩ := okR_out (law_okR ns hl)
  exact ⟨s, e⟩

end
theorem all_mk {l : PySem.W.OpenLaw} {w : World} {K : PySem.W.Frag} {h : Heap} {mg : Str → Option Value} {fa f0 f1 f2 f3 f4 f5 f6 f7 f8 f9 f10 f11 f12 f13 f14 f15 : Addr} (X : K.In h) (G : h.Ns mainGlobals mg) (hfa : mg "law" = some (.ref fa))
    {cl_NoText : Addr} {cl_AskedError : Addr} {cl_ToldError : Addr} {cl_Busy : Addr} {cl_Clean : Addr} {cl_NoClient : Addr} {cl_NoFile : Addr} {cl_NoLease : Addr} {cl_NoList : Addr} {cl_NoMessage : Addr} {cl_NoPage : Addr} {cl_NoRow : Addr} {cl_NoSetup : Addr} {cl_NoTicks : Addr} {cl_NothingLeft : Addr} {cl_NotWaiting : Addr} {cl_NoValue : Addr} {cl_TooDeep : Addr} {cl_TooMany : Addr} {nm_NoText q_NoText : Str} {N_NoText : Addr} {bs_NoText bm_NoText : List Value} {sn_NoText : List Str} {sub_NoText : List Value} {ab_NoText : Bool} {col_NoText : Option Bool} {dd_NoText : Option Addr} {k0_NoText k1_NoText k2_NoText k3_NoText k5_NoText : Option Value} {fi_NoText : Addr} {iod_NoText ian_NoText : Option Addr} {isl_NoText : Array (Option Value)} {ioc_NoText ikV_NoText idc_NoText ipm_NoText icd_NoText ict_NoText : Value} {dT_NoText : Addr} {dod_NoText : Option Addr} {dn_NoText : Nat} {dsl_NoText : Array (Option Value)} {dcl_NoText : Value} {kd_PARTS : Addr} {kn_PARTS : Nat} {kt_PARTS_0 : Tok} {kp_PARTS_0 : Addr} {ko_PARTS_0 : Option Addr} {km_PARTS_0 : Nat} {ks_PARTS_0 : Array (Option Value)} {kx_PARTS_0_0 kx_PARTS_0_1 kx_PARTS_0_2 : Tok} {kt_PARTS_1 : Tok} {kp_PARTS_1 : Addr} {ko_PARTS_1 : Option Addr} {km_PARTS_1 : Nat} {ks_PARTS_1 : Array (Option Value)} {kx_PARTS_1_0 kx_PARTS_1_1 kx_PARTS_1_2 kx_PARTS_1_3 : Tok} {kt_PARTS_2 : Tok} {kp_PARTS_2 : Addr} {ko_PARTS_2 : Option Addr} {km_PARTS_2 : Nat} {ks_PARTS_2 : Array (Option Value)} {kx_PARTS_2_0 : Tok} {kt_PARTS_3 : Tok} {kp_PARTS_3 : Addr} {ko_PARTS_3 : Option Addr} {km_PARTS_3 : Nat} {ks_PARTS_3 : Array (Option Value)} {kx_PARTS_3_0 : Tok} {kt_PARTS_4 : Tok} {kp_PARTS_4 : Addr} {ko_PARTS_4 : Option Addr} {km_PARTS_4 : Nat} {ks_PARTS_4 : Array (Option Value)} {kx_PARTS_4_0 : Tok} {kt_PARTS_5 : Tok} {kp_PARTS_5 : Addr} {ko_PARTS_5 : Option Addr} {km_PARTS_5 : Nat} {ks_PARTS_5 : Array (Option Value)} {kx_PARTS_5_0 : Tok} {kt_PARTS_6 : Tok} {kp_PARTS_6 : Addr} {ko_PARTS_6 : Option Addr} {km_PARTS_6 : Nat} {ks_PARTS_6 : Array (Option Value)} {kx_PARTS_6_0 kx_PARTS_6_1 : Tok} {kt_PARTS_7 : Tok} {kp_PARTS_7 : Addr} {ko_PARTS_7 : Option Addr} {km_PARTS_7 : Nat} {ks_PARTS_7 : Array (Option Value)} {kx_PARTS_7_0 kx_PARTS_7_1 : Tok} {kt_PARTS_8 : Tok} {kp_PARTS_8 : Addr} {ko_PARTS_8 : Option Addr} {km_PARTS_8 : Nat} {ks_PARTS_8 : Array (Option Value)} {kx_PARTS_8_0 : Tok} {kt_PARTS_9 : Tok} {kp_PARTS_9 : Addr} {ko_PARTS_9 : Option Addr} {km_PARTS_9 : Nat} {ks_PARTS_9 : Array (Option Value)}
    {od0 an0 : Option Addr} {sl0 : Array (Option Value)} {oc0 kV0 dc0 pm0 cd0 ct0 : Value} {od1 an1 : Option Addr} {sl1 : Array (Option Value)} {oc1 kV1 dc1 pm1 cd1 ct1 : Value} {od2 an2 : Option Addr} {sl2 : Array (Option Value)} {oc2 kV2 dc2 pm2 cd2 ct2 : Value} {od3 an3 : Option Addr} {sl3 : Array (Option Value)} {oc3 kV3 dc3 pm3 cd3 ct3 : Value} {od4 an4 : Option Addr} {sl4 : Array (Option Value)} {oc4 kV4 dc4 pm4 cd4 ct4 : Value} {od5 an5 : Option Addr} {sl5 : Array (Option Value)} {oc5 kV5 dc5 pm5 cd5 ct5 : Value} {od6 an6 : Option Addr} {sl6 : Array (Option Value)} {oc6 kV6 dc6 pm6 cd6 ct6 : Value} {od7 an7 : Option Addr} {sl7 : Array (Option Value)} {oc7 kV7 dc7 pm7 cd7 ct7 : Value} {od8 an8 : Option Addr} {sl8 : Array (Option Value)} {oc8 kV8 dc8 pm8 cd8 ct8 : Value} {od9 an9 : Option Addr} {sl9 : Array (Option Value)} {oc9 kV9 dc9 pm9 cd9 ct9 : Value} {od10 an10 : Option Addr} {sl10 : Array (Option Value)} {oc10 kV10 dc10 pm10 cd10 ct10 : Value} {od11 an11 : Option Addr} {sl11 : Array (Option Value)} {oc11 kV11 dc11 pm11 cd11 ct11 : Value} {od12 an12 : Option Addr} {sl12 : Array (Option Value)} {oc12 kV12 dc12 pm12 cd12 ct12 : Value} {od13 an13 : Option Addr} {sl13 : Array (Option Value)} {oc13 kV13 dc13 pm13 cd13 ct13 : Value} {od14 an14 : Option Addr} {sl14 : Array (Option Value)} {oc14 kV14 dc14 pm14 cd14 ct14 : Value} {od15 an15 : Option Addr} {sl15 : Array (Option Value)} {oc15 kV15 dc15 pm15 cd15 ct15 : Value} {tc_LETTERS : Tok} {tc_LONGEST_NAME : Tok} {tc_FIGURES : Tok} {tc_MOST_FIGURES : Tok}
    (a0 : PySem.W.nsIn K mainGlobals "is_name" = some (some (.ref f0)))
    (l0 : K.lookup f0 = some ⟨oc0, od0, .func (PySem.W.fnOf "is_name" "is_name" (defArgs s_is_name) (defBody s_is_name) (defScope s_is_name) .none kV0 dc0 pm0 an0 cd0 ct0), sl0⟩)
    (c0 : PySem.W.codeIn K cd0 "is_name" = true) (k0 : PySem.W.keepIn K (.ref f0) = true)
    (a1 : PySem.W.nsIn K mainGlobals "number_of" = some (some (.ref f1)))
    (l1 : K.lookup f1 = some ⟨oc1, od1, .func (PySem.W.fnOf "number_of" "number_of" (defArgs s_number_of) (defBody s_number_of) (defScope s_number_of) .none kV1 dc1 pm1 an1 cd1 ct1), sl1⟩)
    (c1 : PySem.W.codeIn K cd1 "number_of" = true) (k1 : PySem.W.keepIn K (.ref f1) = true)
    (a2 : PySem.W.nsIn K mainGlobals "part_of" = some (some (.ref f2)))
    (l2 : K.lookup f2 = some ⟨oc2, od2, .func (PySem.W.fnOf "part_of" "part_of" (defArgs s_part_of) (defBody s_part_of) (defScope s_part_of) .none kV2 dc2 pm2 an2 cd2 ct2), sl2⟩)
    (c2 : PySem.W.codeIn K cd2 "part_of" = true) (k2 : PySem.W.keepIn K (.ref f2) = true)
    (a3 : PySem.W.nsIn K mainGlobals "step_of" = some (some (.ref f3)))
    (l3 : K.lookup f3 = some ⟨oc3, od3, .func (PySem.W.fnOf "step_of" "step_of" (defArgs s_step_of) (defBody s_step_of) (defScope s_step_of) .none kV3 dc3 pm3 an3 cd3 ct3), sl3⟩)
    (c3 : PySem.W.codeIn K cd3 "step_of" = true) (k3 : PySem.W.keepIn K (.ref f3) = true)
    (a4 : PySem.W.nsIn K mainGlobals "step_text" = some (some (.ref f4)))
    (l4 : K.lookup f4 = some ⟨oc4, od4, .func (PySem.W.fnOf "step_text" "step_text" (defArgs s_step_text) (defBody s_step_text) (defScope s_step_text) .none kV4 dc4 pm4 an4 cd4 ct4), sl4⟩)
    (c4 : PySem.W.codeIn K cd4 "step_text" = true) (k4 : PySem.W.keepIn K (.ref f4) = true)
    (a5 : PySem.W.nsIn K mainGlobals "steps_text" = some (some (.ref f5)))
    (l5 : K.lookup f5 = some ⟨oc5, od5, .func (PySem.W.fnOf "steps_text" "steps_text" (defArgs s_steps_text) (defBody s_steps_text) (defScope s_steps_text) .none kV5 dc5 pm5 an5 cd5 ct5), sl5⟩)
    (c5 : PySem.W.codeIn K cd5 "steps_text" = true) (k5 : PySem.W.keepIn K (.ref f5) = true)
    (a6 : PySem.W.nsIn K mainGlobals "read_step" = some (some (.ref f6)))
    (l6 : K.lookup f6 = some ⟨oc6, od6, .func (PySem.W.fnOf "read_step" "read_step" (defArgs s_read_step) (defBody s_read_step) (defScope s_read_step) .none kV6 dc6 pm6 an6 cd6 ct6), sl6⟩)
    (c6 : PySem.W.codeIn K cd6 "read_step" = true) (k6 : PySem.W.keepIn K (.ref f6) = true)
    (a7 : PySem.W.nsIn K mainGlobals "read_steps" = some (some (.ref f7)))
    (l7 : K.lookup f7 = some ⟨oc7, od7, .func (PySem.W.fnOf "read_steps" "read_steps" (defArgs s_read_steps) (defBody s_read_steps) (defScope s_read_steps) .none kV7 dc7 pm7 an7 cd7 ct7), sl7⟩)
    (c7 : PySem.W.codeIn K cd7 "read_steps" = true) (k7 : PySem.W.keepIn K (.ref f7) = true)
    (a8 : PySem.W.nsIn K mainGlobals "_law_bag" = some (some (.ref f8)))
    (l8 : K.lookup f8 = some ⟨oc8, od8, .func (PySem.W.fnOf "_law_bag" "_law_bag" (defArgs s__law_bag) (defBody s__law_bag) (defScope s__law_bag) .none kV8 dc8 pm8 an8 cd8 ct8), sl8⟩)
    (c8 : PySem.W.codeIn K cd8 "_law_bag" = true) (k8 : PySem.W.keepIn K (.ref f8) = true)
    (a9 : PySem.W.nsIn K mainGlobals "_law_take" = some (some (.ref f9)))
    (l9 : K.lookup f9 = some ⟨oc9, od9, .func (PySem.W.fnOf "_law_take" "_law_take" (defArgs s__law_take) (defBody s__law_take) (defScope s__law_take) .none kV9 dc9 pm9 an9 cd9 ct9), sl9⟩)
    (c9 : PySem.W.codeIn K cd9 "_law_take" = true) (k9 : PySem.W.keepIn K (.ref f9) = true)
    (a10 : PySem.W.nsIn K mainGlobals "_law_kinds" = some (some (.ref f10)))
    (l10 : K.lookup f10 = some ⟨oc10, od10, .func (PySem.W.fnOf "_law_kinds" "_law_kinds" (defArgs s__law_kinds) (defBody s__law_kinds) (defScope s__law_kinds) .none kV10 dc10 pm10 an10 cd10 ct10), sl10⟩)
    (c10 : PySem.W.codeIn K cd10 "_law_kinds" = true) (k10 : PySem.W.keepIn K (.ref f10) = true)
    (a11 : PySem.W.nsIn K mainGlobals "_law_name" = some (some (.ref f11)))
    (l11 : K.lookup f11 = some ⟨oc11, od11, .func (PySem.W.fnOf "_law_name" "_law_name" (defArgs s__law_name) (defBody s__law_name) (defScope s__law_name) .none kV11 dc11 pm11 an11 cd11 ct11), sl11⟩)
    (c11 : PySem.W.codeIn K cd11 "_law_name" = true) (k11 : PySem.W.keepIn K (.ref f11) = true)
    (a12 : PySem.W.nsIn K mainGlobals "_law_any_step" = some (some (.ref f12)))
    (l12 : K.lookup f12 = some ⟨oc12, od12, .func (PySem.W.fnOf "_law_any_step" "_law_any_step" (defArgs s__law_any_step) (defBody s__law_any_step) (defScope s__law_any_step) .none kV12 dc12 pm12 an12 cd12 ct12), sl12⟩)
    (c12 : PySem.W.codeIn K cd12 "_law_any_step" = true) (k12 : PySem.W.keepIn K (.ref f12) = true)
    (a13 : PySem.W.nsIn K mainGlobals "_law_line" = some (some (.ref f13)))
    (l13 : K.lookup f13 = some ⟨oc13, od13, .func (PySem.W.fnOf "_law_line" "_law_line" (defArgs s__law_line) (defBody s__law_line) (defScope s__law_line) .none kV13 dc13 pm13 an13 cd13 ct13), sl13⟩)
    (c13 : PySem.W.codeIn K cd13 "_law_line" = true) (k13 : PySem.W.keepIn K (.ref f13) = true)
    (a14 : PySem.W.nsIn K mainGlobals "_law_no_text" = some (some (.ref f14)))
    (l14 : K.lookup f14 = some ⟨oc14, od14, .func (PySem.W.fnOf "_law_no_text" "_law_no_text" (defArgs s__law_no_text) (defBody s__law_no_text) (defScope s__law_no_text) .none kV14 dc14 pm14 an14 cd14 ct14), sl14⟩)
    (c14 : PySem.W.codeIn K cd14 "_law_no_text" = true) (k14 : PySem.W.keepIn K (.ref f14) = true)
    (a15 : PySem.W.nsIn K mainGlobals "law" = some (some (.ref f15)))
    (l15 : K.lookup f15 = some ⟨oc15, od15, .func (PySem.W.fnOf "law" "law" (defArgs s_law) (defBody s_law) (defScope s_law) .none kV15 dc15 pm15 an15 cd15 ct15), sl15⟩)
    (c15 : PySem.W.codeIn K cd15 "law" = true) (k15 : PySem.W.keepIn K (.ref f15) = true)
    (g_LETTERS : PySem.W.nsIn K mainGlobals "LETTERS" = some (some (.str "abcdefghijklmnopqrstuvwxyz" tc_LETTERS)))
    (g_LONGEST_NAME : PySem.W.nsIn K mainGlobals "LONGEST_NAME" = some (some (.int 8 tc_LONGEST_NAME)))
    (g_FIGURES : PySem.W.nsIn K mainGlobals "FIGURES" = some (some (.str "0123456789" tc_FIGURES)))
    (g_MOST_FIGURES : PySem.W.nsIn K mainGlobals "MOST_FIGURES" = some (some (.int 12 tc_MOST_FIGURES)))
    (z_ValueError : PySem.W.nsIn K mainGlobals "ValueError" = some none)
    (z_abs : PySem.W.nsIn K mainGlobals "abs" = some none)
    (z_all : PySem.W.nsIn K mainGlobals "all" = some none)
    (z_bool : PySem.W.nsIn K mainGlobals "bool" = some none)
    (z_enumerate : PySem.W.nsIn K mainGlobals "enumerate" = some none)
    (z_int : PySem.W.nsIn K mainGlobals "int" = some none)
    (z_isinstance : PySem.W.nsIn K mainGlobals "isinstance" = some none)
    (z_len : PySem.W.nsIn K mainGlobals "len" = some none)
    (z_min : PySem.W.nsIn K mainGlobals "min" = some none)
    (z_range : PySem.W.nsIn K mainGlobals "range" = some none)
    (z_str : PySem.W.nsIn K mainGlobals "str" = some none)
    (z_tuple : PySem.W.nsIn K mainGlobals "tuple" = some none)
    (z_zip : PySem.W.nsIn K mainGlobals "zip" = some none)
    (b_NoText : PySem.W.nsIn K mainGlobals "NoText" = some (some (.ref cl_NoText)))
    (b_AskedError : PySem.W.nsIn K mainGlobals "AskedError" = some (some (.ref cl_AskedError)))
    (b_ToldError : PySem.W.nsIn K mainGlobals "ToldError" = some (some (.ref cl_ToldError)))
    (b_Busy : PySem.W.nsIn K mainGlobals "Busy" = some (some (.ref cl_Busy)))
    (b_Clean : PySem.W.nsIn K mainGlobals "Clean" = some (some (.ref cl_Clean)))
    (b_NoClient : PySem.W.nsIn K mainGlobals "NoClient" = some (some (.ref cl_NoClient)))
    (b_NoFile : PySem.W.nsIn K mainGlobals "NoFile" = some (some (.ref cl_NoFile)))
    (b_NoLease : PySem.W.nsIn K mainGlobals "NoLease" = some (some (.ref cl_NoLease)))
    (b_NoList : PySem.W.nsIn K mainGlobals "NoList" = some (some (.ref cl_NoList)))
    (b_NoMessage : PySem.W.nsIn K mainGlobals "NoMessage" = some (some (.ref cl_NoMessage)))
    (b_NoPage : PySem.W.nsIn K mainGlobals "NoPage" = some (some (.ref cl_NoPage)))
    (b_NoRow : PySem.W.nsIn K mainGlobals "NoRow" = some (some (.ref cl_NoRow)))
    (b_NoSetup : PySem.W.nsIn K mainGlobals "NoSetup" = some (some (.ref cl_NoSetup)))
    (b_NoTicks : PySem.W.nsIn K mainGlobals "NoTicks" = some (some (.ref cl_NoTicks)))
    (b_NothingLeft : PySem.W.nsIn K mainGlobals "NothingLeft" = some (some (.ref cl_NothingLeft)))
    (b_NotWaiting : PySem.W.nsIn K mainGlobals "NotWaiting" = some (some (.ref cl_NotWaiting)))
    (b_NoValue : PySem.W.nsIn K mainGlobals "NoValue" = some (some (.ref cl_NoValue)))
    (b_TooDeep : PySem.W.nsIn K mainGlobals "TooDeep" = some (some (.ref cl_TooDeep)))
    (b_TooMany : PySem.W.nsIn K mainGlobals "TooMany" = some (some (.ref cl_TooMany)))
    (h_AskedError : PySem.W.hasDictIn K cl_AskedError = true)
    (t_AskedError : PySem.W.typeIn K (.ref cl_AskedError) = some (.type "type"))
    (h_ToldError : PySem.W.hasDictIn K cl_ToldError = true)
    (t_ToldError : PySem.W.typeIn K (.ref cl_ToldError) = some (.type "type"))
    (h_Busy : PySem.W.hasDictIn K cl_Busy = true)
    (t_Busy : PySem.W.typeIn K (.ref cl_Busy) = some (.type "type"))
    (h_Clean : PySem.W.hasDictIn K cl_Clean = true)
    (t_Clean : PySem.W.typeIn K (.ref cl_Clean) = some (.type "type"))
    (h_NoClient : PySem.W.hasDictIn K cl_NoClient = true)
    (t_NoClient : PySem.W.typeIn K (.ref cl_NoClient) = some (.type "type"))
    (h_NoFile : PySem.W.hasDictIn K cl_NoFile = true)
    (t_NoFile : PySem.W.typeIn K (.ref cl_NoFile) = some (.type "type"))
    (h_NoLease : PySem.W.hasDictIn K cl_NoLease = true)
    (t_NoLease : PySem.W.typeIn K (.ref cl_NoLease) = some (.type "type"))
    (h_NoList : PySem.W.hasDictIn K cl_NoList = true)
    (t_NoList : PySem.W.typeIn K (.ref cl_NoList) = some (.type "type"))
    (h_NoMessage : PySem.W.hasDictIn K cl_NoMessage = true)
    (t_NoMessage : PySem.W.typeIn K (.ref cl_NoMessage) = some (.type "type"))
    (h_NoPage : PySem.W.hasDictIn K cl_NoPage = true)
    (t_NoPage : PySem.W.typeIn K (.ref cl_NoPage) = some (.type "type"))
    (h_NoRow : PySem.W.hasDictIn K cl_NoRow = true)
    (t_NoRow : PySem.W.typeIn K (.ref cl_NoRow) = some (.type "type"))
    (h_NoSetup : PySem.W.hasDictIn K cl_NoSetup = true)
    (t_NoSetup : PySem.W.typeIn K (.ref cl_NoSetup) = some (.type "type"))
    (h_NoText : PySem.W.hasDictIn K cl_NoText = true)
    (t_NoText : PySem.W.typeIn K (.ref cl_NoText) = some (.type "type"))
    (h_NoTicks : PySem.W.hasDictIn K cl_NoTicks = true)
    (t_NoTicks : PySem.W.typeIn K (.ref cl_NoTicks) = some (.type "type"))
    (h_NothingLeft : PySem.W.hasDictIn K cl_NothingLeft = true)
    (t_NothingLeft : PySem.W.typeIn K (.ref cl_NothingLeft) = some (.type "type"))
    (h_NotWaiting : PySem.W.hasDictIn K cl_NotWaiting = true)
    (t_NotWaiting : PySem.W.typeIn K (.ref cl_NotWaiting) = some (.type "type"))
    (h_NoValue : PySem.W.hasDictIn K cl_NoValue = true)
    (t_NoValue : PySem.W.typeIn K (.ref cl_NoValue) = some (.type "type"))
    (h_TooDeep : PySem.W.hasDictIn K cl_TooDeep = true)
    (t_TooDeep : PySem.W.typeIn K (.ref cl_TooDeep) = some (.type "type"))
    (h_TooMany : PySem.W.hasDictIn K cl_TooMany = true)
    (t_TooMany : PySem.W.typeIn K (.ref cl_TooMany) = some (.type "type"))
    (be_NoText : PySem.W.subIn K (.ref cl_NoText) (.type "BaseException") = some true)
    (x_hn : PySem.W.specialIn K (.builtin "object.__class__") "__get__" = some (some (.builtin "getset_descriptor.__get__")))
    (x_ht : PySem.W.takesIn K (.builtin "object.__class__") = some true)
    (rd_ToldError : PySem.W.readsIn K cl_ToldError (.type "type") = true)
    (ga_ToldError : PySem.W.specialIn K (.ref cl_ToldError) "__getattribute__" = some (some (.builtin "type.__getattribute__")))
    (vi_ToldError : PySem.W.findCls K (.ref cl_ToldError) (.type "type") "__init__" = some (.val (.builtin "ValueError.__init__")))
    (s_NoText_AskedError : PySem.W.subIn K (.ref cl_NoText) (.ref cl_AskedError) = some false)
    (s_NoText_ToldError : PySem.W.subIn K (.ref cl_NoText) (.ref cl_ToldError) = some true)
    (s_NoText_Busy : PySem.W.subIn K (.ref cl_NoText) (.ref cl_Busy) = some false)
    (s_NoText_Clean : PySem.W.subIn K (.ref cl_NoText) (.ref cl_Clean) = some false)
    (s_NoText_NoClient : PySem.W.subIn K (.ref cl_NoText) (.ref cl_NoClient) = some false)
    (s_NoText_NoFile : PySem.W.subIn K (.ref cl_NoText) (.ref cl_NoFile) = some false)
    (s_NoText_NoLease : PySem.W.subIn K (.ref cl_NoText) (.ref cl_NoLease) = some false)
    (s_NoText_NoList : PySem.W.subIn K (.ref cl_NoText) (.ref cl_NoList) = some false)
    (s_NoText_NoMessage : PySem.W.subIn K (.ref cl_NoText) (.ref cl_NoMessage) = some false)
    (s_NoText_NoPage : PySem.W.subIn K (.ref cl_NoText) (.ref cl_NoPage) = some false)
    (s_NoText_NoRow : PySem.W.subIn K (.ref cl_NoText) (.ref cl_NoRow) = some false)
    (s_NoText_NoSetup : PySem.W.subIn K (.ref cl_NoText) (.ref cl_NoSetup) = some false)
    (s_NoText_NoText : PySem.W.subIn K (.ref cl_NoText) (.ref cl_NoText) = some true)
    (s_NoText_NoTicks : PySem.W.subIn K (.ref cl_NoText) (.ref cl_NoTicks) = some false)
    (s_NoText_NothingLeft : PySem.W.subIn K (.ref cl_NoText) (.ref cl_NothingLeft) = some false)
    (s_NoText_NotWaiting : PySem.W.subIn K (.ref cl_NoText) (.ref cl_NotWaiting) = some false)
    (s_NoText_NoValue : PySem.W.subIn K (.ref cl_NoText) (.ref cl_NoValue) = some false)
    (s_NoText_TooDeep : PySem.W.subIn K (.ref cl_NoText) (.ref cl_TooDeep) = some false)
    (s_NoText_TooMany : PySem.W.subIn K (.ref cl_NoText) (.ref cl_TooMany) = some false)
    (xv_NoText : PySem.W.subIn K (.ref cl_NoText) (.type "ValueError") = some true)
    (xg_NoText : PySem.W.findIn K (.ref cl_NoText) "__getattribute__" = some (some (.builtin "BaseException.__getattribute__")))
    (xk_NoText : PySem.W.findIn K (.ref cl_NoText) "__getattr__" = some none)
    (xs_NoText : PySem.W.subIn K (.ref cl_NoText) (.type "BaseException") = some true)
    (xa_NoText : PySem.W.findIn K (.ref cl_NoText) "__class__" = some (some (.builtin "object.__class__")))
    (xm_NoText : PySem.W.mroIn K cl_NoText (.type "object") = some true)
    (xp_NoText : PySem.W.keepIn K (.ref cl_NoText) = true)
    (no_NoText_line : PySem.W.findIn K (.ref cl_NoText) "line" = some none)
    (xo_NoText : K.lookup cl_NoText = some (excClassObj nm_NoText q_NoText cl_NoText N_NoText bs_NoText bm_NoText true sn_NoText sub_NoText ab_NoText col_NoText dd_NoText k0_NoText k1_NoText k2_NoText k3_NoText k5_NoText "ValueError.__new__"))
    (xr_NoText : PySem.HandSPX.refsVE bm_NoText = true)
    (xt_NoText : PySem.W.findIn K (.ref cl_NoText) "__setattr__" = some (some (.builtin "object.__setattr__")))
    (xi_NoText : PySem.W.findIn K (.ref cl_NoText) "__init__" = some (some (.ref fi_NoText)))
    (xy_NoText : PySem.W.typeIn K (.ref fi_NoText) = some (.type "function"))
    (li_NoText : K.lookup fi_NoText = some ⟨ioc_NoText, iod_NoText, .func (PySem.W.fnOf "__init__" "NoText.__init__" (defArgs s_NoText) (defBody s_NoText) (defScope s_NoText) (.ref dT_NoText) ikV_NoText idc_NoText ipm_NoText ian_NoText icd_NoText ict_NoText), isl_NoText⟩)
    (ci_NoText : PySem.W.codeIn K icd_NoText "NoText.__init__" = true)
    (ki_NoText : PySem.W.keepIn K (.ref fi_NoText) = true)
    (ld_NoText : K.lookup dT_NoText = some ⟨dcl_NoText, dod_NoText, .seq #[Value.none] dn_NoText, dsl_NoText⟩)
    (kg_PARTS : PySem.W.nsIn K mainGlobals "PARTS" = some (some (.ref kd_PARTS)))
    (kl_PARTS : K.lookup kd_PARTS = some ⟨.type "dict", none, .dict #[⟨PyData.keyHash w.params "read", .str "read" kt_PARTS_0, .ref kp_PARTS_0⟩, ⟨PyData.keyHash w.params "write", .str "write" kt_PARTS_1, .ref kp_PARTS_1⟩, ⟨PyData.keyHash w.params "ask", .str "ask" kt_PARTS_2, .ref kp_PARTS_2⟩, ⟨PyData.keyHash w.params "pass", .str "pass" kt_PARTS_3, .ref kp_PARTS_3⟩, ⟨PyData.keyHash w.params "deliver", .str "deliver" kt_PARTS_4, .ref kp_PARTS_4⟩, ⟨PyData.keyHash w.params "drop", .str "drop" kt_PARTS_5, .ref kp_PARTS_5⟩, ⟨PyData.keyHash w.params "save", .str "save" kt_PARTS_6, .ref kp_PARTS_6⟩, ⟨PyData.keyHash w.params "yield", .str "yield" kt_PARTS_7, .ref kp_PARTS_7⟩, ⟨PyData.keyHash w.params "fall", .str "fall" kt_PARTS_8, .ref kp_PARTS_8⟩, ⟨PyData.keyHash w.params "crash", .str "crash" kt_PARTS_9, .ref kp_PARTS_9⟩] kn_PARTS, #[]⟩)
    (ky_PARTS : (kd_PARTS == sysModules) = false)
    (kw_PARTS_0 : K.lookup kp_PARTS_0 = some ⟨.type "tuple", ko_PARTS_0, .seq #[.str "name" kx_PARTS_0_0, .str "name" kx_PARTS_0_1, .str "number" kx_PARTS_0_2] km_PARTS_0, ks_PARTS_0⟩)
    (kw_PARTS_1 : K.lookup kp_PARTS_1 = some ⟨.type "tuple", ko_PARTS_1, .seq #[.str "name" kx_PARTS_1_0, .str "name" kx_PARTS_1_1, .str "number" kx_PARTS_1_2, .str "number" kx_PARTS_1_3] km_PARTS_1, ks_PARTS_1⟩)
    (kw_PARTS_2 : K.lookup kp_PARTS_2 = some ⟨.type "tuple", ko_PARTS_2, .seq #[.str "name" kx_PARTS_2_0] km_PARTS_2, ks_PARTS_2⟩)
    (kw_PARTS_3 : K.lookup kp_PARTS_3 = some ⟨.type "tuple", ko_PARTS_3, .seq #[.str "number" kx_PARTS_3_0] km_PARTS_3, ks_PARTS_3⟩)
    (kw_PARTS_4 : K.lookup kp_PARTS_4 = some ⟨.type "tuple", ko_PARTS_4, .seq #[.str "number" kx_PARTS_4_0] km_PARTS_4, ks_PARTS_4⟩)
    (kw_PARTS_5 : K.lookup kp_PARTS_5 = some ⟨.type "tuple", ko_PARTS_5, .seq #[.str "number" kx_PARTS_5_0] km_PARTS_5, ks_PARTS_5⟩)
    (kw_PARTS_6 : K.lookup kp_PARTS_6 = some ⟨.type "tuple", ko_PARTS_6, .seq #[.str "name" kx_PARTS_6_0, .str "name" kx_PARTS_6_1] km_PARTS_6, ks_PARTS_6⟩)
    (kw_PARTS_7 : K.lookup kp_PARTS_7 = some ⟨.type "tuple", ko_PARTS_7, .seq #[.str "name" kx_PARTS_7_0, .str "name" kx_PARTS_7_1] km_PARTS_7, ks_PARTS_7⟩)
    (kw_PARTS_8 : K.lookup kp_PARTS_8 = some ⟨.type "tuple", ko_PARTS_8, .seq #[.str "name" kx_PARTS_8_0] km_PARTS_8, ks_PARTS_8⟩)
    (kw_PARTS_9 : K.lookup kp_PARTS_9 = some ⟨.type "tuple", ko_PARTS_9, .seq #[] km_PARTS_9, ks_PARTS_9⟩) :
    ∃ fd : FuncData, (∀ (s : Shared) (v : Value), BindsTo s fd ⟨[v], []⟩ [("script", v)]) ∧ ∀ base : Heap, K.In base → base.Ns mainGlobals mg → FnOk l.prog w K mg base CX0 6 fa fd ["script"] (splaw K) := by
  have N : Fre K mg := ⟨PySem.W.mg_none_of X G z_ValueError, PySem.W.mg_none_of X G z_abs, PySem.W.mg_none_of X G z_all, PySem.W.mg_none_of X G z_bool, PySem.W.mg_none_of X G z_enumerate, PySem.W.mg_none_of X G z_int, PySem.W.mg_none_of X G z_isinstance, PySem.W.mg_none_of X G z_len, PySem.W.mg_none_of X G z_min, PySem.W.mg_none_of X G z_range, PySem.W.mg_none_of X G z_str, PySem.W.mg_none_of X G z_tuple, PySem.W.mg_none_of X G z_zip, ⟨_, PySem.W.mg_of X G g_LETTERS⟩, ⟨_, PySem.W.mg_of X G g_LONGEST_NAME⟩, ⟨_, PySem.W.mg_of X G g_FIGURES⟩, ⟨_, PySem.W.mg_of X G g_MOST_FIGURES⟩⟩
  have e := hfa.symm.trans (PySem.W.mg_of X G a15)
  cases e
  have F0 := fun_mk (st := s_is_name) l0 c0 k0
  have F1 := fun_mk (st := s_number_of) l1 c1 k1
  have F2 := fun_mk (st := s_part_of) l2 c2 k2
  have F3 := fun_mk (st := s_step_of) l3 c3 k3
  have F4 := fun_mk (st := s_step_text) l4 c4 k4
  have F5 := fun_mk (st := s_steps_text) l5 c5 k5
  have F6 := fun_mk (st := s_read_step) l6 c6 k6
  have F7 := fun_mk (st := s_read_steps) l7 c7 k7
  have F8 := fun_mk (st := s__law_bag) l8 c8 k8
  have F9 := fun_mk (st := s__law_take) l9 c9 k9
  have F10 := fun_mk (st := s__law_kinds) l10 c10 k10
  have F11 := fun_mk (st := s__law_name) l11 c11 k11
  have F12 := fun_mk (st := s__law_any_step) l12 c12 k12
  have F13 := fun_mk (st := s__law_line) l13 c13 k13
  have F14 := fun_mk (st := s__law_no_text) l14 c14 k14
  have F15 := fun_mk (st := s_law) l15 c15 k15
  refine ⟨PySem.W.fnOf "law" "law" (defArgs s_law) (defBody s_law) (defScope s_law) .none kV15 dc15 pm15 an15 cd15 ct15, fun s v => .of_eq rfl, fun base _ _ => ?_⟩
  have FI_NoText : FunD K "__init__" "NoText.__init__" (defArgs s_NoText) (defBody s_NoText) (defScope s_NoText) [V.non] [] fi_NoText _ := ⟨⟨_, _, _, _, _, _, _, _, _, _, rfl, li_NoText, ci_NoText, .inr ⟨by simp, _, _, [Value.none], _, rfl, ld_NoText, rfl, .cons rfl .nil⟩, .inl rfl⟩, ki_NoText⟩
  have XT_NoText : OexC K cl_NoText := ⟨⟨nm_NoText, q_NoText, N_NoText, bs_NoText, bm_NoText, sn_NoText, sub_NoText, ab_NoText, col_NoText, dd_NoText, k0_NoText, k1_NoText, k2_NoText, k3_NoText, k5_NoText, xo_NoText, xr_NoText⟩, xt_NoText, xs_NoText, t_NoText, xp_NoText⟩
  have XI_NoText : XcI l.prog w K mg base "NoText" "line" cl_NoText [V.non] := ⟨PySem.W.mg_of X G b_NoText, XT_NoText, fi_NoText, _, xi_NoText, xy_NoText, init_NoText (base := base) (P := l.prog) (w := w) FI_NoText XT_NoText no_NoText_line ⟨PySem.W.mg_of X G b_ToldError, rd_ToldError, ga_ToldError, vi_ToldError⟩, (by obtain ⟨ds, hv, hb⟩ := FI_NoText.binds1 (ps := ["self", "line"]) 2 1 (by simp) rfl (fun _ _ _ _ _ _ _ us its h1 h2 => match us, its, h1, h2 with | [_, _], [_], _, _ => ⟨_, rfl, rfl⟩); cases hv; exact hb), fun _ => FI_NoText.binds1 (ps := ["self", "line"]) 1 0 (by simp) rfl (fun _ _ _ _ _ _ _ us its h1 h2 => match us, its, h1, h2 with | [_], [_], _, _ => ⟨_, rfl, rfl⟩)⟩
  have KD_NoText : Kd K mg cl_NoText (bbOf 0) := ⟨⟨_, PySem.W.mg_of X G b_AskedError, kit_ref s_NoText_NoText h_AskedError t_AskedError s_NoText_AskedError⟩, ⟨_, PySem.W.mg_of X G b_ToldError, kit_ref s_NoText_NoText h_ToldError t_ToldError s_NoText_ToldError⟩, ⟨_, PySem.W.mg_of X G b_Busy, kit_ref s_NoText_NoText h_Busy t_Busy s_NoText_Busy⟩, ⟨_, PySem.W.mg_of X G b_Clean, kit_ref s_NoText_NoText h_Clean t_Clean s_NoText_Clean⟩, ⟨_, PySem.W.mg_of X G b_NoClient, kit_ref s_NoText_NoText h_NoClient t_NoClient s_NoText_NoClient⟩, ⟨_, PySem.W.mg_of X G b_NoFile, kit_ref s_NoText_NoText h_NoFile t_NoFile s_NoText_NoFile⟩, ⟨_, PySem.W.mg_of X G b_NoLease, kit_ref s_NoText_NoText h_NoLease t_NoLease s_NoText_NoLease⟩, ⟨_, PySem.W.mg_of X G b_NoList, kit_ref s_NoText_NoText h_NoList t_NoList s_NoText_NoList⟩, ⟨_, PySem.W.mg_of X G b_NoMessage, kit_ref s_NoText_NoText h_NoMessage t_NoMessage s_NoText_NoMessage⟩, ⟨_, PySem.W.mg_of X G b_NoPage, kit_ref s_NoText_NoText h_NoPage t_NoPage s_NoText_NoPage⟩, ⟨_, PySem.W.mg_of X G b_NoRow, kit_ref s_NoText_NoText h_NoRow t_NoRow s_NoText_NoRow⟩, ⟨_, PySem.W.mg_of X G b_NoSetup, kit_ref s_NoText_NoText h_NoSetup t_NoSetup s_NoText_NoSetup⟩, ⟨_, PySem.W.mg_of X G b_NoText, kit_ref s_NoText_NoText h_NoText t_NoText s_NoText_NoText⟩, ⟨_, PySem.W.mg_of X G b_NoTicks, kit_ref s_NoText_NoText h_NoTicks t_NoTicks s_NoText_NoTicks⟩, ⟨_, PySem.W.mg_of X G b_NothingLeft, kit_ref s_NoText_NoText h_NothingLeft t_NothingLeft s_NoText_NothingLeft⟩, ⟨_, PySem.W.mg_of X G b_NotWaiting, kit_ref s_NoText_NoText h_NotWaiting t_NotWaiting s_NoText_NotWaiting⟩, ⟨_, PySem.W.mg_of X G b_NoValue, kit_ref s_NoText_NoText h_NoValue t_NoValue s_NoText_NoValue⟩, ⟨_, PySem.W.mg_of X G b_TooDeep, kit_ref s_NoText_NoText h_TooDeep t_TooDeep s_NoText_TooDeep⟩, ⟨_, PySem.W.mg_of X G b_TooMany, kit_ref s_NoText_NoText h_TooMany t_TooMany s_NoText_TooMany⟩, kit_VE xv_NoText, ⟨xg_NoText, xk_NoText, xs_NoText, h_NoText, xa_NoText, x_hn, x_ht, xm_NoText⟩⟩
  have L : Exn l.prog w K mg base (fun c => [cl_NoText].getD c 0) := ⟨XI_NoText, (fun c hc => by
    match c, hc with
    | 0, _ => exact KD_NoText
    | k + 1, h => exact absurd h (by omega)), (fun c hc => by
    match c, hc with
    | 0, _ => exact ⟨xg_NoText, xk_NoText, xs_NoText, h_NoText⟩
    | k + 1, h => exact absurd h (by omega)), (fun c hc => by
    match c, hc with
    | 0, _ => exact no_NoText_line
    | k + 1, h => exact absurd h (by omega)), ⟨cl_NoText, PySem.W.mg_of X G b_NoText, (fun c hc => by
    match c, hc with
    | 0, _ => exact PySem.W.exm_ref be_NoText h_NoText t_NoText s_NoText_NoText
    | k + 1, h => exact absurd h (by omega))⟩⟩
  have D_PARTS : ∃ W, mg "PARTS" = some (.ref W) ∧ KdT K w W tab_PARTS := ⟨kd_PARTS, PySem.W.mg_of X G kg_PARTS, ⟨_, _, ⟨kl_PARTS, ⟨⟨_, _, rfl, rfl⟩, ⟨⟨_, _, rfl, rfl⟩, ⟨⟨_, _, rfl, rfl⟩, ⟨⟨_, _, rfl, rfl⟩, ⟨⟨_, _, rfl, rfl⟩, ⟨⟨_, _, rfl, rfl⟩, ⟨⟨_, _, rfl, rfl⟩, ⟨⟨_, _, rfl, rfl⟩, ⟨⟨_, _, rfl, rfl⟩, ⟨⟨_, _, rfl, rfl⟩, trivial⟩⟩⟩⟩⟩⟩⟩⟩⟩⟩, ky_PARTS⟩, (.cons (vs := [.str "name", .str "name", .str "number"]) rfl rfl (fun H => .inr ⟨_, _, _, kw_PARTS_0, rfl, rfl, by show 3 ≤ sizeLine; decide, (.cons ⟨_, rfl⟩ (.cons ⟨_, rfl⟩ (.cons ⟨_, rfl⟩ .nil)))⟩) (fun _ _ => (.cons (.str _) (.cons (.str _) (.cons (.str _) .nil)))) (.cons (vs := [.str "name", .str "name", .str "number", .str "number"]) rfl rfl (fun H => .inr ⟨_, _, _, kw_PARTS_1, rfl, rfl, by show 4 ≤ sizeLine; decide, (.cons ⟨_, rfl⟩ (.cons ⟨_, rfl⟩ (.cons ⟨_, rfl⟩ (.cons ⟨_, rfl⟩ .nil))))⟩) (fun _ _ => (.cons (.str _) (.cons (.str _) (.cons (.str _) (.cons (.str _) .nil))))) (.cons (vs := [.str "name"]) rfl rfl (fun H => .inr ⟨_, _, _, kw_PARTS_2, rfl, rfl, by show 1 ≤ sizeLine; decide, (.cons ⟨_, rfl⟩ .nil)⟩) (fun _ _ => (.cons (.str _) .nil)) (.cons (vs := [.str "number"]) rfl rfl (fun H => .inr ⟨_, _, _, kw_PARTS_3, rfl, rfl, by show 1 ≤ sizeLine; decide, (.cons ⟨_, rfl⟩ .nil)⟩) (fun _ _ => (.cons (.str _) .nil)) (.cons (vs := [.str "number"]) rfl rfl (fun H => .inr ⟨_, _, _, kw_PARTS_4, rfl, rfl, by show 1 ≤ sizeLine; decide, (.cons ⟨_, rfl⟩ .nil)⟩) (fun _ _ => (.cons (.str _) .nil)) (.cons (vs := [.str "number"]) rfl rfl (fun H => .inr ⟨_, _, _, kw_PARTS_5, rfl, rfl, by show 1 ≤ sizeLine; decide, (.cons ⟨_, rfl⟩ .nil)⟩) (fun _ _ => (.cons (.str _) .nil)) (.cons (vs := [.str "name", .str "name"]) rfl rfl (fun H => .inr ⟨_, _, _, kw_PARTS_6, rfl, rfl, by show 2 ≤ sizeLine; decide, (.cons ⟨_, rfl⟩ (.cons ⟨_, rfl⟩ .nil))⟩) (fun _ _ => (.cons (.str _) (.cons (.str _) .nil))) (.cons (vs := [.str "name", .str "name"]) rfl rfl (fun H => .inr ⟨_, _, _, kw_PARTS_7, rfl, rfl, by show 2 ≤ sizeLine; decide, (.cons ⟨_, rfl⟩ (.cons ⟨_, rfl⟩ .nil))⟩) (fun _ _ => (.cons (.str _) (.cons (.str _) .nil))) (.cons (vs := [.str "name"]) rfl rfl (fun H => .inr ⟨_, _, _, kw_PARTS_8, rfl, rfl, by show 1 ≤ sizeLine; decide, (.cons ⟨_, rfl⟩ .nil)⟩) (fun _ _ => (.cons (.str _) .nil)) (.cons (vs := []) rfl rfl (fun H => .inr ⟨_, _, _, kw_PARTS_9, rfl, rfl, by show 0 ≤ sizeLine; decide, .nil⟩) (fun _ _ => .nil) .nil))))))))))⟩⟩
  have c_is_name := ok_is_name (base := base) (P := l.prog) (w := w) F0 (PySem.W.mg_of X G a0) N
  have c_number_of := ok_number_of (base := base) (P := l.prog) (w := w) F1 (PySem.W.mg_of X G a1) N
  have c_part_of := ok_part_of (base := base) (P := l.prog) (w := w) F2 (PySem.W.mg_of X G a2) N c_is_name c_number_of
  have c_step_of := ok_step_of (base := base) (P := l.prog) (w := w) F3 (PySem.W.mg_of X G a3) N D_PARTS c_part_of
  have c_step_text := ok_step_text (base := base) (P := l.prog) (w := w) F4 (PySem.W.mg_of X G a4) N
  have c_steps_text := ok_steps_text (base := base) (P := l.prog) (w := w) F5 (PySem.W.mg_of X G a5) N c_step_text
  have x_read_step := ok_read_step (base := base) (P := l.prog) (w := w) F6 (PySem.W.mg_of X G a6) N L c_step_of
  have c_read_step := x_read_step.cal
  have x_read_steps := ok_read_steps (base := base) (P := l.prog) (w := w) F7 (PySem.W.mg_of X G a7) N L c_step_of
  have c_read_steps := x_read_steps.cal
  have c__law_bag := ok__law_bag (base := base) (P := l.prog) (w := w) F8 (PySem.W.mg_of X G a8) N
  have c__law_take := ok__law_take (base := base) (P := l.prog) (w := w) F9 (PySem.W.mg_of X G a9) N
  have c__law_kinds := fun (c : Nat) (hc : c < 1) (d : Option Addr) => ok_kindsD (base := base) (P := l.prog) (w := w) (d := d) F10 (PySem.W.mg_of X G a10) N (L.kd c hc)
  have c__law_name := ok__law_name (base := base) (P := l.prog) (w := w) F11 (PySem.W.mg_of X G a11) N c__law_take
  have c__law_any_step := ok__law_any_step (base := base) (P := l.prog) (w := w) F12 (PySem.W.mg_of X G a12) N c__law_name c__law_take
  have c__law_line := ok__law_line (base := base) (P := l.prog) (w := w) F13 (PySem.W.mg_of X G a13) N
  have c__law_no_text := ok__law_no_text (base := base) (P := l.prog) (w := w) F14 (PySem.W.mg_of X G a14) N L c__law_kinds x_read_step x_read_steps
  exact ok_law_of law_true (base := base) (P := l.prog) (w := w) F15 N c__law_any_step c__law_bag c__law_line c__law_no_text c__law_take c_read_step c_read_steps c_step_text c_steps_text
end My
open PySem PySem.W PyProof.Rows
set_option maxRecDepth 100000 in
set_option maxHeartbeats 0 in
theorem PySem.Challenge.cw_pagelend_k58_steps_as_texts_holds : PySem.Challenge.rw_pagelend_k58_steps_as_texts.Holds := by
  w_on; o_law; k_head; (case hw => w_witness2)
  k_fill
  refine L2.walk_of (l := PySem.Challenge.rw_pagelend_k58_steps_as_texts) (n := 63) (k := 6) (x := "script") (CX := fun _ => L2.CX0) (sp := fun w => My.splaw _) rfl (by decide) rfl ⟨rfl, by decide, by decide⟩ (fun w h Y => PySem.W.kIn_of Y) ?F (fun _ _ a ns hl hO hS => ⟨a, ns, rfl, hO, hS, hl, fun _ => rfl⟩) (fun _ _ _ _ _ h => h)
  case F =>
    intro w mg fa h KX G hmg
    refine' My.all_mk KX G hmg ?a0 ?l0 ?c0 ?k0 ?a1 ?l1 ?c1 ?k1 ?a2 ?l2 ?c2 ?k2 ?a3 ?l3 ?c3 ?k3 ?a4 ?l4 ?c4 ?k4 ?a5 ?l5 ?c5 ?k5 ?a6 ?l6 ?c6 ?k6 ?a7 ?l7 ?c7 ?k7 ?a8 ?l8 ?c8 ?k8 ?a9 ?l9 ?c9 ?k9 ?a10 ?l10 ?c10 ?k10 ?a11 ?l11 ?c11 ?k11 ?a12 ?l12 ?c12 ?k12 ?a13 ?l13 ?c13 ?k13 ?a14 ?l14 ?c14 ?k14 ?a15 ?l15 ?c15 ?k15 ?g_LETTERS ?g_LONGEST_NAME ?g_FIGURES ?g_MOST_FIGURES ?z_ValueError ?z_abs ?z_all ?z_bool ?z_enumerate ?z_int ?z_isinstance ?z_len ?z_min ?z_range ?z_str ?z_tuple ?z_zip ?b_NoText ?b_AskedError ?b_ToldError ?b_Busy ?b_Clean ?b_NoClient ?b_NoFile ?b_NoLease ?b_NoList ?b_NoMessage ?b_NoPage ?b_NoRow ?b_NoSetup ?b_NoTicks ?b_NothingLeft ?b_NotWaiting ?b_NoValue ?b_TooDeep ?b_TooMany ?h_AskedError ?t_AskedError ?h_ToldError ?t_ToldError ?h_Busy ?t_Busy ?h_Clean ?t_Clean ?h_NoClient ?t_NoClient ?h_NoFile ?t_NoFile ?h_NoLease ?t_NoLease ?h_NoList ?t_NoList ?h_NoMessage ?t_NoMessage ?h_NoPage ?t_NoPage ?h_NoRow ?t_NoRow ?h_NoSetup ?t_NoSetup ?h_NoText ?t_NoText ?h_NoTicks ?t_NoTicks ?h_NothingLeft ?t_NothingLeft ?h_NotWaiting ?t_NotWaiting ?h_NoValue ?t_NoValue ?h_TooDeep ?t_TooDeep ?h_TooMany ?t_TooMany ?be_NoText ?x_hn ?x_ht ?rd_ToldError ?ga_ToldError ?vi_ToldError ?s_NoText_AskedError ?s_NoText_ToldError ?s_NoText_Busy ?s_NoText_Clean ?s_NoText_NoClient ?s_NoText_NoFile ?s_NoText_NoLease ?s_NoText_NoList ?s_NoText_NoMessage ?s_NoText_NoPage ?s_NoText_NoRow ?s_NoText_NoSetup ?s_NoText_NoText ?s_NoText_NoTicks ?s_NoText_NothingLeft ?s_NoText_NotWaiting ?s_NoText_NoValue ?s_NoText_TooDeep ?s_NoText_TooMany ?xv_NoText ?xg_NoText ?xk_NoText ?xs_NoText ?xa_NoText ?xm_NoText ?xp_NoText ?no_NoText_line ?xo_NoText ?xr_NoText ?xt_NoText ?xi_NoText ?xy_NoText ?li_NoText ?ci_NoText ?ki_NoText ?ld_NoText ?kg_PARTS ?kl_PARTS ?ky_PARTS ?kw_PARTS_0 ?kw_PARTS_1 ?kw_PARTS_2 ?kw_PARTS_3 ?kw_PARTS_4 ?kw_PARTS_5 ?kw_PARTS_6 ?kw_PARTS_7 ?kw_PARTS_8 ?kw_PARTS_9
    (case a0 => k_is); (case l0 => k_is); (case c0 => k_is); (case k0 => k_is); (case a1 => k_is); (case l1 => k_is); (case c1 => k_is); (case k1 => k_is); (case a2 => k_is); (case l2 => k_is); (case c2 => k_is); (case k2 => k_is); (case a3 => k_is); (case l3 => k_is); (case c3 => k_is); (case k3 => k_is); (case a4 => k_is); (case l4 => k_is); (case c4 => k_is); (case k4 => k_is); (case a5 => k_is); (case l5 => k_is); (case c5 => k_is); (case k5 => k_is); (case a6 => k_is); (case l6 => k_is); (case c6 => k_is); (case k6 => k_is); (case a7 => k_is); (case l7 => k_is); (case c7 => k_is); (case k7 => k_is); (case a8 => k_is); (case l8 => k_is); (case c8 => k_is); (case k8 => k_is); (case a9 => k_is); (case l9 => k_is); (case c9 => k_is); (case k9 => k_is); (case a10 => k_is); (case l10 => k_is); (case c10 => k_is); (case k10 => k_is); (case a11 => k_is); (case l11 => k_is); (case c11 => k_is); (case k11 => k_is); (case a12 => k_is); (case l12 => k_is); (case c12 => k_is); (case k12 => k_is); (case a13 => k_is); (case l13 => k_is); (case c13 => k_is); (case k13 => k_is); (case a14 => k_is); (case l14 => k_is); (case c14 => k_is); (case k14 => k_is); (case a15 => k_is); (case l15 => k_is); (case c15 => k_is); (case k15 => k_is); (case g_LETTERS => k_is); (case g_LONGEST_NAME => k_is); (case g_FIGURES => k_is); (case g_MOST_FIGURES => k_is); (case z_ValueError => k_is); (case z_abs => k_is); (case z_all => k_is); (case z_bool => k_is); (case z_enumerate => k_is); (case z_int => k_is); (case z_isinstance => k_is); (case z_len => k_is); (case z_min => k_is); (case z_range => k_is); (case z_str => k_is); (case z_tuple => k_is); (case z_zip => k_is); (case b_NoText => k_is); (case b_AskedError => k_is); (case b_ToldError => k_is); (case b_Busy => k_is); (case b_Clean => k_is); (case b_NoClient => k_is); (case b_NoFile => k_is); (case b_NoLease => k_is); (case b_NoList => k_is); (case b_NoMessage => k_is); (case b_NoPage => k_is); (case b_NoRow => k_is); (case b_NoSetup => k_is); (case b_NoTicks => k_is); (case b_NothingLeft => k_is); (case b_NotWaiting => k_is); (case b_NoValue => k_is); (case b_TooDeep => k_is); (case b_TooMany => k_is); (case h_AskedError => k_is); (case t_AskedError => k_is); (case h_ToldError => k_is); (case t_ToldError => k_is); (case h_Busy => k_is); (case t_Busy => k_is); (case h_Clean => k_is); (case t_Clean => k_is); (case h_NoClient => k_is); (case t_NoClient => k_is); (case h_NoFile => k_is); (case t_NoFile => k_is); (case h_NoLease => k_is); (case t_NoLease => k_is); (case h_NoList => k_is); (case t_NoList => k_is); (case h_NoMessage => k_is); (case t_NoMessage => k_is); (case h_NoPage => k_is); (case t_NoPage => k_is); (case h_NoRow => k_is); (case t_NoRow => k_is); (case h_NoSetup => k_is); (case t_NoSetup => k_is); (case h_NoText => k_is); (case t_NoText => k_is); (case h_NoTicks => k_is); (case t_NoTicks => k_is); (case h_NothingLeft => k_is); (case t_NothingLeft => k_is); (case h_NotWaiting => k_is); (case t_NotWaiting => k_is); (case h_NoValue => k_is); (case t_NoValue => k_is); (case h_TooDeep => k_is); (case t_TooDeep => k_is); (case h_TooMany => k_is); (case t_TooMany => k_is); (case be_NoText => k_is); (case x_hn => k_is); (case x_ht => k_is); (case rd_ToldError => k_is); (case ga_ToldError => k_is); (case vi_ToldError => k_is); (case s_NoText_AskedError => k_is); (case s_NoText_ToldError => k_is); (case s_NoText_Busy => k_is); (case s_NoText_Clean => k_is); (case s_NoText_NoClient => k_is); (case s_NoText_NoFile => k_is); (case s_NoText_NoLease => k_is); (case s_NoText_NoList => k_is); (case s_NoText_NoMessage => k_is); (case s_NoText_NoPage => k_is); (case s_NoText_NoRow => k_is); (case s_NoText_NoSetup => k_is); (case s_NoText_NoText => k_is); (case s_NoText_NoTicks => k_is); (case s_NoText_NothingLeft => k_is); (case s_NoText_NotWaiting => k_is); (case s_NoText_NoValue => k_is); (case s_NoText_TooDeep => k_is); (case s_NoText_TooMany => k_is); (case xv_NoText => k_is); (case xg_NoText => k_is); (case xk_NoText => k_is); (case xs_NoText => k_is); (case xa_NoText => k_is); (case xm_NoText => k_is); (case xp_NoText => k_is); (case no_NoText_line => k_is); (case xo_NoText => k_is); (case xr_NoText => exact rfl); (case xt_NoText => k_is); (case xi_NoText => k_is); (case xy_NoText => k_is); (case li_NoText => k_is); (case ci_NoText => k_is); (case ki_NoText => k_is); (case ld_NoText => k_is); (case kg_PARTS => k_is); (case kl_PARTS => k_is); (case ky_PARTS => decide); (case kw_PARTS_0 => k_is); (case kw_PARTS_1 => k_is); (case kw_PARTS_2 => k_is); (case kw_PARTS_3 => k_is); (case kw_PARTS_4 => k_is); (case kw_PARTS_5 => k_is); (case kw_PARTS_6 => k_is); (case kw_PARTS_7 => k_is); (case kw_PARTS_8 => k_is); (case kw_PARTS_9 => k_is)

